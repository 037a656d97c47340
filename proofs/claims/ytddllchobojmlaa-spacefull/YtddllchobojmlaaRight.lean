/- What Right of package space answers. -/
import Derived.Test.YtddllchobojmlaaBase
namespace Go.Proofs.Ytddllchobojmlaa
open Go.RowKit Go.Sort
set_option maxHeartbeats 1000000 in
theorem rightMap_any (m : Mp) (w : World) : Calls Try.prog 21 #[mpV m] w fun e w' => e = .returned (.bool (goodM m)) ∧ w' = w.alloc (mpB m) := by
  unfold mpV
  by_cases h1 : 1 ≤ m.pg
  · by_cases h2 : m.pg ≤ 64
    · by_cases h3 : 0 ≤ m.at_
      · by_cases h4 : m.at_ ≤ 67108864 - m.pg
        · by_cases h5 : 0 ≤ m.fr
          · by_cases h6 : m.fr ≤ 64 - m.pg
            · by_cases h7 : rid m.inn = true
              · by_cases h8 : rid m.id = true
                · go_enter Try.func21, Try.ntmps21
                  go_wp2_with (go_at_call 32; refine (rightId_any _ _).mono ?_; rintro e w1 ⟨rfl, hw1⟩; rw [hw1]; clear hw1 w1)
                  go_ret
                  exact ⟨ret_bool (by symm; rw [goodM_iff]; exact ⟨by omega, h7, h8⟩), rfl⟩
                · have h8' : rid m.id = false := by simpa using h8
                  go_enter Try.func21, Try.ntmps21
                  go_wp2_with (go_at_call 32; refine (rightId_any _ _).mono ?_; rintro e w1 ⟨rfl, hw1⟩; rw [hw1]; clear hw1 w1)
                  go_ret
                  exact ⟨ret_bool (by symm; rw [Bool.eq_false_iff]; intro hh; have := (goodM_iff m).1 hh; exact absurd this.2.2 (by simpa using h8)), rfl⟩
              · have h7' : rid m.inn = false := by simpa using h7
                go_enter Try.func21, Try.ntmps21
                go_wp2_with (go_at_call 32; refine (rightId_any _ _).mono ?_; rintro e w1 ⟨rfl, hw1⟩; rw [hw1]; clear hw1 w1)
                go_ret
                exact ⟨ret_bool (by symm; rw [Bool.eq_false_iff]; intro hh; have := (goodM_iff m).1 hh; exact absurd this.2.1 (by simpa using h7)), rfl⟩
            · go_enter Try.func21, Try.ntmps21
              go_wp2_with (go_at_call 32; refine (rightId_any _ _).mono ?_; rintro e w1 ⟨rfl, hw1⟩; rw [hw1]; clear hw1 w1)
              go_ret
              exact ⟨ret_bool (by symm; rw [Bool.eq_false_iff]; intro hh; have := (goodM_iff m).1 hh; omega), rfl⟩
          · go_enter Try.func21, Try.ntmps21
            go_wp2_with (go_at_call 32; refine (rightId_any _ _).mono ?_; rintro e w1 ⟨rfl, hw1⟩; rw [hw1]; clear hw1 w1)
            go_ret
            exact ⟨ret_bool (by symm; rw [Bool.eq_false_iff]; intro hh; have := (goodM_iff m).1 hh; omega), rfl⟩
        · go_enter Try.func21, Try.ntmps21
          go_wp2_with (go_at_call 32; refine (rightId_any _ _).mono ?_; rintro e w1 ⟨rfl, hw1⟩; rw [hw1]; clear hw1 w1)
          go_ret
          exact ⟨ret_bool (by symm; rw [Bool.eq_false_iff]; intro hh; have := (goodM_iff m).1 hh; omega), rfl⟩
      · go_enter Try.func21, Try.ntmps21
        go_wp2_with (go_at_call 32; refine (rightId_any _ _).mono ?_; rintro e w1 ⟨rfl, hw1⟩; rw [hw1]; clear hw1 w1)
        go_ret
        exact ⟨ret_bool (by symm; rw [Bool.eq_false_iff]; intro hh; have := (goodM_iff m).1 hh; omega), rfl⟩
    · go_enter Try.func21, Try.ntmps21
      go_wp2_with (go_at_call 32; refine (rightId_any _ _).mono ?_; rintro e w1 ⟨rfl, hw1⟩; rw [hw1]; clear hw1 w1)
      go_ret
      exact ⟨ret_bool (by symm; rw [Bool.eq_false_iff]; intro hh; have := (goodM_iff m).1 hh; omega), rfl⟩
  · go_enter Try.func21, Try.ntmps21
    go_wp2_with (go_at_call 32; refine (rightId_any _ _).mono ?_; rintro e w1 ⟨rfl, hw1⟩; rw [hw1]; clear hw1 w1)
    go_ret
    exact ⟨ret_bool (by symm; rw [Bool.eq_false_iff]; intro hh; have := (goodM_iff m).1 hh; omega), rfl⟩
/-- Rising, each right, from a page on. -/
def rOk : Int → List Mp → Bool
  | _, [] => true
  | t, m :: l => goodM m && !(decide (m.at_ < t)) && rOk (m.at_ + m.pg) l
def rightS (l : List Mp) : Bool := decide (l.length ≤ 16) && rOk 0 l
def endAt (l : List Mp) (k : Nat) : Int := if k = 0 then 0 else (l.getD (k - 1) ⟨0, 0, 0, 0, 0, false, false⟩).at_ + (l.getD (k - 1) ⟨0, 0, 0, 0, 0, false, false⟩).pg
theorem rOk_step (t : Int) (l : List Mp) (k : Nat) (h : k < l.length) : rOk t (l.drop k) = (goodM l[k] && !(decide (l[k].at_ < t)) && rOk (l[k].at_ + l[k].pg) (l.drop (k + 1))) := by
  rw [List.drop_eq_getElem_cons h]; rfl
theorem endAt_succ (l : List Mp) (k : Nat) (h : k < l.length) : endAt l (k + 1) = l[k].at_ + l[k].pg := by
  simp [endAt, h]
set_option maxHeartbeats 1000000 in
theorem Right_any (p : Option Addr) (cap : Nat) (l : List Mp) (w : World) (hm : l.length ≤ maxLen) (hc : MsAt w p l) :
    Calls Try.prog 14 #[.slice p l.length cap] w fun e w' => e = .returned (.bool (rightS l)) ∧ Below w.heap.size w w' := by
  unfold maxLen at hm
  by_cases h2 : l.length ≤ 16
  · have h2' : ¬ (16 : Int) < (l.length : Int) := by omega
    go_enter Try.func14, Try.ntmps14
    go_wp2_with fail
    go_loopw [3, 11] (fun t i wr => ∃ k : Nat, k ≤ l.length ∧ t = .int .i64 (endAt l k) ∧ i = .int .i64 k ∧ rOk 0 l = rOk (endAt l k) (l.drop k) ∧ Below w.heap.size w wr) (fun _ i _ => l.length - (intOf i).toNat)
    case atStart => exact ⟨0, Nat.zero_le _, rfl, rfl, by simp [endAt], Below.refl _ _⟩
    case round =>
      obtain ⟨k, hk, rfl, rfl, hr, hb⟩ := hrel
      have HR := Lib.hid hr; clear hr
      by_cases hlt : k < l.length
      · obtain ⟨b, off, rfl, hbl, hq⟩ := hc k hlt
        obtain ⟨c0, c1, c2, c3, c4, c5, c6⟩ := hq.below hb hbl
        have hbw : b < wr.heap.size := Nat.lt_of_lt_of_le hbl hb.size
        have HS := Lib.hid (rOk_step (endAt l k) l k hlt)
        have HE := Lib.hid (endAt_succ l k hlt)
        have hki : (k : Int) < (l.length : Int) := by omega
        clear hc hq
        by_cases hg : goodM l[k] = true
        · have hg2 := ((goodM_iff _).1 hg).1
          by_cases ha : l[k].at_ < endAt l k
          · go_wp2_with (go_at_call 21; refine (rightMap_any l[k] _).mono ?_; rintro e w1 ⟨rfl, hw1⟩; rw [hw1]; clear hw1 w1)
            go_ret
            exact ⟨ret_bool (by unfold rightS; rw [HR.out, HS.out]; simp [ha]), (hb.alloc hb.size _).alloc (by simp; have := hb.size; omega) _⟩
          · go_wp2_with (first
              | (go_at_call 21; refine (rightMap_any l[k] _).mono ?_; rintro e w1 ⟨rfl, hw1⟩; rw [hw1]; clear hw1 w1)
              | (go_at_call 22; refine (end_any l[k] _ (by omega) (by omega)).mono ?_; rintro e w1 ⟨rfl, hw1⟩; rw [hw1]; clear hw1 w1))
            go_roundw
            case rel => exact ⟨k + 1, by omega, by rw [HE.out], by go_num, by rw [HR.out, HS.out, HE.out]; simp [ha, hg], ((hb.alloc hb.size _).alloc (by simp; have := hb.size; omega) _).alloc (by simp; have := hb.size; omega) _⟩
            case measure => simp [intOf]; omega
        · have hg' : goodM l[k] = false := by simpa using hg
          go_wp2_with (go_at_call 21; refine (rightMap_any l[k] _).mono ?_; rintro e w1 ⟨rfl, hw1⟩; rw [hw1]; clear hw1 w1)
          go_ret
          exact ⟨ret_bool (by unfold rightS; rw [HR.out, HS.out]; simp [hg']), (hb.alloc hb.size _).alloc (by simp; have := hb.size; omega) _⟩
      · obtain rfl : k = l.length := by omega
        have hkk : ¬ (l.length : Int) < (l.length : Int) := by omega
        go_wp2
        go_ret
        exact ⟨ret_bool (by unfold rightS; rw [HR.out, List.drop_length]; simp [rOk, h2]), hb⟩
  · have h2' : (16 : Int) < (l.length : Int) := by omega
    go_enter Try.func14, Try.ntmps14
    go_wp2
    go_ret
    exact ⟨ret_bool (by unfold rightS; simp; omega), Below.refl _ _⟩
end Go.Proofs.Ytddllchobojmlaa
