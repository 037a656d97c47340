/- What right of the statements' package and Same of the reference answer, for every label. -/
import Derived.Test.YtfpjeclbilhgdaaDoorOrder
namespace Go.Proofs.YtfpjeclbilhgdaaDoor
open Go.RowKit Go.Sort

structure Lab where
  d : Int
  p : Option Addr
  cap : Nat
  xs : List (Int × Int)
def Lab.val (l : Lab) : Value := .agg #[.int .i64 l.d, .slice l.p l.xs.length l.cap]
def LabsAt (W : World) (b : Nat) (ls : List Lab) : Prop := ∀ j, (h : j < ls.length) → W.cell? ⟨b, j * 2, none⟩ = some (.int .i64 ls[j].d) ∧ W.cell? ⟨b, j * 2 + 1, none⟩ = some (.slice ls[j].p ls[j].xs.length ls[j].cap) ∧ CatsAt W ls[j].p ls[j].xs ∧ ls[j].xs.length ≤ maxLen
def allRight (ls : List Lab) : Bool := ls.all fun l => rightS l.d l.xs
theorem allRight_step (ls : List Lab) (k : Nat) (h : k < ls.length) : allRight (ls.drop k) = (rightS ls[k].d ls[k].xs && allRight (ls.drop (k + 1))) := by
  unfold allRight; rw [List.drop_eq_getElem_cons h, List.all_cons]

theorem guardS : Tryd.prog.eqGuardType Tryd.prog.depth 35 = false := by kernel_rfl
theorem same_step (xs ys : List (Int × Int)) (k : Nat) (h1 : k < xs.length) (h2 : k < ys.length) : decide (xs.drop k = ys.drop k) = (decide (xs[k] = ys[k]) && decide (xs.drop (k + 1) = ys.drop (k + 1))) := by
  rw [List.drop_eq_getElem_cons h1, List.drop_eq_getElem_cons h2, Bool.eq_iff_iff, Bool.and_eq_true]
  simp only [decide_eq_true_eq, List.cons.injEq]

set_option maxRecDepth 100000 in
set_option maxHeartbeats 1000000 in
theorem Same_any (da db : Int) (p q : Option Addr) (cx cy : Nat) (xs ys : List (Int × Int)) (w : World) (hmx : xs.length ≤ maxLen) (hmy : ys.length ≤ maxLen) (hx : CatsAt w p xs) (hy : CatsAt w q ys) :
    Calls Tryd.prog 9 #[.agg #[.int .i64 da, .slice p xs.length cx], .agg #[.int .i64 db, .slice q ys.length cy]] w fun e w' => e = .returned (.bool (sameS da db xs ys)) ∧ Below w.heap.size w w' := by
  have hW : Below w.heap.size w ((w.alloc (.cells #[.int .i64 da, .slice p xs.length cx] 24)).alloc (.cells #[.int .i64 db, .slice q ys.length cy] 24)) := by go_grown
  unfold maxLen at hmx hmy
  have hg := guardS
  by_cases h1 : (da != db) = true
  · have h1' : sameS da db xs ys = false := by simp at h1; simp [sameS, h1]
    go_enter Tryd.func9, Tryd.ntmps9
    go_wp2
    go_ret
    exact ⟨ret_bool h1'.symm, by go_grown⟩
  · have h1f : (da != db) = false := by simpa using h1
    have hd : da = db := by simpa using h1
    by_cases h2 : ((xs.length : Int) != (ys.length : Int)) = true
    · have h2' : sameS da db xs ys = false := by
        have : xs ≠ ys := fun e => by subst e; simp at h2
        simp [sameS, this]
      clear hd
      go_enter Tryd.func9, Tryd.ntmps9
      go_wp2
      go_ret
      exact ⟨ret_bool h2'.symm, by go_grown⟩
    · have h2f : ((xs.length : Int) != (ys.length : Int)) = false := by simpa using h2
      have hl : xs.length = ys.length := by simp at h2; omega
      have HS : Hid (sameS da db xs ys = decide (xs = ys)) := by simp [Hid, sameS, hd]
      have HL : Hid (xs.length = ys.length) := hl
      have hl1 : xs.length ≤ ys.length := by omega
      have hl2 : ys.length ≤ xs.length := by omega
      clear hd hl h1 h2
      go_enter Tryd.func9, Tryd.ntmps9
      go_wp2
      go_loopw [23] (fun i wr => ∃ k : Nat, k ≤ xs.length ∧ i = .int .i64 k ∧ decide (xs = ys) = decide (xs.drop k = ys.drop k) ∧ Below (w.heap.size + 2) ((w.alloc (.cells #[.int .i64 da, .slice p xs.length cx] 24)).alloc (.cells #[.int .i64 db, .slice q ys.length cy] 24)) wr) (fun i _ => xs.length - (intOf i).toNat)
      case atStart => exact ⟨0, Nat.zero_le _, rfl, by simp, Below.refl _ _⟩
      case round =>
        obtain ⟨k, hk, rfl, hr, hb⟩ := hrel
        have HR : Hid (decide (xs = ys) = decide (xs.drop k = ys.drop k)) := hr; clear hr
        by_cases hlt : k < xs.length
        · have hlt2 : k < ys.length := by omega
          obtain ⟨b, off, rfl, hbl, c0, c1⟩ := hx.get hb hW (by omega) k hlt
          obtain ⟨b2, off2, rfl, hbl2, e0, e1⟩ := hy.get hb hW (by omega) k hlt2
          have a1 : wr.cell? ⟨w.heap.size, 1, none⟩ = some (.slice (some ⟨b, off, none⟩) xs.length cx) := (hb.cell (p := ⟨w.heap.size, 1, none⟩) (by simp)).trans (by simp [go_sem])
          have a2 : wr.cell? ⟨w.heap.size + 1, 1, none⟩ = some (.slice (some ⟨b2, off2, none⟩) ys.length cy) := (hb.cell (p := ⟨w.heap.size + 1, 1, none⟩) (by simp)).trans (by simp [go_sem])
          have HT : Hid (decide (xs.drop k = ys.drop k) = (decide (xs[k] = ys[k]) && decide (xs.drop (k + 1) = ys.drop (k + 1)))) := same_step xs ys k hlt hlt2
          have hki : (k : Int) < (xs.length : Int) := by omega
          have hkj : (k : Int) < (ys.length : Int) := by omega
          clear hx hy
          by_cases h3 : xs[k].1 = ys[k].1
          · by_cases h4 : xs[k].2 = ys[k].2
            · have HE : Hid (xs[k] = ys[k]) := Prod.ext h3 h4
              go_wp2
              go_quiet (fail)
              go_wp2
              go_roundw
              case rel => exact ⟨k + 1, by omega, by go_num, by rw [HR.out, HT.out, decide_eq_true HE.out]; rfl, bdn hb _⟩
              case measure => simp [intOf]; omega
            · have HE : Hid (xs[k] ≠ ys[k]) := fun e => h4 (congrArg Prod.snd e)
              go_wp2
              go_quiet (fail)
              go_wp2
              go_ret
              exact ⟨ret_bool (by rw [HS.out, HR.out, HT.out, decide_eq_false HE.out]; rfl), bdn (hW.trans (hb.mono (by omega))) _⟩
          · have HE : Hid (xs[k] ≠ ys[k]) := fun e => h3 (congrArg Prod.fst e)
            go_wp2
            go_quiet (fail)
            go_wp2
            go_ret
            exact ⟨ret_bool (by rw [HS.out, HR.out, HT.out, decide_eq_false HE.out]; rfl), bdn (hW.trans (hb.mono (by omega))) _⟩
        · go_wp2
          go_ret
          exact ⟨ret_bool (by rw [HS.out, HR.out, List.drop_of_length_le (by omega), List.drop_of_length_le (by have := HL.out; omega)]; rfl), hW.trans (hb.mono (by omega))⟩
end Go.Proofs.YtfpjeclbilhgdaaDoor
