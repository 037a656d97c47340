/- What SameInts and In of the reference answer, for every row of numbers. -/
import Derived.Test.YtonhdkldacghoaaOb
import Derived.Test.YtonhdkldacghoaaNamed
import Derived.Lib.Hide
import Derived.Laws.OwnMore
import Derived.Deep.QuietTactic
namespace Go.Proofs.Ytonhdkldacghoaa
open Go.RowKit Go.Sort
theorem row_ints {w : World} {base : Nat} {p : Option Addr} {cap : Nat} {l : List Int} (h : w.ownsRow base 3 1 (.slice p l.length cap) l.length (icells l)) : IntsAt w p l := by
  intro k hlt
  rcases h.2 with ⟨hv, h0⟩ | ⟨g, cap', cur, hv, _, hg, _⟩
  · omega
  · simp at hv
    obtain ⟨rfl, rfl⟩ := hv
    refine ⟨g, 0, rfl, (Array.getElem?_eq_some_iff.1 hg).1, ?_⟩
    rw [Nat.zero_add, h.cellAt k (by omega)]
    unfold icells; simp [hlt]
theorem row_form {w : World} {base e size n : Nat} {v : Value} {xs : List Value} (h : w.ownsRow base e size v n xs) : ∃ sp cap, v = .slice sp n cap := by
  rcases h.2 with ⟨rfl, h0⟩ | ⟨g, cap, _, rfl, _⟩
  · exact ⟨none, 0, by rw [h0]⟩
  · exact ⟨_, _, rfl⟩
theorem take_eq {a b : List Int} {k : Nat} (ha : k < a.length) (hb : k < b.length) (h : a.take k = b.take k) (he : a[k] = b[k]) : a.take (k + 1) = b.take (k + 1) := by
  rw [List.take_succ_eq_append_getElem ha, List.take_succ_eq_append_getElem hb, h, he]
theorem take_ne {a b : List Int} {k : Nat} (ha : k < a.length) (hb : k < b.length) (he : ¬ a[k] = b[k]) : a ≠ b := fun e => by subst e; exact he rfl
set_option maxRecDepth 100000 in
set_option maxHeartbeats 1000000 in
theorem SameInts_any (w : World) (p q : Option Addr) (c d : Nat) (a b : List Int) (ha : IntsAt w p a) (hb : IntsAt w q b) (hla : a.length ≤ maxLen) :
    Calls Try.prog 17 #[.slice p a.length c, .slice q b.length d] w fun e w' => e = .returned (.bool (a == b)) ∧ Below w.heap.size w w' := by
  unfold maxLen at hla
  by_cases hl : a.length = b.length
  · have HL := Lib.hid hl
    have hli : ¬ ((a.length : Int) ≠ (b.length : Int)) := by omega
    have hlb : ((a.length : Int) != (b.length : Int)) = false := by simp [hl]
    clear hl
    go_enter Try.func17, Try.ntmps17
    go_wp2_with fail
    go_loopw [13] (fun y wr => ∃ k : Nat, y = .int .i64 k ∧ k ≤ a.length ∧ a.take k = b.take k ∧ Below w.heap.size w wr) (fun y _ => (a.length - (RowKit.intOf y).toNat))
    case atStart => exact ⟨0, rfl, Nat.zero_le _, rfl, Below.refl _ _⟩
    case round =>
      obtain ⟨k, rfl, hk, htk, hB⟩ := hrel
      have HTK := Lib.hid htk
      have HBw := Lib.hid hB
      clear htk
      by_cases hlt : k < a.length
      · have hltb : k < b.length := by have := HL.out; omega
        have hki : (k : Int) < (a.length : Int) := by omega
        have hkj : (k : Int) < (b.length : Int) := by omega
        obtain ⟨ga, oa, rfl, hga, cga⟩ := ha k hlt
        obtain ⟨gb, ob, rfl, hgb, cgb⟩ := hb k hltb
        have d0 : ∀ n, (wr.drewN n).cell? ⟨ga, oa + k, none⟩ = some (.int .i64 a[k]) := fun n => show wr.cell? _ = _ from (hB.cell (p := ⟨ga, oa + k, none⟩) hga).trans cga
        have d1 : ∀ n, (wr.drewN n).cell? ⟨gb, ob + k, none⟩ = some (.int .i64 b[k]) := fun n => show wr.cell? _ = _ from (hB.cell (p := ⟨gb, ob + k, none⟩) hgb).trans cgb
        have HTE := fun e => Lib.hid (take_eq hlt hltb HTK.out e)
        have HNE := fun e => Lib.hid (take_ne hlt hltb e)
        obtain ⟨xa, hxa⟩ : ∃ xa, a[k] = xa := ⟨_, rfl⟩
        obtain ⟨xb, hxb⟩ : ∃ xb, b[k] = xb := ⟨_, rfl⟩
        simp only [hxa] at d0 HTE HNE
        simp only [hxb] at d1 HTE HNE
        clear ha hb cga cgb hB hxa hxb
        by_cases he : xa = xb
        · have heb : (xa != xb) = false := by simp [he]
          have HT2 := HTE he
          have heq : (xa == xb) = true := by simp [he]
          clear HTE HNE
          go_wp2_with fail
          go_quiet (fail)
          go_wp2_with fail
          go_roundw
          case rel => exact ⟨k + 1, by go_num, by omega, HT2.out, HBw.out.trans ⟨rfl, rfl, rfl, Nat.le_refl _, fun _ _ => rfl⟩⟩
          case measure => simp [RowKit.intOf]; omega
        · have heb : (xa != xb) = true := by simp [he]
          have HN2 := HNE he
          clear HTE HNE
          go_wp2_with fail
          go_quiet (fail)
          go_wp2_with fail
          go_ret
          exact ⟨by rw [show (a == b) = false from by simpa using HN2.out]; rfl, HBw.out.trans ⟨rfl, rfl, rfl, Nat.le_refl _, fun _ _ => rfl⟩⟩
      · obtain rfl : k = a.length := by omega
        have hkk : ¬ (a.length : Int) < (a.length : Int) := by omega
        have hee : a = b := by have := HTK.out; rw [List.take_length, HL.out, List.take_length] at this; exact this
        have HEE := Lib.hid hee
        clear hee ha hb hB
        go_wp2_with fail
        go_ret
        exact ⟨by rw [show (a == b) = true from by simpa using HEE.out]; rfl, HBw.out⟩
  · have hli : ((a.length : Int) ≠ (b.length : Int)) := by omega
    have hlb : ((a.length : Int) != (b.length : Int)) = true := by simpa using hli
    have HNE : Hid ((a == b) = false) := by
      show (a == b) = false
      simp only [beq_eq_false_iff_ne, ne_eq]
      intro e; exact hl (by rw [e])
    clear ha hb hl
    go_enter Try.func17, Try.ntmps17
    go_wp2_with fail
    go_ret
    exact ⟨by rw [HNE.out]; rfl, Below.refl _ _⟩
def inB (l : List Int) (x : Int) : Bool := l.any fun y => y == x
theorem inB_iff {l : List Int} {x : Int} : inB l x = true ↔ x ∈ l := by unfold inB; simp
theorem inB_step {a : List Int} {k : Nat} (h : k < a.length) (x : Int) : inB (a.take (k + 1)) x = (inB (a.take k) x || (a[k] == x)) := by
  unfold inB
  rw [List.take_succ_eq_append_getElem h, List.any_append]; simp
set_option maxRecDepth 100000 in
set_option maxHeartbeats 1000000 in
theorem In_any (w : World) (p : Option Addr) (c : Nat) (a : List Int) (x : Int) (ha : IntsAt w p a) (hla : a.length ≤ maxLen) :
    Calls Try.prog 13 #[.slice p a.length c, .int .i64 x] w fun e w' => e = .returned (.bool (inB a x)) ∧ w' = w := by
  unfold maxLen at hla
  have HA := Lib.hid ha
  clear ha
  go_enter Try.func13, Try.ntmps13
  go_wp2_with fail
  go_loopw [9] (fun y wr => ∃ k : Nat, y = .int .i64 k ∧ k ≤ a.length ∧ inB (a.take k) x = false ∧ w = wr) (fun y _ => (a.length - (RowKit.intOf y).toNat))
  case atStart => exact ⟨0, rfl, Nat.zero_le _, rfl, rfl⟩
  case round =>
    obtain ⟨k, rfl, hk, htk, rfl⟩ := hrel
    have HTK := Lib.hid htk
    clear htk
    by_cases hlt : k < a.length
    · have hki : (k : Int) < (a.length : Int) := by omega
      obtain ⟨ga, oa, rfl, hga, cga⟩ := HA.out k hlt
      have HST := Lib.hid (inB_step hlt x)
      have hmem : a[k] ∈ a := List.getElem_mem hlt
      obtain ⟨xa, hxa⟩ : ∃ xa, a[k] = xa := ⟨_, rfl⟩
      simp only [hxa] at cga HST hmem
      clear hxa
      by_cases he : xa = x
      · have heb : (xa == x) = true := by simp [he]
        have HM := Lib.hid (inB_iff.2 (he ▸ hmem))
        clear HST hmem
        go_wp2_with fail
        go_ret
        exact ⟨by rw [HM.out]; rfl, rfl⟩
      · have heb : (xa == x) = false := by simp [he]
        rw [heb, HTK.out] at HST
        have HST2 : Hid (inB (a.take (k + 1)) x = false) := HST.out
        clear HST
        clear hmem
        go_wp2_with fail
        go_roundw
        case rel => exact ⟨k + 1, by go_num, by omega, HST2.out, trivial⟩
        case measure => simp [RowKit.intOf]; omega
    · obtain rfl : k = a.length := by omega
      have hkk : ¬ (a.length : Int) < (a.length : Int) := by omega
      go_wp2_with fail
      go_ret
      have := HTK.out
      rw [List.take_length] at this
      exact ⟨by rw [this]; rfl, rfl⟩
end Go.Proofs.Ytonhdkldacghoaa
