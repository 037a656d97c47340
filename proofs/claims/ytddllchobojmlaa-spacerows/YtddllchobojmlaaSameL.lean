/- Same of the reference, for rows of any length. -/
import Derived.Test.YtddllchobojmlaaSame
namespace Go.Proofs.Ytddllchobojmlaa
open Go.RowKit Go.Sort
set_option maxRecDepth 100000 in
set_option maxHeartbeats 2000000 in
theorem SameL_any (p q : Option Addr) (cp cq : Nat) (a b : List Mp) (w : World) (hn : a.length ≤ 4611686018427387904) (ha : MsAt w p a) (hb : MsAt w q b) :
    Calls Try.prog 16 #[.slice p a.length cp, .slice q b.length cq] w fun e w' => e = .returned (.bool (decide (a = b))) ∧ Below w.heap.size w w' := by
  by_cases hl : a.length = b.length
  · have hl1 : ((a.length : Int) == (b.length : Int)) = true := by simp [hl]
    have HL := Lib.hid hl
    clear hl
    go_enter Try.func16, Try.ntmps16
    go_wp2
    go_loopw [13] (fun i wr => ∃ k : Nat, k ≤ a.length ∧ i = .int .i64 k ∧ a.take k = b.take k ∧ Below w.heap.size w wr) (fun i _ => a.length - (intOf i).toNat)
    case atStart => exact ⟨0, Nat.zero_le _, rfl, by simp, Below.refl _ _⟩
    case round =>
      obtain ⟨k, hk, rfl, hr, hbr⟩ := hrel
      have HR := Lib.hid hr; clear hr
      by_cases hlt : k < a.length
      · have hlt2 : k < b.length := by have := HL.out; omega
        have hki : (k : Int) < (a.length : Int) := by omega
        have hki2 : (k : Int) < (b.length : Int) := by omega
        obtain ⟨b1, o1, rfl, hb1, hq1⟩ := ha k hlt
        obtain ⟨b2, o2, rfl, hb2, hq2⟩ := hb k hlt2
        obtain ⟨c0, c1, c2, c3, c4, c5, c6⟩ := hq1.below hbr hb1
        obtain ⟨d0, d1, d2, d3, d4, d5, d6⟩ := hq2.below hbr hb2
        have hz := hbr.size
        have hb1r : b1 < wr.heap.size := by omega
        have hb2r : b2 < wr.heap.size := by omega
        have EQ := eq_mp a[k] b[k]
        clear ha hb hq1 hq2
        have HT1 := Lib.hid (List.take_succ_eq_append_getElem hlt)
        have HT2 := Lib.hid (List.take_succ_eq_append_getElem hlt2)
        by_cases he : a[k] = b[k]
        · have he' : decide (a[k] = b[k]) = true := by simp [he]
          have HE := Lib.hid he
          clear he
          go_wp2
          go_quiet (fail)
          go_wp2
          go_roundw
          case rel => exact ⟨k + 1, by omega, by go_num, by rw [HT1.out, HT2.out, HR.out, HE.out], bdn hbr _⟩
          case measure => simp [intOf]; omega
        · have he' : decide (a[k] = b[k]) = false := by simp [he]
          have HE := Lib.hid he
          clear he
          go_wp2
          go_quiet (fail)
          go_wp2
          go_ret
          exact ⟨ret_bool (by symm; rw [decide_eq_false_iff_not]; intro h; subst h; exact HE.out rfl), bdn hbr _⟩
      · obtain rfl : k = a.length := by omega
        have hkk : ¬ (a.length : Int) < (a.length : Int) := by omega
        go_wp2
        go_ret
        exact ⟨ret_bool (by symm; rw [decide_eq_true_eq]; have := HR.out; rw [List.take_length, HL.out, List.take_length] at this; exact this), hbr⟩
  · have hl1 : ((a.length : Int) == (b.length : Int)) = false := by simp; omega
    have HL := Lib.hid hl
    clear hl
    go_enter Try.func16, Try.ntmps16
    go_wp2
    go_ret
    exact ⟨ret_bool (by symm; rw [decide_eq_false_iff_not]; intro h; exact HL.out (by rw [h])), Below.refl _ _⟩
end Go.Proofs.Ytddllchobojmlaa
