/- What Find of package space answers, and Same and SamePieces of the reference. -/
import Derived.Test.YtddllchobojmlaaEq
namespace Go.Proofs.Ytddllchobojmlaa
open Go.RowKit Go.Sort
/-- The cells of a piece at an address. -/
structure PcAt (w : World) (b o : Nat) (x : Pc) : Prop where
  c0 : w.cell? ⟨b, o, none⟩ = some (.int .i64 x.inn)
  c1 : w.cell? ⟨b, o + 1, none⟩ = some (.int .i64 x.id)
  c2 : w.cell? ⟨b, o + 2, none⟩ = some (.int .i64 x.off)
  c3 : w.cell? ⟨b, o + 3, none⟩ = some (.int .i64 x.n)
def PsAt (w : World) (p : Option Addr) (l : List Pc) : Prop :=
  ∀ j, (h : j < l.length) → ∃ b off, p = some ⟨b, off, none⟩ ∧ b < w.heap.size ∧ PcAt w b (off + j * 4) l[j]
theorem PcAt.below {w w' : World} {b o : Nat} {m : Pc} {B : Nat} (h : PcAt w b o m) (hb : Below B w w') (hB : b < B) : PcAt w' b o m :=
  ⟨(hb.cell (p := ⟨b, o, none⟩) hB).trans h.c0, (hb.cell (p := ⟨b, o + 1, none⟩) hB).trans h.c1, (hb.cell (p := ⟨b, o + 2, none⟩) hB).trans h.c2, (hb.cell (p := ⟨b, o + 3, none⟩) hB).trans h.c3⟩
theorem PsAt.below {w w' : World} {p : Option Addr} {l : List Pc} (h : PsAt w p l) (hb : Below w.heap.size w w') : PsAt w' p l := fun j hj => by
  obtain ⟨b, off, rfl, hbl, hm⟩ := h j hj
  exact ⟨b, off, rfl, Nat.lt_of_lt_of_le hbl hb.size, hm.below hb hbl⟩
set_option maxRecDepth 100000 in
set_option maxHeartbeats 2000000 in
theorem SamePieces_any (p q : Option Addr) (cp cq : Nat) (a b : List Pc) (w : World) (hn : a.length < 1000000) (ha : PsAt w p a) (hb : PsAt w q b) :
    Calls Try.prog 20 #[.slice p a.length cp, .slice q b.length cq] w fun e w' => e = .returned (.bool (decide (a = b))) ∧ Below w.heap.size w w' := by
  by_cases hl : a.length = b.length
  · have hl1 : ((a.length : Int) == (b.length : Int)) = true := by simp [hl]
    have HL := Lib.hid hl
    clear hl
    go_enter Try.func20, Try.ntmps20
    go_wp2
    go_loopw [13] (fun i wr => ∃ k : Nat, k ≤ a.length ∧ i = .int .i64 k ∧ a.take k = b.take k ∧ Below w.heap.size w wr) (fun i _ => a.length - (intOf i).toNat)
    case atStart => exact ⟨0, Nat.zero_le _, rfl, by simp, Below.refl _ _⟩
    case round =>
      obtain ⟨k, hk, rfl, hr, hbr⟩ := hrel
      have HR := Lib.hid hr; clear hr
      by_cases hlt : k < a.length
      · have hlt2 : k < b.length := by have := HL.out; omega
        have hki : (k : Int) < (a.length : Int) := by omega
        have hki2 : (k : Int) < (b.length : Int) := by omega
        obtain ⟨b1, o1, rfl, hb1, hq1⟩ := ha k hlt
        obtain ⟨b2, o2, rfl, hb2, hq2⟩ := hb k hlt2
        obtain ⟨c0, c1, c2, c3⟩ := hq1.below hbr hb1
        obtain ⟨d0, d1, d2, d3⟩ := hq2.below hbr hb2
        have hz := hbr.size
        have hb1r : b1 < wr.heap.size := by omega
        have hb2r : b2 < wr.heap.size := by omega
        have EQ := eq_pc a[k] b[k]
        clear ha hb hq1 hq2
        have HT1 := Lib.hid (List.take_succ_eq_append_getElem hlt)
        have HT2 := Lib.hid (List.take_succ_eq_append_getElem hlt2)
        by_cases he : a[k] = b[k]
        · have he' : decide (a[k] = b[k]) = true := by simp [he]
          have HE := Lib.hid he
          clear he
          go_wp2
          go_quiet (fail)
          go_wp2
          go_roundw
          case rel => exact ⟨k + 1, by omega, by go_num, by rw [HT1.out, HT2.out, HR.out, HE.out], bdn hbr _⟩
          case measure => simp [intOf]; omega
        · have he' : decide (a[k] = b[k]) = false := by simp [he]
          have HE := Lib.hid he
          clear he
          go_wp2
          go_quiet (fail)
          go_wp2
          go_ret
          exact ⟨ret_bool (by symm; rw [decide_eq_false_iff_not]; intro h; subst h; exact HE.out rfl), bdn hbr _⟩
      · obtain rfl : k = a.length := by omega
        have hkk : ¬ (a.length : Int) < (a.length : Int) := by omega
        go_wp2
        go_ret
        exact ⟨ret_bool (by symm; rw [decide_eq_true_eq]; have := HR.out; rw [List.take_length, HL.out, List.take_length] at this; exact this), hbr⟩
  · have hl1 : ((a.length : Int) == (b.length : Int)) = false := by simp; omega
    have HL := Lib.hid hl
    clear hl
    go_enter Try.func20, Try.ntmps20
    go_wp2
    go_ret
    exact ⟨ret_bool (by symm; rw [decide_eq_false_iff_not]; intro h; exact HL.out (by rw [h])), Below.refl _ _⟩
set_option maxRecDepth 100000 in
set_option maxHeartbeats 2000000 in
theorem Same_any (p q : Option Addr) (cp cq : Nat) (a b : List Mp) (w : World) (hn : a.length < 1000000) (ha : MsAt w p a) (hb : MsAt w q b) :
    Calls Try.prog 16 #[.slice p a.length cp, .slice q b.length cq] w fun e w' => e = .returned (.bool (decide (a = b))) ∧ Below w.heap.size w w' := by
  by_cases hl : a.length = b.length
  · have hl1 : ((a.length : Int) == (b.length : Int)) = true := by simp [hl]
    have HL := Lib.hid hl
    clear hl
    go_enter Try.func16, Try.ntmps16
    go_wp2
    go_loopw [13] (fun i wr => ∃ k : Nat, k ≤ a.length ∧ i = .int .i64 k ∧ a.take k = b.take k ∧ Below w.heap.size w wr) (fun i _ => a.length - (intOf i).toNat)
    case atStart => exact ⟨0, Nat.zero_le _, rfl, by simp, Below.refl _ _⟩
    case round =>
      obtain ⟨k, hk, rfl, hr, hbr⟩ := hrel
      have HR := Lib.hid hr; clear hr
      by_cases hlt : k < a.length
      · have hlt2 : k < b.length := by have := HL.out; omega
        have hki : (k : Int) < (a.length : Int) := by omega
        have hki2 : (k : Int) < (b.length : Int) := by omega
        obtain ⟨b1, o1, rfl, hb1, hq1⟩ := ha k hlt
        obtain ⟨b2, o2, rfl, hb2, hq2⟩ := hb k hlt2
        obtain ⟨c0, c1, c2, c3, c4, c5, c6⟩ := hq1.below hbr hb1
        obtain ⟨d0, d1, d2, d3, d4, d5, d6⟩ := hq2.below hbr hb2
        have hz := hbr.size
        have hb1r : b1 < wr.heap.size := by omega
        have hb2r : b2 < wr.heap.size := by omega
        have EQ := eq_mp a[k] b[k]
        clear ha hb hq1 hq2
        have HT1 := Lib.hid (List.take_succ_eq_append_getElem hlt)
        have HT2 := Lib.hid (List.take_succ_eq_append_getElem hlt2)
        by_cases he : a[k] = b[k]
        · have he' : decide (a[k] = b[k]) = true := by simp [he]
          have HE := Lib.hid he
          clear he
          go_wp2
          go_quiet (fail)
          go_wp2
          go_roundw
          case rel => exact ⟨k + 1, by omega, by go_num, by rw [HT1.out, HT2.out, HR.out, HE.out], bdn hbr _⟩
          case measure => simp [intOf]; omega
        · have he' : decide (a[k] = b[k]) = false := by simp [he]
          have HE := Lib.hid he
          clear he
          go_wp2
          go_quiet (fail)
          go_wp2
          go_ret
          exact ⟨ret_bool (by symm; rw [decide_eq_false_iff_not]; intro h; subst h; exact HE.out rfl), bdn hbr _⟩
      · obtain rfl : k = a.length := by omega
        have hkk : ¬ (a.length : Int) < (a.length : Int) := by omega
        go_wp2
        go_ret
        exact ⟨ret_bool (by symm; rw [decide_eq_true_eq]; have := HR.out; rw [List.take_length, HL.out, List.take_length] at this; exact this), hbr⟩
  · have hl1 : ((a.length : Int) == (b.length : Int)) = false := by simp; omega
    have HL := Lib.hid hl
    clear hl
    go_enter Try.func16, Try.ntmps16
    go_wp2
    go_ret
    exact ⟨ret_bool (by symm; rw [decide_eq_false_iff_not]; intro h; exact HL.out (by rw [h])), Below.refl _ _⟩
set_option maxRecDepth 100000 in
set_option maxHeartbeats 2000000 in
theorem Find_any (p : Option Addr) (cap : Nat) (l : List Mp) (a need : Int) (w : World) (ha : 0 ≤ a) (ha2 : a < 18446744073709551616) (hR : RAt w p cap l) :
    Calls Try.prog 19 #[.slice p l.length cap, .int .u64 a, .int .i64 need] w fun e w' => ∃ v, e = .returned (.tuple #[v, .int .i64 (spanE l a 1 need)]) ∧ w'.ownsRow w.heap.size 41 4 v (spanL l a 1 need).length (flatP (spanL l a 1 need)) ∧ Below w.heap.size w w' := by
  have HS := Lib.hid (Span_any p cap l a 1 need w ha ha2 hR)
  clear hR
  go_enter Try.func19, Try.ntmps19
  go_wp2_with (first | (go_at_call 17; refine HS.out.mono ?_; rintro e w1 ⟨v, rfl, ho1, hb1⟩))
  go_ret2
  exact ⟨v, rfl, ho1, hb1⟩
end Go.Proofs.Ytddllchobojmlaa
