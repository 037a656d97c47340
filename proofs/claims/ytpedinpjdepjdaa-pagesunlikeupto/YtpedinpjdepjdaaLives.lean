/- The law's lives answers true: the chapter's first example. -/
import Derived.Test.YtpedinpjdepjdaaRead
namespace Go.Proofs.Ytpedinpjdepjdaa
open Go.RowKit Go.Lib
theorem ps_new (w : World) (l : List ByteArray) : PsAt (w.alloc (.cells (l.map Value.string).toArray 9)) (some ⟨w.heap.size, 0, none⟩) l :=
  .inr ⟨w.heap.size, 0, _, _, rfl, heap_new _ _, fun j h => by simp [h]⟩
theorem size_of_blk {w : World} {base Bb : Nat} {d : List UInt8} {ls : List (Nat × Bool)} (h : BAt w base Bb d ls) : base ≤ w.heap.size := by
  obtain ⟨v, hv, _⟩ := h.blk; have := (Array.getElem?_eq_some_iff.1 hv).1; have := h.bb; omega
set_option maxRecDepth 100000 in
set_option maxHeartbeats 1000000 in
theorem lives_any (w : World) : Calls Try.prog 5 #[] w fun e w' => e = .returned (.bool true) ∧ Below w.heap.size w w' := by
  have H1 := Lib.hid (New_any 3 w (by omega))
  go_enter Try.func5, Try.ntmps5
  go_wp2_with (first | (go_at_call 6; refine H1.out.mono ?_; rintro e w1 ⟨rfl, ⟨ls1, hA1⟩, hB1⟩; refine Hid.out ?_))
  refine Lib.hid ?_
  have hb1 : Below w1.heap.size w1 (w1.alloc (.cells #[.string ⟨#[97]⟩, .string ⟨#[98]⟩] 9)) := (Below.refl _ _).alloc (Nat.le_refl _) _
  have H2 : Hid (Calls Try.prog 13 #[.pointer (some ⟨w.heap.size, 0, none⟩), .int .i64 1, .slice (some ⟨w1.heap.size, 0, none⟩) 2 2] (w1.alloc (.cells #[.string ⟨#[97]⟩, .string ⟨#[98]⟩] 9)) fun e w' => e = .returned (.int .i64 0) ∧ (∃ ls', BAt w' w.heap.size w.heap.size [0, 97, 98] ls') ∧ Below w.heap.size (w1.alloc (.cells #[.string ⟨#[97]⟩, .string ⟨#[98]⟩] 9)) w' ∧ Fr (w1.alloc (.cells #[.string ⟨#[97]⟩, .string ⟨#[98]⟩] 9)) w') :=
    Write_any w.heap.size w.heap.size _ ls1 _ 2 1 [⟨#[97]⟩, ⟨#[98]⟩] _ (hA1.below hb1) (ps_new w1 [⟨#[97]⟩, ⟨#[98]⟩]) (by decide) (by decide) (by decide)
  go_wp2_with (first | (go_at_call 13; refine H2.out.mono ?_; rintro e w2 ⟨rfl, ⟨ls2, hA2⟩, hB2, _⟩; refine Hid.out ?_))
  refine Lib.hid ?_
  have H3 : Hid (Calls Try.prog 14 #[.pointer (some ⟨w.heap.size, 0, none⟩), .int .i64 1, .int .i64 2] w2 fun e w' => e = .returned (.tuple #[.string ⟨#[97, 98]⟩, .int .i64 0]) ∧ Below w2.heap.size w2 w') :=
    Read_any w.heap.size w.heap.size 1 2 [0, 97, 98] ls2 w2 hA2 (by decide)
  go_wp2_with (first | (go_at_call 14; refine H3.out.mono ?_; rintro e w3 ⟨rfl, hB3⟩; refine Hid.out ?_))
  refine Lib.hid ?_
  have H4 : Hid (Calls Try.prog 15 #[.pointer (some ⟨w.heap.size, 0, none⟩), .int .i64 2] w3 fun e w' => e = .returned (.int .i64 0) ∧ (∃ ls', BAt w' w.heap.size w.heap.size [0, 97] ls') ∧ Below w.heap.size w3 w') :=
    Resize_any w.heap.size w.heap.size 2 [0, 97, 98] ls2 w3 (hA2.below hB3) (by decide)
  go_wp2_with (first | (go_at_call 15; refine H4.out.mono ?_; rintro e w4 ⟨rfl, ⟨ls4, hA4⟩, hB4⟩; refine Hid.out ?_))
  refine Lib.hid ?_
  have H5 : Hid (Calls Try.prog 15 #[.pointer (some ⟨w.heap.size, 0, none⟩), .int .i64 4] w4 fun e w' => e = .returned (.int .i64 0) ∧ (∃ ls', BAt w' w.heap.size w.heap.size [0, 97, 0, 0] ls') ∧ Below w.heap.size w4 w') :=
    Resize_any w.heap.size w.heap.size 4 [0, 97] ls4 w4 hA4 (by decide)
  go_wp2_with (first | (go_at_call 15; refine H5.out.mono ?_; rintro e w5 ⟨rfl, ⟨ls5, hA5⟩, hB5⟩; refine Hid.out ?_))
  refine Lib.hid ?_
  have H6 : Hid (Calls Try.prog 14 #[.pointer (some ⟨w.heap.size, 0, none⟩), .int .i64 0, .int .i64 4] w5 fun e w' => e = .returned (.tuple #[.string ⟨#[0, 97, 0, 0]⟩, .int .i64 0]) ∧ Below w5.heap.size w5 w') :=
    Read_any w.heap.size w.heap.size 0 4 [0, 97, 0, 0] ls5 w5 hA5 (by decide)
  go_wp2_with (first | (go_at_call 14; refine H6.out.mono ?_; rintro e w6 ⟨rfl, hB6⟩; refine Hid.out ?_))
  refine Lib.hid ?_
  have H7 : Hid (Calls Try.prog 16 #[.pointer (some ⟨w.heap.size, 0, none⟩)] w6 fun e w' => e = .returned (.int .i64 1) ∧ w' = w6) := Pages_any (hA5.below hB6)
  go_wp2_with (first | (go_at_call 16; refine H7.out.mono ?_; rintro e w7 ⟨rfl, hw7⟩; rw [hw7]; clear hw7 w7))
  go_ret
  have s1 := hB1.size
  have q2 : Below w.heap.size w w2 := (hB1.trans (hb1.mono s1)).trans hB2
  have q3 := q2.trans (hB3.mono q2.size)
  have q5 := (q3.trans hB4).trans hB5
  exact ⟨rfl, q5.trans (hB6.mono q5.size)⟩
end Go.Proofs.Ytpedinpjdepjdaa
