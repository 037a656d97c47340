/- SpaceSpans. -/
import Derived.Test.YtddllchobojmlaaLives
import Derived.Test.YtddllchobojmlaaRSpan
namespace Go.Proofs.Ytddllchobojmlaa
open Go.RowKit Go.Sort
set_option maxRecDepth 100000 in
set_option maxHeartbeats 4000000 in
theorem SpaceSpans_any (p : Option Addr) (cap : Nat) (l : List Mp) (a n need : Int) (w : World) (ha : 0 ≤ a) (ha2 : a < 18446744073709551616) (hR : RAt w p cap l) :
    Calls Try.prog 4 #[.slice p l.length cap, .int .u64 a, .int .i64 n, .int .i64 need] w fun e w' => e = .returned (.bool true) ∧ Below w.heap.size w w' := by
  go_enter Try.func4, Try.ntmps4
  go_wp2_with (go_at_call 9; refine (lives_any _).mono ?_; rintro e w1 ⟨rfl, hb1⟩; refine Hid.out ?_)
  refine Lib.hid ?_
  have H1 := Lib.hid (Span_any p cap l a n need w1 ha ha2 (hR.below hb1))
  go_wp2_with (go_at_call 17; refine H1.out.mono ?_; rintro e w2 ⟨v2, rfl, ho2, hb2⟩; refine Hid.out ?_)
  refine Lib.hid ?_
  obtain ⟨p2, c2, rfl, hR2⟩ := own_pcs ho2
  have hB2 : Below w.heap.size w w2 := hb1.trans (hb2.mono hb1.size)
  have H2 := Lib.hid (refSpan_any p cap l a n need w2 ha ha2 (hR.below hB2))
  clear H1 ho2
  go_wp2_with (go_at_call 18; refine H2.out.mono ?_; rintro e w3 ⟨v3, rfl, ho3, hb3⟩; refine Hid.out ?_)
  refine Lib.hid ?_
  obtain ⟨p3, c3, rfl, hR3⟩ := own_pcs ho3
  have hB3 : Below w.heap.size w w3 := hB2.trans (hb3.mono hB2.size)
  have H3 := Lib.hid (Find_any p cap l a need w3 ha ha2 (hR.below hB3))
  clear H2 ho3
  go_wp2_with (go_at_call 19; refine H3.out.mono ?_; rintro e w4 ⟨v4, rfl, ho4, hb4⟩; refine Hid.out ?_)
  refine Lib.hid ?_
  obtain ⟨p4, c4, rfl, hR4⟩ := own_pcs ho4
  have hB4 : Below w.heap.size w w4 := hB3.trans (hb4.mono hB3.size)
  have H4 := Lib.hid (refSpan_any p cap l a 1 need w4 ha ha2 (hR.below hB4))
  clear H3 ho4
  go_wp2_with (go_at_call 18; refine H4.out.mono ?_; rintro e w5 ⟨v5, rfl, ho5, hb5⟩; refine Hid.out ?_)
  refine Lib.hid ?_
  obtain ⟨p5, c5, rfl, hR5⟩ := own_pcs ho5
  have hB5 : Below w.heap.size w w5 := hB4.trans (hb5.mono hB4.size)
  clear H4 ho5
  have hL1 := spanL_len l a n need
  have hL2 := spanL_len l a 1 need
  obtain ⟨E1, hE1⟩ : ∃ E, spanE l a n need = E := ⟨_, rfl⟩
  obtain ⟨E2, hE2⟩ : ∃ E, spanE l a 1 need = E := ⟨_, rfl⟩
  obtain ⟨P1, hP1⟩ : ∃ E, spanL l a n need = E := ⟨_, rfl⟩
  obtain ⟨P2, hP2⟩ : ∃ E, spanL l a 1 need = E := ⟨_, rfl⟩
  rw [hP1] at hR2 hR3 hL1
  rw [hP2] at hR4 hR5 hL2
  rw [hE1, hE2, hP1, hP2]
  have S1 : Hid (∀ W, Below w5.heap.size w5 W → Calls Try.prog 20 #[.slice p2 P1.length c2, .slice p3 P1.length c3] W fun e w' => e = .returned (.bool true) ∧ Below W.heap.size W w') := fun W hW => by
    have := SamePieces_any p2 p3 c2 c3 P1 P1 W (by omega) ((((hR2.below hb3).below hb4).below hb5).below hW) (((hR3.below hb4).below hb5).below hW)
    rwa [decide_eq_true rfl] at this
  have S2 : Hid (∀ W, Below w5.heap.size w5 W → Calls Try.prog 20 #[.slice p4 P2.length c4, .slice p5 P2.length c5] W fun e w' => e = .returned (.bool true) ∧ Below W.heap.size W w') := fun W hW => by
    have := SamePieces_any p4 p5 c4 c5 P2 P2 W (by omega) ((hR4.below hb5).below hW) (hR5.below hW)
    rwa [decide_eq_true rfl] at this
  have hx := Below.refl w5.heap.size w5
  clear hR2 hR3 hR4 hR5 hE1 hE2 hP1 hP2 hR
  go_wp2_with (first
    | (go_at_call 20; with_reducible refine Calls.mono (S1.out _ hx) ?_; rintro e w' ⟨rfl, hb'⟩; replace hx := hx.trans (hb'.mono hx.size); clear hb')
    | (go_at_call 20; with_reducible refine Calls.mono (S2.out _ hx) ?_; rintro e w' ⟨rfl, hb'⟩; replace hx := hx.trans (hb'.mono hx.size); clear hb'))
  go_ret
  exact ⟨rfl, hB5.trans (hx.mono hB5.size)⟩
end Go.Proofs.Ytddllchobojmlaa
