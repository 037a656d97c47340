/- SpaceBack. -/
import Derived.Test.YtddllchobojmlaaLives
import Derived.Test.YtddllchobojmlaaFacts
namespace Go.Proofs.Ytddllchobojmlaa
open Go.RowKit Go.Sort
set_option maxRecDepth 100000 in
set_option maxHeartbeats 4000000 in
theorem SpaceBack_any (p : Option Addr) (cap : Nat) (l : List Mp) (m : Mp) (a : Int) (w : World) (ha : 0 ≤ a) (ha2 : a < 18446744073709551616) (hR : RAt w p cap l) :
    Calls Try.prog 5 #[.slice p l.length cap, mpV m, .int .u64 a] w fun e w' => e = .returned (.bool true) ∧ Below w.heap.size w w' := by
  unfold mpV
  have hB0 : Below w.heap.size w (w.alloc (mpB m)) := (Below.refl _ _).alloc (Nat.le_refl _) _
  have hM0 := mpB_at w m
  go_enter Try.func5, Try.ntmps5
  go_wp2_with (go_at_call 9; refine (lives_any _).mono ?_; rintro e w1 ⟨rfl, hb1⟩; refine Hid.out ?_)
  refine Lib.hid ?_
  have hM1 := hM0.below hb1 (by simp)
  have hw1 : w.heap.size < w1.heap.size := by have := hb1.size; simp at this; omega
  have hB1 : Below w.heap.size w w1 := hB0.trans (hb1.mono (by simp))
  have HP := Put_any p cap l m w1 (hR.below hB1)
  obtain ⟨x0, x1, x2, x3, x4, x5, x6⟩ := hM1
  by_cases hE : putE l m = 0
  · rw [hE] at HP
    have HP' := Lib.hid HP
    clear HP hM0
    go_wp2_with (go_at_call 10; refine HP'.out.mono ?_; rintro e w2 ⟨v2, rfl, ho2, hb2⟩; refine Hid.out ?_)
    refine Lib.hid ?_
    obtain ⟨p2, c2, rfl, -, hR2⟩ := own_rat ho2
    have hM2 := (MpAt.mk x0 x1 x2 x3 x4 x5 x6).below hb2 hw1
    clear x0 x1 x2 x3 x4 x5 x6 ho2 HP'
    obtain ⟨x0, x1, x2, x3, x4, x5, x6⟩ := hM2
    have hw2 : w.heap.size < w2.heap.size := by have := hb2.size; omega
    obtain ⟨hCE, hCL⟩ := put_cut hE
    have HC := Cut_any p2 c2 (putL l m) m.at_ w2 hR2
    rw [hCE, hCL] at HC
    have HC' := Lib.hid HC
    clear HC hCE hCL
    go_wp2_with (go_at_call 12; refine HC'.out.mono ?_; rintro e w3 ⟨v3, rfl, ho3, hb3⟩; refine Hid.out ?_)
    refine Lib.hid ?_
    obtain ⟨p3, c3, rfl, -, hR3⟩ := own_rat ho3
    have hM3 := (MpAt.mk x0 x1 x2 x3 x4 x5 x6).below hb3 hw2
    clear x0 x1 x2 x3 x4 x5 x6 ho3 HC'
    have hw3 : w.heap.size < w3.heap.size := by have := hb3.size; omega
    have hB3 : Below w.heap.size w w3 := (hB1.trans (hb2.mono (by omega))).trans (hb3.mono (by omega))
    have hR2' := hR2.below hb3
    have HRt := Right_any p2 c2 (putL l m) w3 (Nat.le_trans hR2.len hR2.top) hR2'.row
    rw [put_right hE] at HRt
    have HRt' := Lib.hid HRt
    have hRl := hR.below hB3
    have h16 : l.length < 1000000 := by have := (putE_zero hE).2.2.2; omega
    have HSm : Hid (∀ W, Below w3.heap.size w3 W → Calls Try.prog 16 #[.slice p3 l.length c3, .slice p l.length cap] W fun e w' => e = .returned (.bool true) ∧ Below W.heap.size W w') := fun W hW => by
      have := Same_any p3 p c3 cap l l W h16 (hR3.below hW).row (hRl.below hW).row
      rwa [decide_eq_true rfl] at this
    clear HRt hR3
    go_wp2_with (first
      | (go_at_call 14; refine HRt'.out.mono ?_; rintro e w4 ⟨rfl, hb4⟩)
      | (go_at_call 16; refine (HSm.out _ hb4).mono ?_; rintro e w5 ⟨rfl, hb5⟩; refine Hid.out ?_))
    refine Lib.hid ?_
    have hb35 : Below w3.heap.size w3 w5 := hb4.trans (hb5.mono hb4.size)
    have hB5 : Below w.heap.size w w5 := hB3.trans (hb35.mono (by omega))
    have hM5 := hM3.below hb35 hw3
    have hw5 : w.heap.size < w5.heap.size := by have := hb35.size; omega
    clear HRt' HSm hM3
    have HF := Find_any p2 c2 (putL l m) a 0 w5 ha ha2 (hR2'.below hb35)
    have HF' := Lib.hid HF
    have hgm := ((goodM_iff _).1 (putE_zero hE).2.1).1
    have hu1 : IntKind.u64.wrap m.at_ = m.at_ := by rw [IntKind.wrap_u64]; omega
    have hu2 : IntKind.u64.wrap (m.at_ + m.pg) = m.at_ + m.pg := by rw [IntKind.wrap_u64]; omega
    have hRl5 := hRl.below hb35
    clear HF hb4 hb5 hb2 hb3 hb1 hR hR2 hR2' hRl
    have hgs := ((rightS_iff _).1 (put_right hE)).2.1
    have hgl := ((rightS_iff _).1 (putE_zero hE).1).2.1
    have hA1 : argOk (putL l m) 1 0 = true := by simp [argOk, put_right hE]
    have hA2 : argOk l 1 0 = true := by simp [argOk, (putE_zero hE).1]
    by_cases hi : inM (a / 64) m = true
    · have hSO : spanO (putL l m) a 1 0 = some [⟨m.inn, m.id, 64 * (m.fr + a / 64 - m.at_) + a % 64, 1⟩] := by
        unfold spanO
        rw [spans_one _ _ _ _ hgs, put_find hE, if_pos hi]
        simp only [srv]
        rw [← pcOf_one (putE_zero hE).2.1 hi]; rfl
      have hSE : spanE (putL l m) a 1 0 = 0 := by unfold spanE; rw [if_neg (by simp [hA1]), hSO]
      have hSL : spanL (putL l m) a 1 0 = [⟨m.inn, m.id, 64 * (m.fr + a / 64 - m.at_) + a % 64, 1⟩] := by unfold spanL; rw [if_neg (by simp [hA1]), hSO]; rfl
      rw [hSE, hSL] at HF'
      simp only [inM, Bool.and_eq_true, decide_eq_true_eq] at hi
      clear hSE hSL hSO
      go_wp2_with (go_at_call 19; refine HF'.out.mono ?_; rintro e w6 ⟨v6, rfl, ho6, hb6⟩; refine Hid.out ?_)
      refine Lib.hid ?_
      obtain ⟨p6, c6, rfl, hR6⟩ := own_pcs ho6
      obtain ⟨b, off, rfl, hbl, ⟨y0, y1, y2, y3⟩⟩ := hR6 0 (by simp)
      obtain ⟨x0, x1, x2, x3, x4, x5, x6⟩ := hM5.below hb6 hw5
      simp only [Nat.zero_mul, Nat.add_zero, List.getElem_cons_zero] at y0 y1 y2 y3
      clear hR6 ho6 HF' hM5
      have hwa : IntKind.i64.wrap (a / 64) = a / 64 := by rw [IntKind.wrap_i64]; omega
      have hwb : IntKind.i64.wrap (a % 64) = a % 64 := by rw [IntKind.wrap_i64]; omega
      have hwc : IntKind.i64.wrap (m.fr + a / 64) = m.fr + a / 64 := by rw [IntKind.wrap_i64]; omega
      have hwd : IntKind.i64.wrap (m.fr + a / 64 - m.at_) = m.fr + a / 64 - m.at_ := by rw [IntKind.wrap_i64]; omega
      have hwe : IntKind.i64.wrap (64 * (m.fr + a / 64 - m.at_)) = 64 * (m.fr + a / 64 - m.at_) := by rw [IntKind.wrap_i64]; omega
      have hwf : IntKind.i64.wrap (64 * (m.fr + a / 64 - m.at_) + a % 64) = 64 * (m.fr + a / 64 - m.at_) + a % 64 := by rw [IntKind.wrap_i64]; omega
      have hbw : b < w6.heap.size := hbl
      go_wp2
      go_quiet (fail)
      go_wp2
      go_ret
      exact ⟨rfl, bdn (hB5.trans (hb6.mono (by omega))) _⟩
    · have hSO : spanO (putL l m) a 1 0 = spanO l a 1 0 := by
        unfold spanO
        rw [spans_one _ _ _ _ hgs, spans_one _ _ _ _ hgl, put_find hE, if_neg hi]
      have hSE : spanE (putL l m) a 1 0 = spanE l a 1 0 := by unfold spanE; rw [if_neg (by simp [hA1]), if_neg (by simp [hA2]), hSO]
      have hSL : spanL (putL l m) a 1 0 = spanL l a 1 0 := by unfold spanL; rw [if_neg (by simp [hA1]), if_neg (by simp [hA2]), hSO]
      rw [hSE, hSL] at HF'
      clear hSE hSL hSO
      have hno : ¬ (m.at_ ≤ a / 64 ∧ a / 64 < m.at_ + m.pg) := by simp only [inM, Bool.and_eq_true, decide_eq_true_eq] at hi; exact hi
      clear hi
      go_wp2_with (go_at_call 19; refine HF'.out.mono ?_; rintro e w6 ⟨v6, rfl, ho6, hb6⟩; refine Hid.out ?_)
      refine Lib.hid ?_
      obtain ⟨p6, c6, rfl, hR6⟩ := own_pcs ho6
      obtain ⟨x0, x1, x2, x3, x4, x5, x6⟩ := hM5.below hb6 hw5
      have HF2 := Lib.hid (Find_any p cap l a 0 w6 ha ha2 (hRl5.below hb6))
      have hn6 : (spanL l a 1 0).length < 1000000 := by
        unfold spanL spanO
        rw [if_neg (by simp [hA2]), spans_one _ _ _ _ hgl]
        cases findM l (a / 64) with
        | none => simp
        | some y => simp [srv]
      have HSP : Hid (∀ W, Below w6.heap.size w6 W → ∀ q cq, PsAt W q (spanL l a 1 0) → Calls Try.prog 20 #[.slice p6 (spanL l a 1 0).length c6, .slice q (spanL l a 1 0).length cq] W fun e w' => e = .returned (.bool true) ∧ Below W.heap.size W w') := fun W hW q cq hq => by
        have := SamePieces_any p6 q c6 cq _ _ W hn6 (hR6.below hW) hq
        rwa [decide_eq_true rfl] at this
      obtain ⟨G, hG⟩ : ∃ G, spanE l a 1 0 = G := ⟨_, rfl⟩
      obtain ⟨PL, hPL⟩ : ∃ PL, spanL l a 1 0 = PL := ⟨_, rfl⟩
      rw [hG, hPL] at HF2
      rw [hPL] at HSP
      rw [hG, hPL]
      clear hG hPL hn6 hR6 ho6 HF' hM5
      by_cases h1 : m.at_ ≤ a / 64
      · have h2 : ¬ (a / 64 < m.at_ + m.pg) := fun h => hno ⟨h1, h⟩
        go_wp2_with (go_at_call 19; refine HF2.out.mono ?_; rintro e w7 ⟨v7, rfl, ho7, hb7⟩; refine Hid.out ?_)
        refine Lib.hid ?_
        obtain ⟨p7, c7, rfl, hR7⟩ := own_pcs ho7
        have HSQ := Lib.hid (HSP.out w7 hb7 p7 c7 hR7)
        clear HSP ho7 hR7 HF2
        go_wp2_with (go_at_call 20; refine HSQ.out.mono ?_; rintro e w8 ⟨rfl, hb8⟩)
        go_ret
        exact ⟨rfl, ((hB5.trans (hb6.mono (by omega))).trans (hb7.mono (by have := hb6.size; omega))).trans (hb8.mono (by have := hb6.size; have := hb7.size; omega))⟩
      · go_wp2_with (go_at_call 19; refine HF2.out.mono ?_; rintro e w7 ⟨v7, rfl, ho7, hb7⟩; refine Hid.out ?_)
        refine Lib.hid ?_
        obtain ⟨p7, c7, rfl, hR7⟩ := own_pcs ho7
        have HSQ := Lib.hid (HSP.out w7 hb7 p7 c7 hR7)
        clear HSP ho7 hR7 HF2
        go_wp2_with (go_at_call 20; refine HSQ.out.mono ?_; rintro e w8 ⟨rfl, hb8⟩)
        go_ret
        exact ⟨rfl, ((hB5.trans (hb6.mono (by omega))).trans (hb7.mono (by have := hb6.size; omega))).trans (hb8.mono (by have := hb6.size; have := hb7.size; omega))⟩
  · obtain ⟨E, hEE⟩ : ∃ E, putE l m = E := ⟨_, rfl⟩
    have hL : putL l m = [] := by unfold putL; rw [if_neg hE]
    rw [hL, hEE] at HP
    have HP' := Lib.hid HP
    have hE0 : (E == 0) = false := by rw [hEE] at hE; simpa using hE
    clear HP hM0 hE hEE hL
    go_wp2_with (go_at_call 10; refine HP'.out.mono ?_; rintro e w2 ⟨v2, rfl, ho2, hb2⟩; refine Hid.out ?_)
    refine Lib.hid ?_
    obtain ⟨p2, c2, rfl, -, -⟩ := own_rat (l := []) ho2
    go_wp2
    go_ret
    exact ⟨rfl, hB1.trans (hb2.mono (by omega))⟩
end Go.Proofs.Ytddllchobojmlaa
