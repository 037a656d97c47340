/- LabelCompares answers true, for every two labels, whatever the memory. -/
import Derived.Test.YtibnmiigfiofmaaDoorLives
import Derived.Test.YtibnmiigfiofmaaDoorMixed
namespace Go.Proofs.YtibnmiigfiofmaaDoor
open Go.RowKit Go.Sort

theorem same_self (d : Int) (xs : List (Int × Int)) : sameS d d xs xs = true := by simp [sameS]

set_option maxRecDepth 100000 in
set_option maxHeartbeats 4000000 in
theorem LabelCompares_any (A B : Lab) (w : World) (ma : A.xs.length ≤ maxLen) (mb : B.xs.length ≤ maxLen) (ka : A.xs.length ≤ A.cap) (kb : B.xs.length ≤ B.cap) (ha : CatsAt w A.p A.xs) (hb : CatsAt w B.p B.xs) :
    Calls Tryd.prog 5 #[.agg #[.int .i64 A.d, .slice A.p A.xs.length A.cap], .agg #[.int .i64 B.d, .slice B.p B.xs.length B.cap]] w fun e w' => e = .returned (.bool true) ∧ Below w.heap.size w w' := by
  obtain ⟨W3, hW3⟩ : ∃ W3, (w.alloc (.cells #[.int .i64 A.d, .slice A.p A.xs.length A.cap] 24)).alloc (.cells #[.int .i64 B.d, .slice B.p B.xs.length B.cap] 24) = W3 := ⟨_, rfl⟩
  have hB3 : Below w.heap.size w W3 := by rw [← hW3]; go_grown
  have hz3 : W3.heap.size = w.heap.size + 2 := by rw [← hW3]; simp
  have a0 : W3.cell? ⟨w.heap.size, 0, none⟩ = some (.int .i64 A.d) := by rw [← hW3]; simp [go_sem]
  have a1 : W3.cell? ⟨w.heap.size, 1, none⟩ = some (.slice A.p A.xs.length A.cap) := by rw [← hW3]; simp [go_sem]
  have b0 : W3.cell? ⟨w.heap.size + 1, 0, none⟩ = some (.int .i64 B.d) := by rw [← hW3]; simp [go_sem]
  have b1 : W3.cell? ⟨w.heap.size + 1, 1, none⟩ = some (.slice B.p B.xs.length B.cap) := by rw [← hW3]; simp [go_sem]
  have hL := lives_any W3
  go_enter Tryd.func5, Tryd.ntmps5
  go_wp2_with (go_at_call 9; refine hL.mono ?_; rintro e w1 ⟨rfl, hb1⟩; refine Hid.out ?_)
  refine Lib.hid ?_
  clear hL hW3
  have hB1 : Below w.heap.size w w1 := hB3.trans (hb1.mono hB3.size)
  have hz1 : w.heap.size + 2 ≤ w1.heap.size := by have := hb1.size; omega
  have d0 := (hb1.cell (p := ⟨w.heap.size, 0, none⟩) (by simp; omega)).trans a0
  have d1 := (hb1.cell (p := ⟨w.heap.size, 1, none⟩) (by simp; omega)).trans a1
  have e0 := (hb1.cell (p := ⟨w.heap.size + 1, 0, none⟩) (by simp; omega)).trans b0
  have e1 := (hb1.cell (p := ⟨w.heap.size + 1, 1, none⟩) (by simp; omega)).trans b1
  have hbA : Below w.heap.size w (w1.alloc (.cells #[.int .i64 A.d, .slice A.p A.xs.length A.cap, .int .i64 B.d, .slice B.p B.xs.length B.cap] 24)) := hB1.alloc hB1.size _
  have hR := right_any w1.heap.size [A, B] _ (by simp) (by simp) (labs2 (World.alloc_heap_new w1 _) ⟨ha.below hbA, ma⟩ ⟨hb.below hbA, mb⟩)
  simp only [List.length_cons, List.length_nil, Nat.zero_add, Nat.reduceAdd] at hR
  clear a0 a1 b0 b1
  by_cases hr : allRight [A, B] = true
  · rw [hr] at hR
    simp only [allRight, List.all_cons, List.all_nil, Bool.and_true, Bool.and_eq_true] at hr
    obtain ⟨ra, rb⟩ := hr
    have RA := right_rise ra
    have RB := right_rise rb
    have HL : Hid (rleqS A B = leqS A.d B.d A.xs B.xs) := rleq_eq RA.1 RB.1
    have hm : A.xs.length + B.xs.length ≤ 1000 := by have := RA.2.2.1; have := RB.2.2.1; omega
    obtain ⟨dJ, hdJ⟩ : ∃ d, d = fitD (mx A.d B.d) (rmixS mx A B) := ⟨_, rfl⟩
    obtain ⟨lJ, hlJ⟩ : ∃ l, l = fitL (rmixS mx A B) := ⟨_, rfl⟩
    obtain ⟨eJ, heJ⟩ : ∃ e, e = fitE (rmixS mx A B) := ⟨_, rfl⟩
    obtain ⟨dM, hdM⟩ : ∃ d, d = fitD (mn A.d B.d) (rmixS mn A B) := ⟨_, rfl⟩
    obtain ⟨lM, hlM⟩ : ∃ l, l = fitL (rmixS mn A B) := ⟨_, rfl⟩
    obtain ⟨eM, heM⟩ : ∃ e, e = fitE (rmixS mn A B) := ⟨_, rfl⟩
    have qJ := mix_eq (m := mx) RA.1 RB.1
    have qM := mix_eq (m := mn) RA.1 RB.1
    have H22 : Hid (∀ W, CatsAt W A.p A.xs → CatsAt W B.p B.xs → Calls Tryd.prog 22 #[.agg #[.int .i64 A.d, .slice A.p A.xs.length A.cap], .agg #[.int .i64 B.d, .slice B.p B.xs.length B.cap]] W fun e w' => ∃ v, e = .returned (.tuple #[.agg #[.int .i64 dJ, v], .int .i64 eJ]) ∧ Rw W.heap.size w' v lJ ∧ Below W.heap.size W w') := fun W h1 h2 => by
      have := Join_any A.d B.d A.p B.p A.cap B.cap A.xs B.xs W (by omega) ka kb h1 h2
      unfold JoinD JoinZ at this
      rw [qJ.2, qJ.1, ← hdJ, ← hlJ, ← heJ] at this
      exact this
    have H23 : Hid (∀ W, CatsAt W A.p A.xs → CatsAt W B.p B.xs → Calls Tryd.prog 23 #[.agg #[.int .i64 A.d, .slice A.p A.xs.length A.cap], .agg #[.int .i64 B.d, .slice B.p B.xs.length B.cap]] W fun e w' => ∃ v, e = .returned (.tuple #[.agg #[.int .i64 dJ, v], .int .i64 eJ]) ∧ Rw W.heap.size w' v lJ ∧ Below W.heap.size W w') := fun W h1 h2 => by
      have := rJoin_any A B W (by omega) h1 h2
      rw [← hdJ, ← hlJ, ← heJ] at this
      exact this
    have H24 : Hid (∀ W, CatsAt W A.p A.xs → CatsAt W B.p B.xs → Calls Tryd.prog 24 #[.agg #[.int .i64 A.d, .slice A.p A.xs.length A.cap], .agg #[.int .i64 B.d, .slice B.p B.xs.length B.cap]] W fun e w' => ∃ v, e = .returned (.tuple #[.agg #[.int .i64 dM, v], .int .i64 eM]) ∧ Rw W.heap.size w' v lM ∧ Below W.heap.size W w') := fun W h1 h2 => by
      have := Meet_any A.d B.d A.p B.p A.cap B.cap A.xs B.xs W (by omega) ka kb h1 h2
      unfold MeetD MeetZ at this
      rw [qM.2, qM.1, ← hdM, ← hlM, ← heM] at this
      exact this
    have H25 : Hid (∀ W, CatsAt W A.p A.xs → CatsAt W B.p B.xs → Calls Tryd.prog 25 #[.agg #[.int .i64 A.d, .slice A.p A.xs.length A.cap], .agg #[.int .i64 B.d, .slice B.p B.xs.length B.cap]] W fun e w' => ∃ v, e = .returned (.tuple #[.agg #[.int .i64 dM, v], .int .i64 eM]) ∧ Rw W.heap.size w' v lM ∧ Below W.heap.size W w') := fun W h1 h2 => by
      have := rMeet_any A B W (by omega) h1 h2
      rw [← hdM, ← hlM, ← heM] at this
      exact this
    have hlJ16 : lJ.length ≤ maxLen := by rw [hlJ]; unfold fitL maxLen; split <;> simp <;> omega
    have hlM16 : lM.length ≤ maxLen := by rw [hlM]; unfold fitL maxLen; split <;> simp <;> omega
    clear RA RB qJ qM hdJ hlJ heJ hdM hlM heM
    go_wp2_with (go_at_call 21; refine hR.mono ?_; rintro e w2 ⟨rfl, hb2⟩; refine Hid.out ?_)
    refine Lib.hid ?_
    clear hR
    have hB2 : Below w.heap.size w w2 := hbA.trans (hb2.mono hbA.size)
    have hb12 : Below w1.heap.size w1 w2 := ((Below.refl _ w1).alloc (Nat.le_refl _) _).trans (hb2.mono (by simp))
    have hz2 : w.heap.size + 2 ≤ w2.heap.size := by have := hb12.size; omega
    have HA : Hid (∀ W, Below w2.heap.size w2 W → CatsAt W A.p A.xs) := fun W h => (ha.below hB2).below h
    have HB : Hid (∀ W, Below w2.heap.size w2 W → CatsAt W B.p B.xs) := fun W h => (hb.below hB2).below h
    have i0 := (hb12.cell (p := ⟨w.heap.size, 0, none⟩) (by simp; omega)).trans d0
    have i1 := (hb12.cell (p := ⟨w.heap.size, 1, none⟩) (by simp; omega)).trans d1
    have j0 := (hb12.cell (p := ⟨w.heap.size + 1, 0, none⟩) (by simp; omega)).trans e0
    have j1 := (hb12.cell (p := ⟨w.heap.size + 1, 1, none⟩) (by simp; omega)).trans e1
    have HC : Hid (∀ W, Below w2.heap.size w2 W → W.cell? ⟨w.heap.size, 0, none⟩ = some (.int .i64 A.d) ∧ W.cell? ⟨w.heap.size, 1, none⟩ = some (.slice A.p A.xs.length A.cap) ∧ W.cell? ⟨w.heap.size + 1, 0, none⟩ = some (.int .i64 B.d) ∧ W.cell? ⟨w.heap.size + 1, 1, none⟩ = some (.slice B.p B.xs.length B.cap)) := fun W h => ⟨(h.cell (p := ⟨w.heap.size, 0, none⟩) (by simp; omega)).trans i0, (h.cell (p := ⟨w.heap.size, 1, none⟩) (by simp; omega)).trans i1, (h.cell (p := ⟨w.heap.size + 1, 0, none⟩) (by simp; omega)).trans j0, (h.cell (p := ⟨w.heap.size + 1, 1, none⟩) (by simp; omega)).trans j1⟩
    clear ha hb hb1 hb2 d0 d1 e0 e1 hb12
    go_wp2_with (go_at_call 22; refine Calls.mono (H22.out _ (HA.out _ (Below.refl _ _)) (HB.out _ (Below.refl _ _))) ?_; rintro e w3 ⟨v3, rfl, hR3, hb3⟩; refine Hid.out ?_)
    refine Lib.hid ?_
    have h2w3 : Below w2.heap.size w2 w3 := hb3
    clear i0 i1 j0 j1
    obtain ⟨p3, c3, rfl, hc3, hl3⟩ := hR3.out
    obtain ⟨m30, m31, m32, m33⟩ := HC.out w3 h2w3
    have g3a : w.heap.size < w3.heap.size := by have := h2w3.size; omega
    have g3b : w.heap.size + 1 < w3.heap.size := by have := h2w3.size; omega
    obtain ⟨X3, hX3⟩ : ∃ X, X = w3.alloc (.cells #[.int .i64 dJ, .slice p3 lJ.length c3] 24) := ⟨_, rfl⟩
    have hbX3 : Below w3.heap.size w3 X3 := by rw [hX3]; exact (Below.refl _ _).alloc (Nat.le_refl _) _
    have hzX3 : X3.heap.size = w3.heap.size + 1 := by rw [hX3]; simp
    have k30 : X3.cell? ⟨w3.heap.size, 0, none⟩ = some (.int .i64 dJ) := by rw [hX3]; simp [go_sem]
    have k31 : X3.cell? ⟨w3.heap.size, 1, none⟩ = some (.slice p3 lJ.length c3) := by rw [hX3]; simp [go_sem]
    have h2X3 : Below w2.heap.size w2 X3 := h2w3.trans (hbX3.mono h2w3.size)
    have hcX3 : CatsAt X3 p3 lJ := hc3.below hbX3
    clear hR3 hc3
    go_wp2_with (go_at_call 23; rw [← hX3]; refine Calls.mono (H23.out _ (HA.out _ h2X3) (HB.out _ h2X3)) ?_; rintro e w4 ⟨v4, rfl, hR4, hb4⟩; refine Hid.out ?_)
    refine Lib.hid ?_
    have h2w4 : Below w2.heap.size w2 w4 := h2X3.trans (hb4.mono h2X3.size)
    clear m30 m31 m32 m33 hX3 g3a g3b
    obtain ⟨p4, c4, rfl, hc4, hl4⟩ := hR4.out
    obtain ⟨m40, m41, m42, m43⟩ := HC.out w4 h2w4
    have g4a : w.heap.size < w4.heap.size := by have := h2w4.size; omega
    have g4b : w.heap.size + 1 < w4.heap.size := by have := h2w4.size; omega
    obtain ⟨X4, hX4⟩ : ∃ X, X = w4.alloc (.cells #[.int .i64 dJ, .slice p4 lJ.length c4] 24) := ⟨_, rfl⟩
    have hbX4 : Below w4.heap.size w4 X4 := by rw [hX4]; exact (Below.refl _ _).alloc (Nat.le_refl _) _
    have hzX4 : X4.heap.size = w4.heap.size + 1 := by rw [hX4]; simp
    have k40 : X4.cell? ⟨w4.heap.size, 0, none⟩ = some (.int .i64 dJ) := by rw [hX4]; simp [go_sem]
    have k41 : X4.cell? ⟨w4.heap.size, 1, none⟩ = some (.slice p4 lJ.length c4) := by rw [hX4]; simp [go_sem]
    have h2X4 : Below w2.heap.size w2 X4 := h2w4.trans (hbX4.mono h2w4.size)
    have hcX4 : CatsAt X4 p4 lJ := hc4.below hbX4
    clear hR4 hc4
    go_wp2_with (go_at_call 24; rw [← hX4]; refine Calls.mono (H24.out _ (HA.out _ h2X4) (HB.out _ h2X4)) ?_; rintro e w5 ⟨v5, rfl, hR5, hb5⟩; refine Hid.out ?_)
    refine Lib.hid ?_
    have h2w5 : Below w2.heap.size w2 w5 := h2X4.trans (hb5.mono h2X4.size)
    clear m40 m41 m42 m43 hX4 g4a g4b
    obtain ⟨p5, c5, rfl, hc5, hl5⟩ := hR5.out
    obtain ⟨m50, m51, m52, m53⟩ := HC.out w5 h2w5
    have g5a : w.heap.size < w5.heap.size := by have := h2w5.size; omega
    have g5b : w.heap.size + 1 < w5.heap.size := by have := h2w5.size; omega
    obtain ⟨X5, hX5⟩ : ∃ X, X = w5.alloc (.cells #[.int .i64 dM, .slice p5 lM.length c5] 24) := ⟨_, rfl⟩
    have hbX5 : Below w5.heap.size w5 X5 := by rw [hX5]; exact (Below.refl _ _).alloc (Nat.le_refl _) _
    have hzX5 : X5.heap.size = w5.heap.size + 1 := by rw [hX5]; simp
    have k50 : X5.cell? ⟨w5.heap.size, 0, none⟩ = some (.int .i64 dM) := by rw [hX5]; simp [go_sem]
    have k51 : X5.cell? ⟨w5.heap.size, 1, none⟩ = some (.slice p5 lM.length c5) := by rw [hX5]; simp [go_sem]
    have h2X5 : Below w2.heap.size w2 X5 := h2w5.trans (hbX5.mono h2w5.size)
    have hcX5 : CatsAt X5 p5 lM := hc5.below hbX5
    clear hR5 hc5
    go_wp2_with (go_at_call 25; rw [← hX5]; refine Calls.mono (H25.out _ (HA.out _ h2X5) (HB.out _ h2X5)) ?_; rintro e w6 ⟨v6, rfl, hR6, hb6⟩; refine Hid.out ?_)
    refine Lib.hid ?_
    have h2w6 : Below w2.heap.size w2 w6 := h2X5.trans (hb6.mono h2X5.size)
    clear m50 m51 m52 m53 hX5 g5a g5b
    obtain ⟨p6, c6, rfl, hc6, hl6⟩ := hR6.out
    obtain ⟨m60, m61, m62, m63⟩ := HC.out w6 h2w6
    have g6a : w.heap.size < w6.heap.size := by have := h2w6.size; omega
    have g6b : w.heap.size + 1 < w6.heap.size := by have := h2w6.size; omega
    obtain ⟨X6, hX6⟩ : ∃ X, X = w6.alloc (.cells #[.int .i64 dM, .slice p6 lM.length c6] 24) := ⟨_, rfl⟩
    have hbX6 : Below w6.heap.size w6 X6 := by rw [hX6]; exact (Below.refl _ _).alloc (Nat.le_refl _) _
    have hzX6 : X6.heap.size = w6.heap.size + 1 := by rw [hX6]; simp
    have k60 : X6.cell? ⟨w6.heap.size, 0, none⟩ = some (.int .i64 dM) := by rw [hX6]; simp [go_sem]
    have k61 : X6.cell? ⟨w6.heap.size, 1, none⟩ = some (.slice p6 lM.length c6) := by rw [hX6]; simp [go_sem]
    have h2X6 : Below w2.heap.size w2 X6 := h2w6.trans (hbX6.mono h2w6.size)
    have hcX6 : CatsAt X6 p6 lM := hc6.below hbX6
    clear hR6 hc6
    have t3 : Below X3.heap.size X3 X6 := (((hb4.trans (hbX4.mono hb4.size)).trans ((hb5.trans (hbX5.mono hb5.size)).mono ((hb4.trans (hbX4.mono hb4.size)).size))).trans ((hb6.trans (hbX6.mono hb6.size)).mono (((hb4.trans (hbX4.mono hb4.size)).trans ((hb5.trans (hbX5.mono hb5.size)).mono ((hb4.trans (hbX4.mono hb4.size)).size))).size)))
    have y30 := (t3.cell (p := ⟨w3.heap.size, 0, none⟩) (by simp; omega)).trans k30
    have y31 := (t3.cell (p := ⟨w3.heap.size, 1, none⟩) (by simp; omega)).trans k31
    have hy3 : CatsAt X6 p3 lJ := hcX3.below t3
    have z3 : w3.heap.size < X6.heap.size := by have := t3.size; omega
    have t4 : Below X4.heap.size X4 X6 := ((hb5.trans (hbX5.mono hb5.size)).trans ((hb6.trans (hbX6.mono hb6.size)).mono ((hb5.trans (hbX5.mono hb5.size)).size)))
    have y40 := (t4.cell (p := ⟨w4.heap.size, 0, none⟩) (by simp; omega)).trans k40
    have y41 := (t4.cell (p := ⟨w4.heap.size, 1, none⟩) (by simp; omega)).trans k41
    have hy4 : CatsAt X6 p4 lJ := hcX4.below t4
    have z4 : w4.heap.size < X6.heap.size := by have := t4.size; omega
    have t5 : Below X5.heap.size X5 X6 := (hb6.trans (hbX6.mono hb6.size))
    have y50 := (t5.cell (p := ⟨w5.heap.size, 0, none⟩) (by simp; omega)).trans k50
    have y51 := (t5.cell (p := ⟨w5.heap.size, 1, none⟩) (by simp; omega)).trans k51
    have hy5 : CatsAt X6 p5 lM := hcX5.below t5
    have z5 : w5.heap.size < X6.heap.size := by have := t5.size; omega
    have z6 : w6.heap.size < X6.heap.size := by omega
    obtain ⟨n0, n1, n2, n3⟩ := HC.out X6 h2X6
    have za : w.heap.size < X6.heap.size := by have := h2X6.size; omega
    have zb : w.heap.size + 1 < X6.heap.size := by have := h2X6.size; omega
    have s0 : ∀ n os, (gx X6 n os).cell? ⟨w.heap.size, 0, none⟩ = some (.int .i64 A.d) := fun n os => cell_gx (a := ⟨w.heap.size, 0, none⟩) za n0 n os
    have s1 : ∀ n os, (gx X6 n os).cell? ⟨w.heap.size, 1, none⟩ = some (.slice A.p A.xs.length A.cap) := fun n os => cell_gx (a := ⟨w.heap.size, 1, none⟩) za n1 n os
    have s2 : ∀ n os, (gx X6 n os).cell? ⟨w.heap.size + 1, 0, none⟩ = some (.int .i64 B.d) := fun n os => cell_gx (a := ⟨w.heap.size + 1, 0, none⟩) zb n2 n os
    have s3 : ∀ n os, (gx X6 n os).cell? ⟨w.heap.size + 1, 1, none⟩ = some (.slice B.p B.xs.length B.cap) := fun n os => cell_gx (a := ⟨w.heap.size + 1, 1, none⟩) zb n3 n os
    have f30 : ∀ n os, (gx X6 n os).cell? ⟨w3.heap.size, 0, none⟩ = some (.int .i64 dJ) := fun n os => cell_gx (a := ⟨w3.heap.size, 0, none⟩) z3 y30 n os
    have f31 : ∀ n os, (gx X6 n os).cell? ⟨w3.heap.size, 1, none⟩ = some (.slice p3 lJ.length c3) := fun n os => cell_gx (a := ⟨w3.heap.size, 1, none⟩) z3 y31 n os
    have f40 : ∀ n os, (gx X6 n os).cell? ⟨w4.heap.size, 0, none⟩ = some (.int .i64 dJ) := fun n os => cell_gx (a := ⟨w4.heap.size, 0, none⟩) z4 y40 n os
    have f41 : ∀ n os, (gx X6 n os).cell? ⟨w4.heap.size, 1, none⟩ = some (.slice p4 lJ.length c4) := fun n os => cell_gx (a := ⟨w4.heap.size, 1, none⟩) z4 y41 n os
    have f50 : ∀ n os, (gx X6 n os).cell? ⟨w5.heap.size, 0, none⟩ = some (.int .i64 dM) := fun n os => cell_gx (a := ⟨w5.heap.size, 0, none⟩) z5 y50 n os
    have f51 : ∀ n os, (gx X6 n os).cell? ⟨w5.heap.size, 1, none⟩ = some (.slice p5 lM.length c5) := fun n os => cell_gx (a := ⟨w5.heap.size, 1, none⟩) z5 y51 n os
    have f60 : ∀ n os, (gx X6 n os).cell? ⟨w6.heap.size, 0, none⟩ = some (.int .i64 dM) := fun n os => cell_gx (a := ⟨w6.heap.size, 0, none⟩) z6 k60 n os
    have f61 : ∀ n os, (gx X6 n os).cell? ⟨w6.heap.size, 1, none⟩ = some (.slice p6 lM.length c6) := fun n os => cell_gx (a := ⟨w6.heap.size, 1, none⟩) z6 k61 n os
    have G3 : Hid (∀ n os, CatsAt (gx X6 n os) p3 lJ) := fun n os => hy3.below (gx_below X6 n os)
    have G4 : Hid (∀ n os, CatsAt (gx X6 n os) p4 lJ) := fun n os => hy4.below (gx_below X6 n os)
    have G5 : Hid (∀ n os, CatsAt (gx X6 n os) p5 lM) := fun n os => hy5.below (gx_below X6 n os)
    have G6 : Hid (∀ n os, CatsAt (gx X6 n os) p6 lM) := fun n os => hcX6.below (gx_below X6 n os)
    have GA : Hid (∀ n os, CatsAt (gx X6 n os) A.p A.xs) := fun n os => HA.out _ (h2X6.trans ((gx_below X6 n os).mono h2X6.size))
    have GB : Hid (∀ n os, CatsAt (gx X6 n os) B.p B.xs) := fun n os => HB.out _ (h2X6.trans ((gx_below X6 n os).mono h2X6.size))
    have sJ := same_self dJ lJ
    have sM := same_self dM lM
    have H27 : Hid (∀ W, CatsAt W A.p A.xs → CatsAt W B.p B.xs → Calls Tryd.prog 27 #[.agg #[.int .i64 A.d, .slice A.p A.xs.length A.cap], .agg #[.int .i64 B.d, .slice B.p B.xs.length B.cap]] W fun e w' => e = .returned (.bool (leqS A.d B.d A.xs B.xs)) ∧ Below W.heap.size W w') := fun W h1 h2 => by rw [← HL.out]; exact rLeq_any A B W (by omega) h1 h2
    have hBX : Below w.heap.size w X6 := hB2.trans (h2X6.mono hB2.size)
    clear t3 t4 t5 y30 y31 y40 y41 y50 y51 hy3 hy4 hy5 k30 k31 k40 k41 k50 k51 k60 k61 hcX3 hcX4 hcX5 hcX6 n0 n1 n2 n3 h2X3 h2X4 h2X5 h2X6 h2w3 h2w4 h2w5 h2w6 hbX3 hbX4 hbX5 hbX6 hb3 hb4 hb5 hb6
    go_wp2
    rw [← hX6]
    clear hX6 m60 m61 m62 m63
    refine wp_region_quiet_gx (by kernel_rfl) (by kernel_rfl) ?_
    repeat (quiet_step (first
      | (go_at_call 20; with_reducible exact calls_gx (Same_any dJ dJ p3 p4 c3 c4 lJ lJ _ hlJ16 hlJ16 (G3.out _ _) (G4.out _ _)))
      | (go_at_call 20; with_reducible exact calls_gx (Same_any dM dM p5 p6 c5 c6 lM lM _ hlM16 hlM16 (G5.out _ _) (G6.out _ _)))
      | (go_at_call 26; with_reducible exact calls_gx (Leq_any A.d B.d A.p B.p A.cap B.cap A.xs B.xs _ ma mb ka kb (GA.out _ _) (GB.out _ _)))
      | (go_at_call 27; with_reducible exact calls_gx (H27.out _ (GA.out _ _) (GB.out _ _)))))
    refine wpQuiet_nil ?_
    intro _ hw'
    obtain ⟨⟨nq, osq⟩, hw''⟩ := hw'
    subst hw''
    go_wp2
    go_ret
    exact ⟨ret_bool (by simp), hBX.trans ((gx_below X6 _ _).mono hBX.size)⟩
  · have hr' : allRight [A, B] = false := by simpa using hr
    rw [hr'] at hR
    go_wp2_with (go_at_call 21; refine hR.mono ?_; rintro e w2 ⟨rfl, hb2⟩)
    go_ret
    exact ⟨rfl, hbA.trans (hb2.mono hbA.size)⟩
end Go.Proofs.YtibnmiigfiofmaaDoor
