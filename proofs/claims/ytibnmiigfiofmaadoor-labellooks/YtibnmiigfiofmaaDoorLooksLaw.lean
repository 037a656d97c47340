/- LabelLooks answers true, for every two labels, whatever the memory. -/
import Derived.Test.YtibnmiigfiofmaaDoorLives
import Derived.Test.YtibnmiigfiofmaaDoorLooks
namespace Go.Proofs.YtibnmiigfiofmaaDoor
open Go.RowKit Go.Sort

set_option maxRecDepth 100000 in
set_option maxHeartbeats 4000000 in
theorem LabelLooks_any (A B : Lab) (w : World) (ma : A.xs.length ≤ maxLen) (mb : B.xs.length ≤ maxLen) (ka : A.xs.length ≤ A.cap) (kb : B.xs.length ≤ B.cap) (ha : CatsAt w A.p A.xs) (hb : CatsAt w B.p B.xs) :
    Calls Tryd.prog 7 #[.agg #[.int .i64 A.d, .slice A.p A.xs.length A.cap], .agg #[.int .i64 B.d, .slice B.p B.xs.length B.cap]] w fun e w' => e = .returned (.bool true) ∧ Below w.heap.size w w' := by
  obtain ⟨W3, hW3⟩ : ∃ W3, (w.alloc (.cells #[.int .i64 A.d, .slice A.p A.xs.length A.cap] 24)).alloc (.cells #[.int .i64 B.d, .slice B.p B.xs.length B.cap] 24) = W3 := ⟨_, rfl⟩
  have hB3 : Below w.heap.size w W3 := by rw [← hW3]; go_grown
  have hz3 : W3.heap.size = w.heap.size + 2 := by rw [← hW3]; simp
  have a0 : W3.cell? ⟨w.heap.size, 0, none⟩ = some (.int .i64 A.d) := by rw [← hW3]; simp [go_sem]
  have a1 : W3.cell? ⟨w.heap.size, 1, none⟩ = some (.slice A.p A.xs.length A.cap) := by rw [← hW3]; simp [go_sem]
  have b0 : W3.cell? ⟨w.heap.size + 1, 0, none⟩ = some (.int .i64 B.d) := by rw [← hW3]; simp [go_sem]
  have b1 : W3.cell? ⟨w.heap.size + 1, 1, none⟩ = some (.slice B.p B.xs.length B.cap) := by rw [← hW3]; simp [go_sem]
  have hL := lives_any W3
  go_enter Tryd.func7, Tryd.ntmps7
  go_wp2_with (go_at_call 9; refine hL.mono ?_; rintro e w1 ⟨rfl, hb1⟩; refine Hid.out ?_)
  refine Lib.hid ?_
  clear hL hW3
  have hB1 : Below w.heap.size w w1 := hB3.trans (hb1.mono hB3.size)
  have hz1 : w.heap.size + 2 ≤ w1.heap.size := by have := hb1.size; omega
  have d0 := (hb1.cell (p := ⟨w.heap.size, 0, none⟩) (by simp; omega)).trans a0
  have d1 := (hb1.cell (p := ⟨w.heap.size, 1, none⟩) (by simp; omega)).trans a1
  have e0 := (hb1.cell (p := ⟨w.heap.size + 1, 0, none⟩) (by simp; omega)).trans b0
  have e1 := (hb1.cell (p := ⟨w.heap.size + 1, 1, none⟩) (by simp; omega)).trans b1
  have hbA : Below w.heap.size w (w1.alloc (.cells #[.int .i64 A.d, .slice A.p A.xs.length A.cap, .int .i64 B.d, .slice B.p B.xs.length B.cap] 24)) := hB1.alloc hB1.size _
  have hR := right_any w1.heap.size [A, B] _ (by simp) (by simp) (labs2 (World.alloc_heap_new w1 _) ⟨ha.below hbA, ma⟩ ⟨hb.below hbA, mb⟩)
  simp only [List.length_cons, List.length_nil, Nat.zero_add, Nat.reduceAdd] at hR
  clear a0 a1 b0 b1
  by_cases hr : allRight [A, B] = true
  · rw [hr] at hR
    simp only [allRight, List.all_cons, List.all_nil, Bool.and_true, Bool.and_eq_true] at hr
    obtain ⟨ra, rb⟩ := hr
    have RA := right_rise ra
    have RB := right_rise rb
    have HS : Hid (rseesS A B = seesS A.d B.d A.xs B.xs) := rsees_eq RA.1 RB.1
    have HT : Hid (raltersS A B = altersS A.d B.d A.xs B.xs) := ralters_eq RA.1 RB.1
    have hm : A.xs.length + B.xs.length ≤ 8796093022000 := by have := RA.2.2.1; have := RB.2.2.1; omega
    have hmx : A.xs.length * 16 ≤ 140737488355328 := by omega
    clear RA RB
    go_wp2_with (go_at_call 21; refine hR.mono ?_; rintro e w2 ⟨rfl, hb2⟩; refine Hid.out ?_)
    refine Lib.hid ?_
    clear hR
    have hB2 : Below w.heap.size w w2 := hbA.trans (hb2.mono hbA.size)
    have hb12 : Below w1.heap.size w1 w2 := ((Below.refl _ w1).alloc (Nat.le_refl _) _).trans (hb2.mono (by simp))
    have hz2 : w.heap.size + 2 ≤ w2.heap.size := by have := hb12.size; omega
    have s0 : ∀ n os, (gx w2 n os).cell? ⟨w.heap.size, 0, none⟩ = some (.int .i64 A.d) := fun n os => cell_gx (a := ⟨w.heap.size, 0, none⟩) (by simp; omega) ((hb12.cell (p := ⟨w.heap.size, 0, none⟩) (by simp; omega)).trans d0) n os
    have s1 : ∀ n os, (gx w2 n os).cell? ⟨w.heap.size, 1, none⟩ = some (.slice A.p A.xs.length A.cap) := fun n os => cell_gx (a := ⟨w.heap.size, 1, none⟩) (by simp; omega) ((hb12.cell (p := ⟨w.heap.size, 1, none⟩) (by simp; omega)).trans d1) n os
    have t0 : ∀ n os, (gx w2 n os).cell? ⟨w.heap.size + 1, 0, none⟩ = some (.int .i64 B.d) := fun n os => cell_gx (a := ⟨w.heap.size + 1, 0, none⟩) (by simp; omega) ((hb12.cell (p := ⟨w.heap.size + 1, 0, none⟩) (by simp; omega)).trans e0) n os
    have t1 : ∀ n os, (gx w2 n os).cell? ⟨w.heap.size + 1, 1, none⟩ = some (.slice B.p B.xs.length B.cap) := fun n os => cell_gx (a := ⟨w.heap.size + 1, 1, none⟩) (by simp; omega) ((hb12.cell (p := ⟨w.heap.size + 1, 1, none⟩) (by simp; omega)).trans e1) n os
    have HA : Hid (∀ n os, CatsAt (gx w2 n os) A.p A.xs) := fun n os => (ha.below hB2).below (gx_below w2 n os)
    have HB : Hid (∀ n os, CatsAt (gx w2 n os) B.p B.xs) := fun n os => (hb.below hB2).below (gx_below w2 n os)
    have h35 : ∀ W, CatsAt W A.p A.xs → CatsAt W B.p B.xs → Calls Tryd.prog 35 #[.agg #[.int .i64 A.d, .slice A.p A.xs.length A.cap], .agg #[.int .i64 B.d, .slice B.p B.xs.length B.cap]] W fun e w' => e = .returned (.bool (seesS A.d B.d A.xs B.xs)) ∧ Below W.heap.size W w' := fun W h1 h2 => by rw [← HS.out]; exact rSees_any A B W hm h1 h2
    have h37 : ∀ W, CatsAt W A.p A.xs → CatsAt W B.p B.xs → Calls Tryd.prog 37 #[.agg #[.int .i64 A.d, .slice A.p A.xs.length A.cap], .agg #[.int .i64 B.d, .slice B.p B.xs.length B.cap]] W fun e w' => e = .returned (.bool (altersS A.d B.d A.xs B.xs)) ∧ Below W.heap.size W w' := fun W h1 h2 => by rw [← HT.out]; exact rAlters_any A B W hm h1 h2
    have H35 := Lib.hid h35
    have H37 := Lib.hid h37
    clear ha hb hb1 hb2 d0 d1 e0 e1 h35 h37
    go_wp2
    refine wp_region_quiet_gx (by kernel_rfl) (by kernel_rfl) ?_
    repeat (quiet_step (first
      | (go_at_call 34; with_reducible exact calls_gx (Sees_any A.d B.d A.p B.p A.cap B.cap A.xs B.xs _ hmx mb kb (HA.out _ _) (HB.out _ _)))
      | (go_at_call 35; with_reducible exact calls_gx (H35.out _ (HA.out _ _) (HB.out _ _)))
      | (go_at_call 36; with_reducible exact calls_gx (Alters_any A.d B.d A.p B.p A.cap B.cap A.xs B.xs _ hmx mb ka kb (HA.out _ _) (HB.out _ _)))
      | (go_at_call 37; with_reducible exact calls_gx (H37.out _ (HA.out _ _) (HB.out _ _)))))
    refine wpQuiet_nil ?_
    intro _ hw'
    obtain ⟨⟨nq, osq⟩, hw''⟩ := hw'
    subst hw''
    go_wp2
    go_ret
    exact ⟨ret_bool (by simp), hB2.trans ((gx_below w2 _ _).mono hB2.size)⟩
  · have hr' : allRight [A, B] = false := by simpa using hr
    rw [hr'] at hR
    go_wp2_with (go_at_call 21; refine hR.mono ?_; rintro e w2 ⟨rfl, hb2⟩)
    go_ret
    exact ⟨rfl, hbA.trans (hb2.mono hbA.size)⟩
end Go.Proofs.YtibnmiigfiofmaaDoor
