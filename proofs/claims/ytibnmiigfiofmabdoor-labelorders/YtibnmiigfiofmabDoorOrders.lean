/- LabelOrders answers true, for every three labels, whatever the memory. -/
import Derived.Test.YtibnmiigfiofmabDoorLives
import Derived.Test.YtibnmiigfiofmabDoorSame
namespace Go.Proofs.YtibnmiigfiofmabDoor
open Go.RowKit Go.Sort

theorem labs3 {W : World} {b : Nat} {A B C : Lab} (h : W.heap[b]? = some (.cells #[.int .i64 A.d, .slice A.p A.xs.length A.cap, .int .i64 B.d, .slice B.p B.xs.length B.cap, .int .i64 C.d, .slice C.p C.xs.length C.cap] 24 (0, 0)))
    (ha : CatsAt W A.p A.xs ∧ A.xs.length ≤ maxLen) (hb : CatsAt W B.p B.xs ∧ B.xs.length ≤ maxLen) (hc : CatsAt W C.p C.xs ∧ C.xs.length ≤ maxLen) : LabsAt W b [A, B, C] := by
  intro j hj
  simp only [List.length_cons, List.length_nil] at hj
  match j, hj with
  | 0, _ => exact ⟨by simp [World.cell?, h], by simp [World.cell?, h], ha⟩
  | 1, _ => exact ⟨by simp [World.cell?, h], by simp [World.cell?, h], hb⟩
  | 2, _ => exact ⟨by simp [World.cell?, h], by simp [World.cell?, h], hc⟩

set_option maxRecDepth 100000 in
set_option maxHeartbeats 4000000 in
theorem LabelOrders_any (A B C : Lab) (w : World) (ma : A.xs.length ≤ maxLen) (mb : B.xs.length ≤ maxLen) (mc : C.xs.length ≤ maxLen) (ka : A.xs.length ≤ A.cap) (kb : B.xs.length ≤ B.cap) (kc : C.xs.length ≤ C.cap)
    (ha : CatsAt w A.p A.xs) (hb : CatsAt w B.p B.xs) (hc : CatsAt w C.p C.xs) :
    Calls Tryd.prog 4 #[.agg #[.int .i64 A.d, .slice A.p A.xs.length A.cap], .agg #[.int .i64 B.d, .slice B.p B.xs.length B.cap], .agg #[.int .i64 C.d, .slice C.p C.xs.length C.cap]] w fun e w' => e = .returned (.bool true) ∧ Below w.heap.size w w' := by
  obtain ⟨W3, hW3⟩ : ∃ W3, ((w.alloc (.cells #[.int .i64 A.d, .slice A.p A.xs.length A.cap] 24)).alloc (.cells #[.int .i64 B.d, .slice B.p B.xs.length B.cap] 24)).alloc (.cells #[.int .i64 C.d, .slice C.p C.xs.length C.cap] 24) = W3 := ⟨_, rfl⟩
  have hB3 : Below w.heap.size w W3 := by rw [← hW3]; go_grown
  have hz3 : W3.heap.size = w.heap.size + 3 := by rw [← hW3]; simp
  have a0 : W3.cell? ⟨w.heap.size, 0, none⟩ = some (.int .i64 A.d) := by rw [← hW3]; simp [go_sem]
  have a1 : W3.cell? ⟨w.heap.size, 1, none⟩ = some (.slice A.p A.xs.length A.cap) := by rw [← hW3]; simp [go_sem]
  have b0 : W3.cell? ⟨w.heap.size + 1, 0, none⟩ = some (.int .i64 B.d) := by rw [← hW3]; simp [go_sem]
  have b1 : W3.cell? ⟨w.heap.size + 1, 1, none⟩ = some (.slice B.p B.xs.length B.cap) := by rw [← hW3]; simp [go_sem]
  have c0 : W3.cell? ⟨w.heap.size + 1 + 1, 0, none⟩ = some (.int .i64 C.d) := by rw [← hW3]; simp [go_sem]
  have c1 : W3.cell? ⟨w.heap.size + 1 + 1, 1, none⟩ = some (.slice C.p C.xs.length C.cap) := by rw [← hW3]; simp [go_sem]
  have hL := lives_any W3
  go_enter Tryd.func4, Tryd.ntmps4
  go_wp2_with (go_at_call 7; refine hL.mono ?_; rintro e w1 ⟨rfl, hb1⟩; refine Hid.out ?_)
  refine Lib.hid ?_
  clear hL hW3
  have hB1 : Below w.heap.size w w1 := hB3.trans (hb1.mono hB3.size)
  have hz1 : w.heap.size + 3 ≤ w1.heap.size := by have := hb1.size; omega
  have d0 := (hb1.cell (p := ⟨w.heap.size, 0, none⟩) (by simp; omega)).trans a0
  have d1 := (hb1.cell (p := ⟨w.heap.size, 1, none⟩) (by simp; omega)).trans a1
  have e0 := (hb1.cell (p := ⟨w.heap.size + 1, 0, none⟩) (by simp; omega)).trans b0
  have e1 := (hb1.cell (p := ⟨w.heap.size + 1, 1, none⟩) (by simp; omega)).trans b1
  have f0 := (hb1.cell (p := ⟨w.heap.size + 1 + 1, 0, none⟩) (by simp; omega)).trans c0
  have f1 := (hb1.cell (p := ⟨w.heap.size + 1 + 1, 1, none⟩) (by simp; omega)).trans c1
  have hbA : Below w.heap.size w (w1.alloc (.cells #[.int .i64 A.d, .slice A.p A.xs.length A.cap, .int .i64 B.d, .slice B.p B.xs.length B.cap, .int .i64 C.d, .slice C.p C.xs.length C.cap] 24)) := hB1.alloc hB1.size _
  have hR := right_any w1.heap.size [A, B, C] _ (by simp) (by simp) (labs3 (World.alloc_heap_new w1 _) ⟨ha.below hbA, ma⟩ ⟨hb.below hbA, mb⟩ ⟨hc.below hbA, mc⟩)
  simp only [List.length_cons, List.length_nil, Nat.zero_add, Nat.reduceAdd] at hR
  clear a0 a1 b0 b1 c0 c1
  by_cases hr : allRight [A, B, C] = true
  · rw [hr] at hR
    simp only [allRight, List.all_cons, List.all_nil, Bool.and_true, Bool.and_eq_true] at hr
    obtain ⟨ra, rb, rc⟩ := hr
    go_wp2_with (go_at_call 8; refine hR.mono ?_; rintro e w2 ⟨rfl, hb2⟩; refine Hid.out ?_)
    refine Lib.hid ?_
    clear hR
    have hB2 : Below w.heap.size w w2 := hbA.trans (hb2.mono hbA.size)
    have hb12 : Below w1.heap.size w1 w2 := ((Below.refl _ w1).alloc (Nat.le_refl _) _).trans (hb2.mono (by simp))
    have hz2 : w.heap.size + 3 ≤ w2.heap.size := by have := hb12.size; omega
    have s0 : ∀ n os, (gx w2 n os).cell? ⟨w.heap.size, 0, none⟩ = some (.int .i64 A.d) := fun n os => cell_gx (a := ⟨w.heap.size, 0, none⟩) (by simp; omega) ((hb12.cell (p := ⟨w.heap.size, 0, none⟩) (by simp; omega)).trans d0) n os
    have s1 : ∀ n os, (gx w2 n os).cell? ⟨w.heap.size, 1, none⟩ = some (.slice A.p A.xs.length A.cap) := fun n os => cell_gx (a := ⟨w.heap.size, 1, none⟩) (by simp; omega) ((hb12.cell (p := ⟨w.heap.size, 1, none⟩) (by simp; omega)).trans d1) n os
    have t0 : ∀ n os, (gx w2 n os).cell? ⟨w.heap.size + 1, 0, none⟩ = some (.int .i64 B.d) := fun n os => cell_gx (a := ⟨w.heap.size + 1, 0, none⟩) (by simp; omega) ((hb12.cell (p := ⟨w.heap.size + 1, 0, none⟩) (by simp; omega)).trans e0) n os
    have t1 : ∀ n os, (gx w2 n os).cell? ⟨w.heap.size + 1, 1, none⟩ = some (.slice B.p B.xs.length B.cap) := fun n os => cell_gx (a := ⟨w.heap.size + 1, 1, none⟩) (by simp; omega) ((hb12.cell (p := ⟨w.heap.size + 1, 1, none⟩) (by simp; omega)).trans e1) n os
    have u0 : ∀ n os, (gx w2 n os).cell? ⟨w.heap.size + 1 + 1, 0, none⟩ = some (.int .i64 C.d) := fun n os => cell_gx (a := ⟨w.heap.size + 1 + 1, 0, none⟩) (by simp; omega) ((hb12.cell (p := ⟨w.heap.size + 1 + 1, 0, none⟩) (by simp; omega)).trans f0) n os
    have u1 : ∀ n os, (gx w2 n os).cell? ⟨w.heap.size + 1 + 1, 1, none⟩ = some (.slice C.p C.xs.length C.cap) := fun n os => cell_gx (a := ⟨w.heap.size + 1 + 1, 1, none⟩) (by simp; omega) ((hb12.cell (p := ⟨w.heap.size + 1 + 1, 1, none⟩) (by simp; omega)).trans f1) n os
    have HA : Hid (∀ n os, CatsAt (gx w2 n os) A.p A.xs) := fun n os => (ha.below hB2).below (gx_below w2 n os)
    have HB : Hid (∀ n os, CatsAt (gx w2 n os) B.p B.xs) := fun n os => (hb.below hB2).below (gx_below w2 n os)
    have HC : Hid (∀ n os, CatsAt (gx w2 n os) C.p C.xs) := fun n os => (hc.below hB2).below (gx_below w2 n os)
    have haa : leqS A.d A.d A.xs A.xs = true := leq_refl ra
    clear ha hb hc hb1 hb2 d0 d1 e0 e1 f0 f1
    by_cases hab : leqS A.d B.d A.xs B.xs = true
    · have hba := leq_anti ra rb hab
      have HBA : Hid (leqS B.d A.d B.xs A.xs = sameS A.d B.d A.xs B.xs) := hba
      clear hba
      have hcs : (!(leqS B.d A.d B.xs A.xs == sameS A.d B.d A.xs B.xs)) = false := by rw [HBA.out]; simp
      go_wp2
      refine wp_region_quiet_gx (by kernel_rfl) (by kernel_rfl) ?_
      repeat (quiet_step (first
        | (go_at_call 13; with_reducible exact calls_gx (Leq_any A.d A.d A.p A.p A.cap A.cap A.xs A.xs _ ma ma ka ka (HA.out _ _) (HA.out _ _)))
        | (go_at_call 13; with_reducible exact calls_gx (Leq_any A.d B.d A.p B.p A.cap B.cap A.xs B.xs _ ma mb ka kb (HA.out _ _) (HB.out _ _)))
        | (go_at_call 13; with_reducible exact calls_gx (Leq_any B.d A.d B.p A.p B.cap A.cap B.xs A.xs _ mb ma kb ka (HB.out _ _) (HA.out _ _)))
        | (go_at_call 13; with_reducible exact calls_gx (Leq_any B.d C.d B.p C.p B.cap C.cap B.xs C.xs _ mb mc kb kc (HB.out _ _) (HC.out _ _)))
        | (go_at_call 13; with_reducible exact calls_gx (Leq_any A.d C.d A.p C.p A.cap C.cap A.xs C.xs _ ma mc ka kc (HA.out _ _) (HC.out _ _)))
        | (go_at_call 12; with_reducible exact calls_gx (Same_any A.d B.d A.p B.p A.cap B.cap A.xs B.xs _ ma mb (HA.out _ _) (HB.out _ _)))))
      refine wpQuiet_nil ?_
      intro _ hw'
      obtain ⟨⟨nq, osq⟩, hw''⟩ := hw'
      subst hw''
      by_cases hbc : leqS B.d C.d B.xs C.xs = true
      · have hac := leq_trans ra rb rc hab hbc
        go_wp2_with (first
          | (go_at_call 13; with_reducible refine Calls.mono (calls_gx (Leq_any A.d B.d A.p B.p A.cap B.cap A.xs B.xs _ ma mb ka kb (HA.out _ _) (HB.out _ _))) ?_; rintro e w' ⟨rfl, ⟨n', os'⟩, rfl⟩)
          | (go_at_call 13; with_reducible refine Calls.mono (calls_gx (Leq_any B.d C.d B.p C.p B.cap C.cap B.xs C.xs _ mb mc kb kc (HB.out _ _) (HC.out _ _))) ?_; rintro e w' ⟨rfl, ⟨n', os'⟩, rfl⟩)
          | (go_at_call 13; with_reducible refine Calls.mono (calls_gx (Leq_any A.d C.d A.p C.p A.cap C.cap A.xs C.xs _ ma mc ka kc (HA.out _ _) (HC.out _ _))) ?_; rintro e w' ⟨rfl, ⟨n', os'⟩, rfl⟩))
        go_ret
        exact ⟨rfl, hB2.trans ((gx_below w2 _ _).mono hB2.size)⟩
      · have hbc' : leqS B.d C.d B.xs C.xs = false := by simpa using hbc
        go_wp2_with (first
          | (go_at_call 13; with_reducible refine Calls.mono (calls_gx (Leq_any A.d B.d A.p B.p A.cap B.cap A.xs B.xs _ ma mb ka kb (HA.out _ _) (HB.out _ _))) ?_; rintro e w' ⟨rfl, ⟨n', os'⟩, rfl⟩)
          | (go_at_call 13; with_reducible refine Calls.mono (calls_gx (Leq_any B.d C.d B.p C.p B.cap C.cap B.xs C.xs _ mb mc kb kc (HB.out _ _) (HC.out _ _))) ?_; rintro e w' ⟨rfl, ⟨n', os'⟩, rfl⟩)
          | (go_at_call 13; with_reducible refine Calls.mono (calls_gx (Leq_any A.d C.d A.p C.p A.cap C.cap A.xs C.xs _ ma mc ka kc (HA.out _ _) (HC.out _ _))) ?_; rintro e w' ⟨rfl, ⟨n', os'⟩, rfl⟩))
        go_ret
        exact ⟨rfl, hB2.trans ((gx_below w2 _ _).mono hB2.size)⟩
    · have hab' : leqS A.d B.d A.xs B.xs = false := by simpa using hab
      go_wp2
      refine wp_region_quiet_gx (by kernel_rfl) (by kernel_rfl) ?_
      repeat (quiet_step (first
        | (go_at_call 13; with_reducible exact calls_gx (Leq_any A.d A.d A.p A.p A.cap A.cap A.xs A.xs _ ma ma ka ka (HA.out _ _) (HA.out _ _)))
        | (go_at_call 13; with_reducible exact calls_gx (Leq_any A.d B.d A.p B.p A.cap B.cap A.xs B.xs _ ma mb ka kb (HA.out _ _) (HB.out _ _)))
        | (go_at_call 13; with_reducible exact calls_gx (Leq_any B.d A.d B.p A.p B.cap A.cap B.xs A.xs _ mb ma kb ka (HB.out _ _) (HA.out _ _)))
        | (go_at_call 13; with_reducible exact calls_gx (Leq_any B.d C.d B.p C.p B.cap C.cap B.xs C.xs _ mb mc kb kc (HB.out _ _) (HC.out _ _)))
        | (go_at_call 13; with_reducible exact calls_gx (Leq_any A.d C.d A.p C.p A.cap C.cap A.xs C.xs _ ma mc ka kc (HA.out _ _) (HC.out _ _)))
        | (go_at_call 12; with_reducible exact calls_gx (Same_any A.d B.d A.p B.p A.cap B.cap A.xs B.xs _ ma mb (HA.out _ _) (HB.out _ _)))))
      refine wpQuiet_nil ?_
      intro _ hw'
      obtain ⟨⟨nq, osq⟩, hw''⟩ := hw'
      subst hw''
      go_wp2_with (first
        | (go_at_call 13; with_reducible refine Calls.mono (calls_gx (Leq_any A.d B.d A.p B.p A.cap B.cap A.xs B.xs _ ma mb ka kb (HA.out _ _) (HB.out _ _))) ?_; rintro e w' ⟨rfl, ⟨n', os'⟩, rfl⟩)
        | (go_at_call 13; with_reducible refine Calls.mono (calls_gx (Leq_any B.d C.d B.p C.p B.cap C.cap B.xs C.xs _ mb mc kb kc (HB.out _ _) (HC.out _ _))) ?_; rintro e w' ⟨rfl, ⟨n', os'⟩, rfl⟩)
        | (go_at_call 13; with_reducible refine Calls.mono (calls_gx (Leq_any A.d C.d A.p C.p A.cap C.cap A.xs C.xs _ ma mc ka kc (HA.out _ _) (HC.out _ _))) ?_; rintro e w' ⟨rfl, ⟨n', os'⟩, rfl⟩))
      go_ret
      exact ⟨rfl, hB2.trans ((gx_below w2 _ _).mono hB2.size)⟩
  · have hr' : allRight [A, B, C] = false := by simpa using hr
    rw [hr'] at hR
    go_wp2_with (go_at_call 8; refine hR.mono ?_; rintro e w2 ⟨rfl, hb2⟩)
    go_ret
    exact ⟨rfl, hbA.trans (hb2.mono hbA.size)⟩
end Go.Proofs.YtibnmiigfiofmabDoor
