/- cut of a queue. -/
import Derived.Test.YthknnmllibdggaaQueueW
import Derived.Deep.Cut
namespace Go.Proofs.Ythknnmllibdggaa
open Go.RowKit Go.Sort
set_option maxRecDepth 100000 in
set_option maxHeartbeats 1000000 in
theorem cutW00 (w : World) (Q xb : Nat) (N : Int) (q0 q1 xv : Value) (hN : 0 < N ∧ N < 1000000) (hQ : w.heap[Q]? = some (.cells #[q0, q1, .int .i64 N] 94 (0, 0))) (hx : w.heap[xb]? = some (.cells #[xv, np, np] 96 (0, 0))) (hxQ : xb ≠ Q) :
    Calls Try.prog 60 #[pv Q, pv xb] w fun e w' => (∃ v, e = .returned v) ∧ w'.heap[Q]? = some (.cells #[np, np, .int .i64 (N - 1)] 94 (0, 0)) ∧ Fm w w' (fun k => k = Q) ∧ w'.heap.size = w.heap.size := by
  obtain ⟨hN1, hN2⟩ := hN
  have cq0 : ∀ q, (w.drewN q).cell? ⟨Q, 0, none⟩ = some (q0) := fun q => show w.cell? _ = _ by simp [World.cell?, hQ]
  have cq1 : ∀ q, (w.drewN q).cell? ⟨Q, 1, none⟩ = some (q1) := fun q => show w.cell? _ = _ by simp [World.cell?, hQ]
  have cq2 : ∀ q, (w.drewN q).cell? ⟨Q, 2, none⟩ = some (.int .i64 N) := fun q => show w.cell? _ = _ by simp [World.cell?, hQ]
  have fQ : ∀ q o, (w.drewN q).frozen? ⟨Q, o, none⟩ = false := fun q o => show w.frozen? _ = _ by simp [World.frozen?, hQ]
  have cx1 : ∀ q, (w.drewN q).cell? ⟨xb, 1, none⟩ = some (np) := fun q => show w.cell? _ = _ by simp [World.cell?, hx]
  have cx2 : ∀ q, (w.drewN q).cell? ⟨xb, 2, none⟩ = some (np) := fun q => show w.cell? _ = _ by simp [World.cell?, hx]
  have fx : ∀ q o, (w.drewN q).frozen? ⟨xb, o, none⟩ = false := fun q o => show w.frozen? _ = _ by simp [World.frozen?, hx]
  have hQx : Q ≠ xb := Ne.symm hxQ
  have dq0 : w.cell? ⟨Q, 0, none⟩ = some (q0) := by simp [World.cell?, hQ]
  have dq1 : w.cell? ⟨Q, 1, none⟩ = some (q1) := by simp [World.cell?, hQ]
  have dq2 : w.cell? ⟨Q, 2, none⟩ = some (.int .i64 N) := by simp [World.cell?, hQ]
  have gQ : ∀ o, w.frozen? ⟨Q, o, none⟩ = false := fun o => by simp [World.frozen?, hQ]
  have dx1 : w.cell? ⟨xb, 1, none⟩ = some (np) := by simp [World.cell?, hx]
  have dx2 : w.cell? ⟨xb, 2, none⟩ = some (np) := by simp [World.cell?, hx]
  have gx : ∀ o, w.frozen? ⟨xb, o, none⟩ = false := fun o => by simp [World.frozen?, hx]
  have HQ := Lib.hid hQ
  have HX := Lib.hid hx
  clear hQ hx
  go_enter Try.func60, Try.ntmps60
  go_wp2_with fail
  go_end0
  have E1 : (w.setCell ⟨Q, 0, none⟩ np).heap[Q]? = some (.cells #[np, q1, .int .i64 N] 94 (0, 0)) := by rw [heap_setCell_same _ _ _ _ _ _ HQ.out]; rfl
  have E2 : ((w.setCell ⟨Q, 0, none⟩ np).setCell ⟨Q, 1, none⟩ np).heap[Q]? = some (.cells #[np, np, .int .i64 N] 94 (0, 0)) := by rw [heap_setCell_same _ _ _ _ _ _ E1]; rfl
  refine ⟨⟨_, rfl⟩, by rw [heap_setCell_same _ _ _ _ _ _ E2]; rfl, ⟨rfl, rfl, rfl, by simp, fun k _ hn => ?_⟩, by simp⟩
  rw [heap_ne _ _ _ hn, heap_ne _ _ _ hn, heap_ne _ _ _ hn]
set_option maxRecDepth 100000 in
set_option maxHeartbeats 1000000 in
theorem cutW01 (w : World) (Q xb bb : Nat) (N : Int) (q0 q1 xv : Value) (hN : 0 < N ∧ N < 1000000) (hQ : w.heap[Q]? = some (.cells #[q0, q1, .int .i64 N] 94 (0, 0))) (hx : w.heap[xb]? = some (.cells #[xv, np, pv bb] 96 (0, 0))) (hxQ : xb ≠ Q) (v0 v2 : Value) (hb : w.heap[bb]? = some (.cells #[v0, pv xb, v2] 96 (0, 0))) (hbb : bb ≠ Q) (hbx : bb ≠ xb) :
    Calls Try.prog 60 #[pv Q, pv xb] w fun e w' => (∃ v, e = .returned v) ∧ w'.heap[Q]? = some (.cells #[pv bb, q1, .int .i64 (N - 1)] 94 (0, 0)) ∧ w'.heap[bb]? = some (.cells #[v0, np, v2] 96 (0, 0)) ∧ Fm w w' (fun k => k = Q ∨ k = bb) ∧ w'.heap.size = w.heap.size := by
  obtain ⟨hN1, hN2⟩ := hN
  have cq0 : ∀ q, (w.drewN q).cell? ⟨Q, 0, none⟩ = some (q0) := fun q => show w.cell? _ = _ by simp [World.cell?, hQ]
  have cq1 : ∀ q, (w.drewN q).cell? ⟨Q, 1, none⟩ = some (q1) := fun q => show w.cell? _ = _ by simp [World.cell?, hQ]
  have cq2 : ∀ q, (w.drewN q).cell? ⟨Q, 2, none⟩ = some (.int .i64 N) := fun q => show w.cell? _ = _ by simp [World.cell?, hQ]
  have fQ : ∀ q o, (w.drewN q).frozen? ⟨Q, o, none⟩ = false := fun q o => show w.frozen? _ = _ by simp [World.frozen?, hQ]
  have cx1 : ∀ q, (w.drewN q).cell? ⟨xb, 1, none⟩ = some (np) := fun q => show w.cell? _ = _ by simp [World.cell?, hx]
  have cx2 : ∀ q, (w.drewN q).cell? ⟨xb, 2, none⟩ = some (pv bb) := fun q => show w.cell? _ = _ by simp [World.cell?, hx]
  have fx : ∀ q o, (w.drewN q).frozen? ⟨xb, o, none⟩ = false := fun q o => show w.frozen? _ = _ by simp [World.frozen?, hx]
  have cb1 : ∀ q, (w.drewN q).cell? ⟨bb, 1, none⟩ = some (pv xb) := fun q => show w.cell? _ = _ by simp [World.cell?, hb]
  have fb : ∀ q o, (w.drewN q).frozen? ⟨bb, o, none⟩ = false := fun q o => show w.frozen? _ = _ by simp [World.frozen?, hb]
  have hbb2 : Q ≠ bb := Ne.symm hbb
  have hxb : xb ≠ bb := Ne.symm hbx
  have hQx : Q ≠ xb := Ne.symm hxQ
  have dq0 : w.cell? ⟨Q, 0, none⟩ = some (q0) := by simp [World.cell?, hQ]
  have dq1 : w.cell? ⟨Q, 1, none⟩ = some (q1) := by simp [World.cell?, hQ]
  have dq2 : w.cell? ⟨Q, 2, none⟩ = some (.int .i64 N) := by simp [World.cell?, hQ]
  have gQ : ∀ o, w.frozen? ⟨Q, o, none⟩ = false := fun o => by simp [World.frozen?, hQ]
  have dx1 : w.cell? ⟨xb, 1, none⟩ = some (np) := by simp [World.cell?, hx]
  have dx2 : w.cell? ⟨xb, 2, none⟩ = some (pv bb) := by simp [World.cell?, hx]
  have gx : ∀ o, w.frozen? ⟨xb, o, none⟩ = false := fun o => by simp [World.frozen?, hx]
  have db1 : w.cell? ⟨bb, 1, none⟩ = some (pv xb) := by simp [World.cell?, hb]
  have gb : ∀ o, w.frozen? ⟨bb, o, none⟩ = false := fun o => by simp [World.frozen?, hb]
  have HQ := Lib.hid hQ
  have HX := Lib.hid hx
  clear hQ hx
  have HBB := Lib.hid hb
  clear hb
  go_enter Try.func60, Try.ntmps60
  go_upto_region 3 with fail
  obtain ⟨Y, hY⟩ : ∃ Y, w.setCell ⟨Q, 0, none⟩ (pv bb) = Y := ⟨_, rfl⟩
  rw [hY]
  have YX : Y.heap[xb]? = some (.cells #[xv, np, pv bb] 96 (0, 0)) := by rw [← hY, heap_ne _ _ _ hxQ]; exact HX.out
  have YB : Y.heap[bb]? = some (.cells #[v0, pv xb, v2] 96 (0, 0)) := by rw [← hY, heap_ne _ _ _ hbb]; exact HBB.out
  have YQ : Y.heap[Q]? = some (.cells #[pv bb, q1, .int .i64 N] 94 (0, 0)) := by rw [← hY, heap_setCell_same _ _ _ _ _ _ HQ.out]; rfl
  have YF : Fm w Y (fun k => k = Q) := by rw [← hY]; exact ⟨rfl, rfl, rfl, by simp, fun _ _ hn => heap_ne _ _ _ hn⟩
  have Ysz : Y.heap.size = w.heap.size := by rw [← hY]; simp
  have y0 : ∀ q, (Y.drewN q).cell? ⟨xb, 2, none⟩ = some (pv bb) := fun q => show Y.cell? _ = _ by simp [World.cell?, YX]
  have y1 : ∀ q, (Y.drewN q).cell? ⟨xb, 1, none⟩ = some (np) := fun q => show Y.cell? _ = _ by simp [World.cell?, YX]
  have y2 : Y.cell? ⟨xb, 2, none⟩ = some (pv bb) := y0 0
  have y3 : ∀ q, (Y.drewN q).cell? ⟨bb, 1, none⟩ = some (pv xb) := fun q => show Y.cell? _ = _ by simp [World.cell?, YB]
  have y4 : ∀ q, (Y.drewN q).cell? ⟨Q, 2, none⟩ = some (.int .i64 N) := fun q => show Y.cell? _ = _ by simp [World.cell?, YQ]
  have y5 : ∀ q o, (Y.drewN q).frozen? ⟨bb, o, none⟩ = false := fun q o => show Y.frozen? _ = _ by simp [World.frozen?, YB]
  have y6 : ∀ q o, (Y.drewN q).frozen? ⟨Q, o, none⟩ = false := fun q o => show Y.frozen? _ = _ by simp [World.frozen?, YQ]
  have HYq := Lib.hid hY
  clear hY
  go_wp2_with fail
  refine wp_region_tail_d 10 (by kernel_rfl) (by kernel_rfl) ?_
  simp only [List.take_succ_cons, List.take_zero, List.drop_succ_cons, List.drop_zero]
  repeat (quiet_step (fail))
  refine wpQuiet_nil ?_
  intro _ hw'
  obtain ⟨n2, hw''⟩ := hw'
  subst hw''
  go_wp2_with fail
  go_end0
  have E1 : ((Y.drewN n2).setCell ⟨bb, 1, none⟩ (np)).heap[Q]? = some (.cells #[pv bb, q1, .int .i64 N] 94 (0, 0)) := by rw [heap_ne _ _ _ hbb2]; exact YQ
  refine ⟨⟨_, rfl⟩, by rw [heap_setCell_same _ _ _ _ _ _ E1]; rfl, ?_, ⟨?_, ?_, ?_, by simp; omega, fun k hk hn => ?_⟩, by simp; omega⟩
  · rw [heap_ne _ _ _ hbb, heap_setCell_same (Y.drewN n2) _ _ _ _ _ YB]; rfl
  · exact YF.os
  · exact YF.tape
  · exact YF.output
  · have h1 : k ≠ Q := fun e => hn (.inl e)
    have h2 : k ≠ bb := fun e => hn (.inr e)
    rw [heap_ne _ _ _ h1, heap_ne _ _ _ h2]
    exact YF.same k hk (fun e => hn (.inl e))
set_option maxRecDepth 100000 in
set_option maxHeartbeats 1000000 in
theorem cutW10 (w : World) (Q xb ab : Nat) (N : Int) (q0 q1 xv : Value) (hN : 0 < N ∧ N < 1000000) (hQ : w.heap[Q]? = some (.cells #[q0, q1, .int .i64 N] 94 (0, 0))) (hx : w.heap[xb]? = some (.cells #[xv, pv ab, np] 96 (0, 0))) (hxQ : xb ≠ Q) (u0 u1 : Value) (ha : w.heap[ab]? = some (.cells #[u0, u1, pv xb] 96 (0, 0))) (hab : ab ≠ Q) (hax : ab ≠ xb) :
    Calls Try.prog 60 #[pv Q, pv xb] w fun e w' => (∃ v, e = .returned v) ∧ w'.heap[Q]? = some (.cells #[q0, pv ab, .int .i64 (N - 1)] 94 (0, 0)) ∧ w'.heap[ab]? = some (.cells #[u0, u1, np] 96 (0, 0)) ∧ Fm w w' (fun k => k = Q ∨ k = ab) ∧ w'.heap.size = w.heap.size := by
  obtain ⟨hN1, hN2⟩ := hN
  have cq0 : ∀ q, (w.drewN q).cell? ⟨Q, 0, none⟩ = some (q0) := fun q => show w.cell? _ = _ by simp [World.cell?, hQ]
  have cq1 : ∀ q, (w.drewN q).cell? ⟨Q, 1, none⟩ = some (q1) := fun q => show w.cell? _ = _ by simp [World.cell?, hQ]
  have cq2 : ∀ q, (w.drewN q).cell? ⟨Q, 2, none⟩ = some (.int .i64 N) := fun q => show w.cell? _ = _ by simp [World.cell?, hQ]
  have fQ : ∀ q o, (w.drewN q).frozen? ⟨Q, o, none⟩ = false := fun q o => show w.frozen? _ = _ by simp [World.frozen?, hQ]
  have cx1 : ∀ q, (w.drewN q).cell? ⟨xb, 1, none⟩ = some (pv ab) := fun q => show w.cell? _ = _ by simp [World.cell?, hx]
  have cx2 : ∀ q, (w.drewN q).cell? ⟨xb, 2, none⟩ = some (np) := fun q => show w.cell? _ = _ by simp [World.cell?, hx]
  have fx : ∀ q o, (w.drewN q).frozen? ⟨xb, o, none⟩ = false := fun q o => show w.frozen? _ = _ by simp [World.frozen?, hx]
  have ca2 : ∀ q, (w.drewN q).cell? ⟨ab, 2, none⟩ = some (pv xb) := fun q => show w.cell? _ = _ by simp [World.cell?, ha]
  have fa : ∀ q o, (w.drewN q).frozen? ⟨ab, o, none⟩ = false := fun q o => show w.frozen? _ = _ by simp [World.frozen?, ha]
  have hba : Q ≠ ab := Ne.symm hab
  have hxa : xb ≠ ab := Ne.symm hax
  have hQx : Q ≠ xb := Ne.symm hxQ
  have dq0 : w.cell? ⟨Q, 0, none⟩ = some (q0) := by simp [World.cell?, hQ]
  have dq1 : w.cell? ⟨Q, 1, none⟩ = some (q1) := by simp [World.cell?, hQ]
  have dq2 : w.cell? ⟨Q, 2, none⟩ = some (.int .i64 N) := by simp [World.cell?, hQ]
  have gQ : ∀ o, w.frozen? ⟨Q, o, none⟩ = false := fun o => by simp [World.frozen?, hQ]
  have dx1 : w.cell? ⟨xb, 1, none⟩ = some (pv ab) := by simp [World.cell?, hx]
  have dx2 : w.cell? ⟨xb, 2, none⟩ = some (np) := by simp [World.cell?, hx]
  have gx : ∀ o, w.frozen? ⟨xb, o, none⟩ = false := fun o => by simp [World.frozen?, hx]
  have da2 : w.cell? ⟨ab, 2, none⟩ = some (pv xb) := by simp [World.cell?, ha]
  have ga : ∀ o, w.frozen? ⟨ab, o, none⟩ = false := fun o => by simp [World.frozen?, ha]
  have HQ := Lib.hid hQ
  have HX := Lib.hid hx
  clear hQ hx
  have HA := Lib.hid ha
  clear ha
  go_enter Try.func60, Try.ntmps60
  go_wp2_with fail
  refine wp_region_tail_d 10 (by kernel_rfl) (by kernel_rfl) ?_
  simp only [List.take_succ_cons, List.take_zero, List.drop_succ_cons, List.drop_zero]
  repeat (quiet_step (fail))
  refine wpQuiet_nil ?_
  intro _ hw'
  obtain ⟨n1, hw''⟩ := hw'
  subst hw''
  go_wp2_with fail
  go_end0
  have E1 : ((w.drewN n1).setCell ⟨ab, 2, none⟩ np).heap[Q]? = some (.cells #[q0, q1, .int .i64 N] 94 (0, 0)) := by rw [heap_ne _ _ _ hba]; exact HQ.out
  have E2 : (((w.drewN n1).setCell ⟨ab, 2, none⟩ np).setCell ⟨Q, 1, none⟩ (pv ab)).heap[Q]? = some (.cells #[q0, pv ab, .int .i64 N] 94 (0, 0)) := by rw [heap_setCell_same _ _ _ _ _ _ E1]; rfl
  refine ⟨⟨_, rfl⟩, by rw [heap_setCell_same _ _ _ _ _ _ E2]; rfl, ?_, ⟨rfl, rfl, rfl, by simp, fun k _ hn => ?_⟩, by simp⟩
  · rw [heap_ne _ _ _ hab, heap_ne _ _ _ hab, heap_setCell_same (w.drewN n1) _ _ _ _ _ HA.out]; rfl
  · have h1 : k ≠ Q := fun e => hn (.inl e)
    have h2 : k ≠ ab := fun e => hn (.inr e)
    rw [heap_ne _ _ _ h1, heap_ne _ _ _ h1, heap_ne _ _ _ h2]; rfl
set_option maxRecDepth 100000 in
set_option maxHeartbeats 1000000 in
theorem cutW11 (w : World) (Q xb ab bb : Nat) (N : Int) (q0 q1 xv : Value) (hN : 0 < N ∧ N < 1000000) (hQ : w.heap[Q]? = some (.cells #[q0, q1, .int .i64 N] 94 (0, 0))) (hx : w.heap[xb]? = some (.cells #[xv, pv ab, pv bb] 96 (0, 0))) (hxQ : xb ≠ Q) (u0 u1 : Value) (ha : w.heap[ab]? = some (.cells #[u0, u1, pv xb] 96 (0, 0))) (hab : ab ≠ Q) (hax : ab ≠ xb) (v0 v2 : Value) (hb : w.heap[bb]? = some (.cells #[v0, pv xb, v2] 96 (0, 0))) (hbb : bb ≠ Q) (hbx : bb ≠ xb) (hne : ab ≠ bb) :
    Calls Try.prog 60 #[pv Q, pv xb] w fun e w' => (∃ v, e = .returned v) ∧ w'.heap[Q]? = some (.cells #[q0, q1, .int .i64 (N - 1)] 94 (0, 0)) ∧ w'.heap[ab]? = some (.cells #[u0, u1, pv bb] 96 (0, 0)) ∧ w'.heap[bb]? = some (.cells #[v0, pv ab, v2] 96 (0, 0)) ∧ Fm w w' (fun k => k = Q ∨ k = ab ∨ k = bb) ∧ w'.heap.size = w.heap.size := by
  obtain ⟨hN1, hN2⟩ := hN
  have cq0 : ∀ q, (w.drewN q).cell? ⟨Q, 0, none⟩ = some (q0) := fun q => show w.cell? _ = _ by simp [World.cell?, hQ]
  have cq1 : ∀ q, (w.drewN q).cell? ⟨Q, 1, none⟩ = some (q1) := fun q => show w.cell? _ = _ by simp [World.cell?, hQ]
  have cq2 : ∀ q, (w.drewN q).cell? ⟨Q, 2, none⟩ = some (.int .i64 N) := fun q => show w.cell? _ = _ by simp [World.cell?, hQ]
  have fQ : ∀ q o, (w.drewN q).frozen? ⟨Q, o, none⟩ = false := fun q o => show w.frozen? _ = _ by simp [World.frozen?, hQ]
  have cx1 : ∀ q, (w.drewN q).cell? ⟨xb, 1, none⟩ = some (pv ab) := fun q => show w.cell? _ = _ by simp [World.cell?, hx]
  have cx2 : ∀ q, (w.drewN q).cell? ⟨xb, 2, none⟩ = some (pv bb) := fun q => show w.cell? _ = _ by simp [World.cell?, hx]
  have fx : ∀ q o, (w.drewN q).frozen? ⟨xb, o, none⟩ = false := fun q o => show w.frozen? _ = _ by simp [World.frozen?, hx]
  have ca2 : ∀ q, (w.drewN q).cell? ⟨ab, 2, none⟩ = some (pv xb) := fun q => show w.cell? _ = _ by simp [World.cell?, ha]
  have fa : ∀ q o, (w.drewN q).frozen? ⟨ab, o, none⟩ = false := fun q o => show w.frozen? _ = _ by simp [World.frozen?, ha]
  have cb1 : ∀ q, (w.drewN q).cell? ⟨bb, 1, none⟩ = some (pv xb) := fun q => show w.cell? _ = _ by simp [World.cell?, hb]
  have fb : ∀ q o, (w.drewN q).frozen? ⟨bb, o, none⟩ = false := fun q o => show w.frozen? _ = _ by simp [World.frozen?, hb]
  have hba : Q ≠ ab := Ne.symm hab
  have hxa : xb ≠ ab := Ne.symm hax
  have hbb2 : Q ≠ bb := Ne.symm hbb
  have hxb : xb ≠ bb := Ne.symm hbx
  have hne2 : bb ≠ ab := Ne.symm hne
  have hQx : Q ≠ xb := Ne.symm hxQ
  have dq0 : w.cell? ⟨Q, 0, none⟩ = some (q0) := by simp [World.cell?, hQ]
  have dq1 : w.cell? ⟨Q, 1, none⟩ = some (q1) := by simp [World.cell?, hQ]
  have dq2 : w.cell? ⟨Q, 2, none⟩ = some (.int .i64 N) := by simp [World.cell?, hQ]
  have gQ : ∀ o, w.frozen? ⟨Q, o, none⟩ = false := fun o => by simp [World.frozen?, hQ]
  have dx1 : w.cell? ⟨xb, 1, none⟩ = some (pv ab) := by simp [World.cell?, hx]
  have dx2 : w.cell? ⟨xb, 2, none⟩ = some (pv bb) := by simp [World.cell?, hx]
  have gx : ∀ o, w.frozen? ⟨xb, o, none⟩ = false := fun o => by simp [World.frozen?, hx]
  have da2 : w.cell? ⟨ab, 2, none⟩ = some (pv xb) := by simp [World.cell?, ha]
  have ga : ∀ o, w.frozen? ⟨ab, o, none⟩ = false := fun o => by simp [World.frozen?, ha]
  have db1 : w.cell? ⟨bb, 1, none⟩ = some (pv xb) := by simp [World.cell?, hb]
  have gb : ∀ o, w.frozen? ⟨bb, o, none⟩ = false := fun o => by simp [World.frozen?, hb]
  have HQ := Lib.hid hQ
  have HX := Lib.hid hx
  clear hQ hx
  have HA := Lib.hid ha
  clear ha
  have HBB := Lib.hid hb
  clear hb
  go_enter Try.func60, Try.ntmps60
  go_wp2_with fail
  refine wp_region_tail_d 10 (by kernel_rfl) (by kernel_rfl) ?_
  simp only [List.take_succ_cons, List.take_zero, List.drop_succ_cons, List.drop_zero]
  repeat (quiet_step (fail))
  refine wpQuiet_nil ?_
  intro _ hw'
  obtain ⟨n1, hw''⟩ := hw'
  subst hw''
  go_upto_region 3 with fail
  obtain ⟨Y, hY⟩ : ∃ Y, (w.drewN n1).setCell ⟨ab, 2, none⟩ (pv bb) = Y := ⟨_, rfl⟩
  rw [hY]
  have YX : Y.heap[xb]? = some (.cells #[xv, pv ab, pv bb] 96 (0, 0)) := by rw [← hY, heap_ne _ _ _ hxa]; exact HX.out
  have YB : Y.heap[bb]? = some (.cells #[v0, pv xb, v2] 96 (0, 0)) := by rw [← hY, heap_ne _ _ _ hne2]; exact HBB.out
  have YQ : Y.heap[Q]? = some (.cells #[q0, q1, .int .i64 N] 94 (0, 0)) := by rw [← hY, heap_ne _ _ _ hba]; exact HQ.out
  have YF : Fm w Y (fun k => k = ab) := by rw [← hY]; exact ⟨rfl, rfl, rfl, by simp, fun _ _ hn => heap_ne _ _ _ hn⟩
  have Ysz : Y.heap.size = w.heap.size := by rw [← hY]; simp
  have YA : Y.heap[ab]? = some (.cells #[u0, u1, pv bb] 96 (0, 0)) := by rw [← hY, heap_setCell_same (w.drewN n1) _ _ _ _ _ HA.out]; rfl
  have y0 : ∀ q, (Y.drewN q).cell? ⟨xb, 2, none⟩ = some (pv bb) := fun q => show Y.cell? _ = _ by simp [World.cell?, YX]
  have y1 : ∀ q, (Y.drewN q).cell? ⟨xb, 1, none⟩ = some (pv ab) := fun q => show Y.cell? _ = _ by simp [World.cell?, YX]
  have y2 : Y.cell? ⟨xb, 2, none⟩ = some (pv bb) := y0 0
  have y3 : ∀ q, (Y.drewN q).cell? ⟨bb, 1, none⟩ = some (pv xb) := fun q => show Y.cell? _ = _ by simp [World.cell?, YB]
  have y4 : ∀ q, (Y.drewN q).cell? ⟨Q, 2, none⟩ = some (.int .i64 N) := fun q => show Y.cell? _ = _ by simp [World.cell?, YQ]
  have y5 : ∀ q o, (Y.drewN q).frozen? ⟨bb, o, none⟩ = false := fun q o => show Y.frozen? _ = _ by simp [World.frozen?, YB]
  have y6 : ∀ q o, (Y.drewN q).frozen? ⟨Q, o, none⟩ = false := fun q o => show Y.frozen? _ = _ by simp [World.frozen?, YQ]
  have HYq := Lib.hid hY
  clear hY
  go_wp2_with fail
  refine wp_region_tail_d 10 (by kernel_rfl) (by kernel_rfl) ?_
  simp only [List.take_succ_cons, List.take_zero, List.drop_succ_cons, List.drop_zero]
  repeat (quiet_step (fail))
  refine wpQuiet_nil ?_
  intro _ hw'
  obtain ⟨n2, hw''⟩ := hw'
  subst hw''
  go_wp2_with fail
  go_end0
  have E1 : ((Y.drewN n2).setCell ⟨bb, 1, none⟩ (pv ab)).heap[Q]? = some (.cells #[q0, q1, .int .i64 N] 94 (0, 0)) := by rw [heap_ne _ _ _ hbb2]; exact YQ
  refine ⟨⟨_, rfl⟩, by rw [heap_setCell_same _ _ _ _ _ _ E1]; rfl, ?_, ?_, ⟨?_, ?_, ?_, by simp; omega, fun k hk hn => ?_⟩, by simp; omega⟩
  · rw [heap_ne _ _ _ hab, heap_ne _ _ _ hne]; exact YA
  · rw [heap_ne _ _ _ hbb, heap_setCell_same (Y.drewN n2) _ _ _ _ _ YB]; rfl
  · exact YF.os
  · exact YF.tape
  · exact YF.output
  · have h1 : k ≠ Q := fun e => hn (.inl e)
    have h2 : k ≠ bb := fun e => hn (.inr (.inr e))
    rw [heap_ne _ _ _ h1, heap_ne _ _ _ h2]
    exact YF.same k hk (fun e => hn (.inr (.inl e)))
set_option maxRecDepth 100000 in
set_option maxHeartbeats 1000000 in
theorem cutW (w : World) (Q : Nat) (a b : List It) (x : It) (h : QAW w Q (a ++ x :: b)) (hn : (a ++ x :: b).length < 1000000) :
    Calls Try.prog 60 #[pv Q, pv x.I] w fun e w' => (∃ v, e = .returned v) ∧ QAW w' Q (a ++ b) ∧ Fm w w' (qf Q (a ++ b)) ∧ w'.heap.size = w.heap.size := by
  have hx := h.item
  have hQ := h.blk
  have hit : ∀ y ∈ a ++ x :: b, y.I ≠ Q := fun y hy e => by
    obtain ⟨_, _, hyB⟩ := chn_at h.ch y hy
    rw [e, hQ] at hyB; simp at hyB
  have hxQ := hit x (by simp)
  have hL : ((a ++ x :: b).length : Int) - 1 = ((a ++ b).length : Int) := by simp; omega
  have hN : 0 < ((a ++ x :: b).length : Int) ∧ ((a ++ x :: b).length : Int) < 1000000 := ⟨by simp; omega, by omega⟩
  have hnd := h.nd
  have hsm : ∀ {w' : World} {F : Nat → Prop}, Fm w w' F → ∀ y ∈ a ++ x :: b, ¬ F y.I → w'.heap[y.I]? = w.heap[y.I]? := fun hF y hy hn => hF.same _ (h.lt (.inr (List.mem_map_of_mem hy))) hn
  rcases snoc_or a with rfl | ⟨a, y, rfl⟩
  · cases b with
    | nil =>
      refine (cutW00 w Q x.I _ _ _ x.v hN hQ hx hxQ).mono ?_
      rintro e w' ⟨he, h1, hF, hs⟩
      rw [hL] at h1
      refine ⟨he, h.cutted (a := []) (b := []) h1 (fun a' y' e => by simp at e) (fun y' b' e => by simp at e), hF.mono (fun k _ hk => .inl hk), hs⟩
    | cons z b =>
      have hzx : z.I ≠ x.I := fun e => by simp [e] at hnd
      have hz : w.heap[z.I]? = some (.cells #[z.v, pv x.I, hdV np b] 96 (0, 0)) := (show QAW w Q ([x] ++ z :: b) from h).item
      refine (cutW01 w Q x.I z.I _ _ _ x.v hN hQ hx hxQ _ _ hz (hit z (by simp)) hzx).mono ?_
      rintro e w' ⟨he, h1, h2, hF, hs⟩
      rw [hL] at h1
      refine ⟨he, h.cutted (a := []) (b := z :: b) h1 (fun a' y' e => by simp at e) (fun y' b' e => ?_), hF.mono (fun k _ hk => hk.elim .inl (fun e => .inr (by simp [e]))), hs⟩
      obtain ⟨rfl, rfl⟩ : z = y' ∧ b = b' := by simpa using e
      refine ⟨h2, fun u hu => hsm hF u (by simp [hu]) (fun e => ?_)⟩
      rcases e with e | e
      · exact hit u (by simp [hu]) e
      · have hd2 : (z.I :: b.map It.I).Nodup := (List.nodup_cons.1 hnd).2
        exact (List.nodup_cons.1 hd2).1 (by rw [← e]; exact List.mem_map_of_mem hu)
  · have hy : w.heap[y.I]? = some (.cells #[y.v, lsV np a, pv x.I] 96 (0, 0)) := (show QAW w Q (a ++ y :: x :: b) from by simpa using h).item
    rw [lsV_last] at hx
    have hnd2 : (a.map It.I ++ y.I :: x.I :: b.map It.I).Nodup := by simpa using hnd
    rw [List.nodup_append] at hnd2
    obtain ⟨n1, n2, n3⟩ := hnd2
    have n4 := List.nodup_cons.1 n2
    have n5 := List.nodup_cons.1 n4.2
    have hyx : y.I ≠ x.I := fun e => n4.1 (by simp [e])
    have hya : ∀ u ∈ a, u.I ≠ y.I := fun u hu e => n3 u.I (List.mem_map_of_mem hu) y.I (by simp) e
    have hxa : ∀ u ∈ a, u.I ≠ x.I := fun u hu e => n3 u.I (List.mem_map_of_mem hu) x.I (by simp) e
    have hq : hdV np (a ++ [y] ++ x :: b) = hdV np (a ++ [y] ++ b) := by cases a <;> rfl
    rw [hq] at hQ
    cases b with
    | nil =>
      refine (cutW10 w Q x.I y.I _ _ _ x.v hN hQ hx hxQ _ _ hy (hit y (by simp)) hyx).mono ?_
      rintro e w' ⟨he, h1, h2, hF, hs⟩
      rw [hL] at h1
      refine ⟨he, h.cutted (a := a ++ [y]) (b := []) ?_ (fun a' y' e => ?_) (fun y' b' e => by simp at e), hF.mono (fun k _ hk => hk.elim .inl (fun e => .inr (by simp [e]))), hs⟩
      · rw [h1]; simp [lsV_last]
      · obtain ⟨rfl, e2⟩ := List.append_inj' e rfl
        obtain rfl : y = y' := by simpa using e2
        refine ⟨h2, fun u hu => hsm hF u (by simp [hu]) (fun e => ?_)⟩
        rcases e with e | e
        · exact hit u (by simp [hu]) e
        · exact hya u hu e
    | cons z b =>
      have hz : w.heap[z.I]? = some (.cells #[z.v, pv x.I, hdV np b] 96 (0, 0)) := by
        have := (show QAW w Q ((a ++ [y] ++ [x]) ++ z :: b) from by simpa using h).item
        rwa [lsV_last] at this
      have hzy : y.I ≠ z.I := fun e => n4.1 (by simp [e])
      have hzx : z.I ≠ x.I := fun e => n5.1 (by simp [e])
      have hza : ∀ u ∈ a, u.I ≠ z.I := fun u hu e => n3 u.I (List.mem_map_of_mem hu) z.I (by simp) e
      have n6 := List.nodup_cons.1 n5.2
      refine (cutW11 w Q x.I y.I z.I _ _ _ x.v hN hQ hx hxQ _ _ hy (hit y (by simp)) hyx _ _ hz (hit z (by simp)) hzx hzy).mono ?_
      rintro e w' ⟨he, h1, h2, h3, hF, hs⟩
      rw [hL] at h1
      refine ⟨he, h.cutted (a := a ++ [y]) (b := z :: b) ?_ (fun a' y' e => ?_) (fun y' b' e => ?_), hF.mono (fun k _ hk => ?_), hs⟩
      · rw [h1, show lsV np (a ++ [y] ++ x :: z :: b) = lsV np (a ++ [y] ++ z :: b) from by rw [lsV_app, lsV_app _ (a ++ [y]) (z :: b)]; rfl]
      · obtain ⟨rfl, e2⟩ := List.append_inj' e rfl
        obtain rfl : y = y' := by simpa using e2
        refine ⟨h2, fun u hu => hsm hF u (by simp [hu]) (fun e => ?_)⟩
        rcases e with e | e | e
        · exact hit u (by simp [hu]) e
        · exact hya u hu e
        · exact hza u hu e
      · obtain ⟨rfl, rfl⟩ : z = y' ∧ b = b' := by simpa using e
        refine ⟨by rw [lsV_last]; exact h3, fun u hu => hsm hF u (by simp [hu]) (fun e => ?_)⟩
        rcases e with e | e | e
        · exact hit u (by simp [hu]) e
        · exact n4.1 (by rw [← e]; simp; exact .inr (.inr ⟨u, hu, rfl⟩))
        · exact n6.1 (by rw [← e]; exact List.mem_map_of_mem hu)
      · rcases hk with e | e | e
        · exact .inl e
        · exact .inr (by simp [e])
        · exact .inr (by simp [e])

end Go.Proofs.Ythknnmllibdggaa
