/- push, cut and size of a queue. -/
import Derived.Test.YthknnmllibdggaaChain
import Derived.Test.YthknnmllibdggaaTail
namespace Go.Proofs.Ythknnmllibdggaa
open Go.RowKit Go.Sort
abbrev QAW (w : World) (Q : Nat) (l : List It) : Prop := QAt w 94 96 Q l
set_option maxRecDepth 100000 in
set_option maxHeartbeats 1000000 in
theorem pushW (w : World) (Q : Nat) (l : List It) (B : Nat) (h : QAW w Q l) (hn : l.length < 1000000) :
    Calls Try.prog 59 #[pv Q, pv B] w fun e w' => e = .returned (pv w.heap.size) ∧ QAW w' Q (l ++ [⟨w.heap.size, pv B⟩]) ∧ Fm w w' (qf Q l) ∧ w'.heap.size = w.heap.size + 1 := by
  have q1 : w.cell? ⟨Q, 1, none⟩ = some (lsV np l) := by simp [World.cell?, h.blk]
  have hQ := heap_lt h.blk
  have hB := h.blk
  rcases snoc_or l with rfl | ⟨a, y, rfl⟩
  · obtain ⟨W, hW⟩ : ∃ W, w.alloc (.cells #[pv B, np, np] 96) = W := ⟨_, rfl⟩
    have HI : W.heap[w.heap.size]? = some (.cells #[pv B, np, np] 96 (0, 0)) := by rw [← hW]; exact heap_new _ _
    have HB : W.heap[Q]? = some (.cells #[np, np, .int .i64 0] 94 (0, 0)) := by rw [← hW]; exact (Below.heap_alloc _ _ _ hQ).trans hB
    have HF : Fm w W (fun _ => False) := by rw [← hW]; exact Fm.alloc _ _ _
    have hsz : W.heap.size = w.heap.size + 1 := by rw [← hW]; simp
    have c0 : W.cell? ⟨Q, 0, none⟩ = some np := by simp [World.cell?, HB]
    have c1 : W.cell? ⟨Q, 1, none⟩ = some np := by simp [World.cell?, HB]
    have c2 : W.cell? ⟨Q, 2, none⟩ = some (.int .i64 0) := by simp [World.cell?, HB]
    have f0 : ∀ o, W.frozen? ⟨Q, o, none⟩ = false := fun o => by simp [World.frozen?, HB]
    have HH := Lib.hid h
    have q1' : w.cell? ⟨Q, 1, none⟩ = some np := q1
    clear h hB q1
    go_enter Try.func59, Try.ntmps59
    go_wp2_with fail
    go_ret
    obtain ⟨X1, hX1⟩ : ∃ X1, W.setCell ⟨Q, 0, none⟩ (pv w.heap.size) = X1 := ⟨_, rfl⟩
    obtain ⟨X2, hX2⟩ : ∃ X2, X1.setCell ⟨Q, 1, none⟩ (pv w.heap.size) = X2 := ⟨_, rfl⟩
    have B1 : X1.heap[Q]? = some (.cells #[pv w.heap.size, np, .int .i64 0] 94 (0, 0)) := by rw [← hX1, heap_setCell_same _ _ _ _ _ _ HB]; rfl
    have B2 : X2.heap[Q]? = some (.cells #[pv w.heap.size, pv w.heap.size, .int .i64 0] 94 (0, 0)) := by rw [← hX2, heap_setCell_same _ _ _ _ _ _ B1]; rfl
    have B3 : (X2.setCell ⟨Q, 2, none⟩ (.int .i64 1)).heap[Q]? = some (.cells #[pv w.heap.size, pv w.heap.size, .int .i64 1] 94 (0, 0)) := by rw [heap_setCell_same _ _ _ _ _ _ B2]; rfl
    have hne : ∀ k, k ≠ Q → (X2.setCell ⟨Q, 2, none⟩ (.int .i64 1)).heap[k]? = W.heap[k]? := fun k hk => by
      rw [heap_ne _ _ _ hk, ← hX2, heap_ne _ _ _ hk, ← hX1, heap_ne _ _ _ hk]
    rw [hX1, hX2]
    refine ⟨rfl, HH.out.pushed (Nat.le_refl _) B3 ((hne _ (by omega)).trans HI) (fun a y e => by simp at e), ⟨?_, ?_, ?_, ?_, fun k hk hf => (hne k (fun e => hf (.inl e))).trans (HF.same k hk (fun h => h))⟩, ?_⟩
    · rw [← hX2, ← hX1]; exact HF.os
    · rw [← hX2, ← hX1]; exact HF.tape
    · rw [← hX2, ← hX1]; exact HF.output
    · rw [← hX2, ← hX1]; simp; omega
    · rw [← hX2, ← hX1]; simpa using hsz
  · have hcy := h.ch
    rw [chn_app] at hcy
    have hyB : w.heap[y.I]? = some (.cells #[y.v, lsV np a, np] 96 (0, 0)) := hcy.2.1
    have hyL := heap_lt hyB
    have hyQ : y.I ≠ Q := fun e => by rw [e] at hyB; rw [hB] at hyB; simp at hyB
    rw [lsV_last] at q1
    obtain ⟨W, hW⟩ : ∃ W, w.alloc (.cells #[pv B, pv y.I, np] 96) = W := ⟨_, rfl⟩
    have HI : W.heap[w.heap.size]? = some (.cells #[pv B, pv y.I, np] 96 (0, 0)) := by rw [← hW]; exact heap_new _ _
    have HB : W.heap[Q]? = some (.cells #[hdV np (a ++ [y]), pv y.I, .int .i64 (a ++ [y]).length] 94 (0, 0)) := by rw [← hW, ← lsV_last np a y]; exact (Below.heap_alloc _ _ _ hQ).trans hB
    have HY : W.heap[y.I]? = some (.cells #[y.v, lsV np a, np] 96 (0, 0)) := by rw [← hW]; exact (Below.heap_alloc _ _ _ hyL).trans hyB
    have HF : Fm w W (fun _ => False) := by rw [← hW]; exact Fm.alloc _ _ _
    have hsz : W.heap.size = w.heap.size + 1 := by rw [← hW]; simp
    have c1 : W.cell? ⟨Q, 1, none⟩ = some (pv y.I) := by simp [World.cell?, HB]
    have c2 : W.cell? ⟨Q, 2, none⟩ = some (.int .i64 (a ++ [y]).length) := by simp [World.cell?, HB]
    have d2 : W.cell? ⟨y.I, 2, none⟩ = some np := by simp [World.cell?, HY]
    have f0 : ∀ o, W.frozen? ⟨Q, o, none⟩ = false := fun o => by simp [World.frozen?, HB]
    have g0 : ∀ o, W.frozen? ⟨y.I, o, none⟩ = false := fun o => by simp [World.frozen?, HY]
    obtain ⟨yb, hyb⟩ : ∃ yb, y.I = yb := ⟨_, rfl⟩
    obtain ⟨N, hN⟩ : ∃ N : Int, ((a ++ [y]).length : Int) = N := ⟨_, rfl⟩
    have hN1 : 0 ≤ N ∧ N ≤ 1000000 := by omega
    have HH := Lib.hid h
    have HNn := Lib.hid hN
    rw [hyb] at q1 hyQ c1 d2 g0 hW HI HB HY
    rw [hN] at c2 HB
    have HYB := Lib.hid hyb
    have HN := Lib.hid hn
    clear h hB hcy hyB hyL hN hyb hn
    go_enter Try.func59, Try.ntmps59
    go_wp2_with fail
    go_ret
    obtain ⟨X1, hX1⟩ : ∃ X1, W.setCell ⟨yb, 2, none⟩ (pv w.heap.size) = X1 := ⟨_, rfl⟩
    obtain ⟨X2, hX2⟩ : ∃ X2, X1.setCell ⟨Q, 1, none⟩ (pv w.heap.size) = X2 := ⟨_, rfl⟩
    have B1 : X1.heap[Q]? = some (.cells #[hdV np (a ++ [y]), pv yb, .int .i64 N] 94 (0, 0)) := by rw [← hX1, heap_ne _ _ _ (Ne.symm hyQ)]; exact HB
    have B2 : X2.heap[Q]? = some (.cells #[hdV np (a ++ [y]), pv w.heap.size, .int .i64 N] 94 (0, 0)) := by rw [← hX2, heap_setCell_same _ _ _ _ _ _ B1]; rfl
    have B3 : (X2.setCell ⟨Q, 2, none⟩ (.int .i64 (N + 1))).heap[Q]? = some (.cells #[hdV np (a ++ [y]), pv w.heap.size, .int .i64 (N + 1)] 94 (0, 0)) := by rw [heap_setCell_same _ _ _ _ _ _ B2]; rfl
    have hne : ∀ k, k ≠ Q → k ≠ yb → (X2.setCell ⟨Q, 2, none⟩ (.int .i64 (N + 1))).heap[k]? = W.heap[k]? := fun k hk hy => by
      rw [heap_ne _ _ _ hk, ← hX2, heap_ne _ _ _ hk, ← hX1, heap_ne _ _ _ hy]
    have B4 : (X2.setCell ⟨Q, 2, none⟩ (.int .i64 (N + 1))).heap[yb]? = some (.cells #[y.v, lsV np a, pv w.heap.size] 96 (0, 0)) := by
      rw [heap_ne _ _ _ hyQ, ← hX2, heap_ne _ _ _ hyQ, ← hX1, heap_setCell_same _ _ _ _ _ _ HY]; rfl
    have hyl : yb < w.heap.size := by rw [← HYB.out]; exact HH.out.lt (.inr (by simp))
    rw [hX1, hX2]
    refine ⟨rfl, HH.out.pushed (Nat.le_refl _) ?_ ?_ ?_, ⟨?_, ?_, ?_, ?_, fun k hk hf => (hne k (fun e => hf (.inl e)) (fun e => hf (.inr (by rw [e, ← HYB.out]; simp)))).trans (HF.same k hk (fun h => h))⟩, ?_⟩
    · rw [B3, ← HNn.out]; cases a <;> rfl
    · rw [lsV_last, HYB.out]; exact (hne _ (by omega) (by omega)).trans HI
    · intro a' y' e
      obtain ⟨rfl, e2⟩ := List.append_inj' e rfl
      have e2 : y = y' := by simpa using e2
      subst e2
      refine ⟨by rw [HYB.out]; exact B4, fun x hx => ?_⟩
      have hnd := HH.out.nd
      rw [List.map_append, List.nodup_append] at hnd
      have hxl : x.I < w.heap.size := HH.out.lt (.inr (by simp; exact .inl ⟨x, hx, rfl⟩))
      have hxB := chn_at HH.out.ch x (by simp [hx])
      obtain ⟨_, _, hxB⟩ := hxB
      have hxQ : x.I ≠ Q := fun e => by rw [e, HH.out.blk] at hxB; simp at hxB
      have hxy : x.I ≠ yb := fun e => hnd.2.2 x.I (List.mem_map_of_mem hx) y.I (by simp) (by rw [e, HYB.out])
      exact (hne _ hxQ hxy).trans (HF.same _ hxl (fun h => h))
    · rw [← hX2, ← hX1]; exact HF.os
    · rw [← hX2, ← hX1]; exact HF.tape
    · rw [← hX2, ← hX1]; exact HF.output
    · rw [← hX2, ← hX1]; simp; omega
    · rw [← hX2, ← hX1]; simpa using hsz
theorem pushWE (w : World) (Q : Nat) (l : List It) (B : Nat) (h : QAW w Q l) (hn : l.length < 1000000) :
    Calls Try.prog 59 #[pv Q, pv B] w fun e w' => ∃ I, e = .returned (pv I) ∧ QAW w' Q (l ++ [⟨I, pv B⟩]) ∧ Fm w w' (qf Q l) ∧ w.heap.size ≤ I :=
  (pushW w Q l _ h hn).mono fun _ _ ⟨h1, h2, h3, _⟩ => ⟨_, h1, h2, h3, Nat.le_refl _⟩
theorem sizeW (w : World) (Q : Nat) (l : List It) (h : QAW w Q l) : Calls Try.prog 57 #[pv Q] w fun e w' => e = .returned (.int .i64 l.length) ∧ w' = w := by
  have q2 : w.cell? ⟨Q, 2, none⟩ = some (.int .i64 l.length) := by simp [World.cell?, h.blk]
  clear h
  go_enter Try.func57, Try.ntmps57
  go_wp2
  go_ret
  exact ⟨rfl, rfl⟩
theorem sizeW_nil (w : World) : Calls Try.prog 57 #[np] w fun e w' => e = .returned (.int .i64 0) ∧ w' = w := by
  go_enter Try.func57, Try.ntmps57
  go_wp2
  go_ret
  exact ⟨rfl, rfl⟩
end Go.Proofs.Ythknnmllibdggaa
