/- push and cut of the queues of keys. -/
import Derived.Test.YthknnmllibdggaaCutqW
namespace Go.Proofs.Ythknnmllibdggaa
open Go.RowKit Go.Sort
theorem umP : Try.prog.underlying 58 = some (.map 72 65) := by kernel_rfl
theorem uzP (w : World) : (zeroValue 65).run Try.prog w = .ok np w := by kernel_rfl
set_option maxRecDepth 100000 in
set_option maxHeartbeats 1000000 in
/-- The key has no queue yet. -/
theorem pushP_new (w : World) (m n : Nat) (f : Lit → Option Nat) (s o : Int) (B : Nat) (h : MAt w 72 m n f) (hs : i64 s) (ho : i64 o) (hn : n < 1000000) (hf : f (kp s o) = none) :
    Calls Try.prog 48 #[.map (some m), .agg #[.int .i64 s, .int .i64 o], pv B] w fun e w' => ∃ Q I, e = .returned (pv I) ∧ MAt w' 72 m (n + 1) (updF f (kp s o) (some Q)) ∧ QAW w' Q [⟨I, pv B⟩] ∧ Fm w w' (fun k => k = m) ∧ w.heap.size ≤ Q ∧ w.heap.size ≤ I := by
  obtain ⟨W1, hW1⟩ : ∃ W1, w.alloc (.cells #[.int .i64 s, .int .i64 o] 72) = W1 := ⟨_, rfl⟩
  have p0 : W1.cell? ⟨w.heap.size, 0, none⟩ = some (.int .i64 s) := by rw [← hW1]; simp [go_sem]
  have p1 : W1.cell? ⟨w.heap.size, 1, none⟩ = some (.int .i64 o) := by rw [← hW1]; simp [go_sem]
  have s1 : W1.heap.size = w.heap.size + 1 := by rw [← hW1]; simp
  have F1 : Fm w W1 (fun _ => False) := by rw [← hW1]; exact Fm.alloc _ _ _
  have pb : W1.heap[w.heap.size]? = some (.cells #[.int .i64 s, .int .i64 o] 72 (0, 0)) := by rw [← hW1]; exact heap_new _ _
  have hA : MAt W1 72 m n f := h.same (F1.same _ h.lt (fun h => h))
  have hl := hA.look keyedP umP (uzP _) (keyP hs ho)
  rw [hf] at hl
  have hl2 : (Instr.lookup 58 (.map (some m)) (.agg #[.int .i64 s, .int .i64 o]) false).run Try.prog W1 = .ok np W1 := hl
  obtain ⟨Qb, hQb⟩ : ∃ Qb, W1.heap.size = Qb := ⟨_, rfl⟩
  obtain ⟨W2, hW2⟩ : ∃ W2, W1.alloc (.cells #[np, np, .int .i64 0] 94) = W2 := ⟨_, rfl⟩
  have hA2 : MAt W2 72 m n f := hA.same (by rw [← hW2]; exact Below.heap_alloc _ _ _ hA.lt)
  have hQ2 : W2.heap[Qb]? = some (.cells #[np, np, .int .i64 0] 94 (0, 0)) := by rw [← hW2, ← hQb]; exact heap_new _ _
  have s2 : W2.heap.size = Qb + 1 := by rw [← hW2, ← hQb]; simp
  have F2 : Fm W1 W2 (fun _ => False) := by rw [← hW2]; exact Fm.alloc _ _ _
  obtain ⟨W3, hrun, hA3, hg3, s3⟩ := hA2.put keyedP umP hn (keyP hs ho) Qb
  rw [hf] at hA3
  have hmQ : m ≠ Qb := by have := hA.lt; omega
  have hQ3 : QAW W3 Qb [] := ⟨(hg3.block _ (by omega) (by simpa using Ne.symm hmQ)).trans hQ2, trivial, List.nodup_nil⟩
  have HP := Lib.hid (pushWE W3 Qb [] B hQ3 (by simp))
  have HA3 := Lib.hid hA3
  have HG3 := Lib.hid hg3
  have HS2 := Lib.hid s2
  have HS3 := Lib.hid s3
  have r0 : W2.cell? ⟨w.heap.size, 0, none⟩ = some (.int .i64 s) := by rw [← hW2]; simp [go_sem, s1, p0]
  have r1 : W2.cell? ⟨w.heap.size, 1, none⟩ = some (.int .i64 o) := by rw [← hW2]; simp [go_sem, s1, p1]
  have HS1 := Lib.hid s1
  clear s1
  clear h hA hA2 hA3 hg3 hQ3 hl hQ2 s2 s3 
  go_enter Try.func48, Try.ntmps48
  go_wp2_with (first | (go_at_call 59; refine HP.out.mono ?_; rintro e w4 ⟨I4, rfl, hq4, hF4, hI4⟩; refine Hid.out ?_))
  refine Lib.hid ?_
  go_wp2_with fail
  go_ret
  have s2 := HS2.out
  have s3 := HS3.out
  refine ⟨Qb, I4, rfl, HA3.out.same (hF4.same _ (by have := HA3.out.lt; exact this) (fun e => ?_)), hq4, ?_, by have := HS1.out; omega, by have := HS1.out; omega⟩
  · rcases e with e | e
    · exact hmQ e
    · simp at e
  · have F3 := Fm.of_grown HG3.out
    have F13 : Fm W1 W3 (fun k => k = m) := F2.trans F3 (fun _ _ h => h.elim) (fun _ _ h => h)
    have F14 : Fm W1 w4 (fun k => k = m) := F13.trans hF4 (fun _ _ h => h) (fun i hi h => by
      rcases h with h | h
      · omega
      · simp at h)
    exact F1.trans F14 (fun _ _ h => h.elim) (fun _ _ h => h)
set_option maxRecDepth 100000 in
set_option maxHeartbeats 1000000 in
/-- The key has a queue. -/
theorem pushP_old (w : World) (m n Q : Nat) (f : Lit → Option Nat) (l : List It) (s o : Int) (B : Nat) (h : MAt w 72 m n f) (hs : i64 s) (ho : i64 o) (hn : l.length < 1000000) (hf : f (kp s o) = some Q) (hq : QAW w Q l) :
    Calls Try.prog 48 #[.map (some m), .agg #[.int .i64 s, .int .i64 o], pv B] w fun e w' => ∃ I, e = .returned (pv I) ∧ MAt w' 72 m n f ∧ QAW w' Q (l ++ [⟨I, pv B⟩]) ∧ Fm w w' (qf Q l) ∧ w.heap.size ≤ I := by
  obtain ⟨W1, hW1⟩ : ∃ W1, w.alloc (.cells #[.int .i64 s, .int .i64 o] 72) = W1 := ⟨_, rfl⟩
  have p0 : W1.cell? ⟨w.heap.size, 0, none⟩ = some (.int .i64 s) := by rw [← hW1]; simp [go_sem]
  have p1 : W1.cell? ⟨w.heap.size, 1, none⟩ = some (.int .i64 o) := by rw [← hW1]; simp [go_sem]
  have s1 : W1.heap.size = w.heap.size + 1 := by rw [← hW1]; simp
  have F1 : Fm w W1 (fun _ => False) := by rw [← hW1]; exact Fm.alloc _ _ _
  have pb : W1.heap[w.heap.size]? = some (.cells #[.int .i64 s, .int .i64 o] 72 (0, 0)) := by rw [← hW1]; exact heap_new _ _
  have hA : MAt W1 72 m n f := h.same (F1.same _ h.lt (fun h => h))
  have hl := hA.look keyedP umP (uzP _) (keyP hs ho)
  rw [hf] at hl
  have hl2 : (Instr.lookup 58 (.map (some m)) (.agg #[.int .i64 s, .int .i64 o]) false).run Try.prog W1 = .ok (pv Q) W1 := hl
  have hq1 : QAW W1 Q l := hq.same (fun k hk => F1.same _ (hq.lt hk) (fun h => h))
  have HP := Lib.hid (pushWE W1 Q l B hq1 hn)
  have HA := Lib.hid hA
  have HQ := Lib.hid hq
  have HQ1 := Lib.hid hq1
  clear h hA hl hq hq1 
  go_enter Try.func48, Try.ntmps48
  go_wp2_with (first | (go_at_call 59; refine HP.out.mono ?_; rintro e w4 ⟨I4, rfl, hq4, hF4, hI4⟩; refine Hid.out ?_))
  refine Lib.hid ?_
  go_wp2_with fail
  go_ret
  refine ⟨I4, rfl, HA.out.same (hF4.same _ HA.out.lt (fun e => ?_)), hq4, F1.trans hF4 (fun _ _ h => h.elim) (fun _ _ h => h), by omega⟩
  rcases e with rfl | e
  · exact HA.out.notCells HQ1.out.blk rfl
  · obtain ⟨x, hx, e⟩ := List.mem_map.1 e
    obtain ⟨_, _, hh⟩ := chn_at HQ1.out.ch x hx
    exact HA.out.notCells hh e.symm
set_option maxRecDepth 100000 in
set_option maxHeartbeats 1000000 in
theorem cutP (w : World) (m n Q : Nat) (f : Lit → Option Nat) (a b : List It) (x : It) (s o : Int) (h : MAt w 72 m n f) (hs : i64 s) (ho : i64 o) (hn : (a ++ x :: b).length < 1000000) (hf : f (kp s o) = some Q) (hq : QAW w Q (a ++ x :: b)) :
    Calls Try.prog 54 #[.map (some m), .agg #[.int .i64 s, .int .i64 o], pv x.I] w fun e w' => (∃ v, e = .returned v) ∧ (a ++ b = [] → MAt w' 72 m (n - 1) (updF f (kp s o) none)) ∧ (a ++ b ≠ [] → MAt w' 72 m n f ∧ QAW w' Q (a ++ b)) ∧ Fm w w' (fun k => k = m ∨ qf Q (a ++ b) k) := by
  obtain ⟨W1, hW1⟩ : ∃ W1, w.alloc (.cells #[.int .i64 s, .int .i64 o] 72) = W1 := ⟨_, rfl⟩
  have p0 : W1.cell? ⟨w.heap.size, 0, none⟩ = some (.int .i64 s) := by rw [← hW1]; simp [go_sem]
  have p1 : W1.cell? ⟨w.heap.size, 1, none⟩ = some (.int .i64 o) := by rw [← hW1]; simp [go_sem]
  have s1 : W1.heap.size = w.heap.size + 1 := by rw [← hW1]; simp
  have F1 : Fm w W1 (fun _ => False) := by rw [← hW1]; exact Fm.alloc _ _ _
  have pb : W1.heap[w.heap.size]? = some (.cells #[.int .i64 s, .int .i64 o] 72 (0, 0)) := by rw [← hW1]; exact heap_new _ _
  have hA : MAt W1 72 m n f := h.same (F1.same _ h.lt (fun h => h))
  have hl := hA.look keyedP umP (uzP _) (keyP hs ho)
  rw [hf] at hl
  have hl2 : (Instr.lookup 58 (.map (some m)) (.agg #[.int .i64 s, .int .i64 o]) false).run Try.prog W1 = .ok (pv Q) W1 := hl
  have hq1 : QAW W1 Q (a ++ x :: b) := hq.same (fun k hk => F1.same _ (hq.lt hk) (fun h => h))
  have HC := Lib.hid (cutW W1 Q a b x hq1 hn)
  have hmq : ∀ k, qf Q (a ++ x :: b) k → m ≠ k := fun k e => by
    rcases e with rfl | e
    · exact hA.notCells hq1.blk
    · obtain ⟨y, hy, rfl⟩ := List.mem_map.1 e
      obtain ⟨_, _, hh⟩ := chn_at hq1.ch y hy
      exact hA.notCells hh
  have hmq2 : ¬ qf Q (a ++ b) m := fun e => by
    rcases e with e | e
    · exact hmq Q (.inl rfl) e
    · exact hmq m (.inr (by simp at e ⊢; rcases e with e | e; exact .inl e; exact .inr (.inr e))) rfl
  have HA := Lib.hid hA
  have HM2 := Lib.hid hmq2
  have HNQ : Hid (¬ qf Q (a ++ b) w.heap.size) := fun e => by
    have := hq.lt (k := w.heap.size) (by
      rcases e with e | e
      · exact .inl e
      · exact .inr (by simp at e ⊢; rcases e with e | e; exact .inl e; exact .inr (.inr e)))
    omega
  clear h hA hl hq hq1 hmq hmq2 
  go_enter Try.func54, Try.ntmps54
  go_wp2_with (first | (go_at_call 60; refine HC.out.mono ?_; rintro e w2 ⟨⟨v2, rfl⟩, hq2, hF2, s2⟩; refine Hid.out ?_))
  refine Lib.hid ?_
  have hA2 : MAt w2 72 m n f := HA.out.same (hF2.same _ HA.out.lt HM2.out)
  have HS := Lib.hid (sizeW w2 Q (a ++ b) hq2)
  have t0 : w2.heap[w.heap.size]? = some (.cells #[.int .i64 s, .int .i64 o] 72 (0, 0)) := (hF2.same _ (by omega) (fun e => HNQ.out e)).trans pb
  have t1 : w2.cell? ⟨w.heap.size, 0, none⟩ = some (.int .i64 s) := by simp [World.cell?, t0]
  have t2 : w2.cell? ⟨w.heap.size, 1, none⟩ = some (.int .i64 o) := by simp [World.cell?, t0]
  by_cases hab : a ++ b = []
  · obtain ⟨w3, hdel, hA3, hg3, s3⟩ := hA2.del keyedP umP (keyP hs ho) 0
    rw [hf] at hA3
    rw [hab] at HS
    have HF2 := Lib.hid hF2
    have HA3 := Lib.hid hA3
    have HG3 := Lib.hid hg3
    have HAB := Lib.hid hab
    clear hq2 hA2 hF2 hA3 hg3 hab
    go_wp2_with (first | (go_at_call 57; refine HS.out.mono ?_; rintro e w5 ⟨rfl, hw5⟩; rw [hw5]; clear hw5 w5))
    go_end0
    refine ⟨⟨_, rfl⟩, fun _ => HA3.out, fun hh => absurd HAB.out hh, ?_⟩
    have F13 : Fm W1 w3 (fun k => k = m ∨ qf Q (a ++ b) k) := HF2.out.trans (Fm.of_grown HG3.out) (fun _ _ h => .inr h) (fun _ _ h => .inl h)
    exact F1.trans F13 (fun _ _ h => h.elim) (fun _ _ h => h)
  · have hab' : ¬ ((a ++ b).length : Int) = 0 := by
      intro e; exact hab (List.length_eq_zero_iff.1 (by omega))
    have hbn : ((((a ++ b).length : Nat) : Int) == 0) = false := by simpa using hab'
    obtain ⟨N, hN⟩ : ∃ N : Int, ((a ++ b).length : Int) = N := ⟨_, rfl⟩
    rw [hN] at HS hab' hbn
    have HF2 := Lib.hid hF2
    have HA2 := Lib.hid hA2
    have HQ2 := Lib.hid hq2
    have HAB := Lib.hid hab
    clear hq2 hA2 hF2 hab hN
    go_wp2_with (first | (go_at_call 57; refine HS.out.mono ?_; rintro e w5 ⟨rfl, hw5⟩; rw [hw5]; clear hw5 w5))
    go_end0
    refine ⟨⟨_, rfl⟩, fun hh => absurd hh HAB.out, fun _ => ⟨HA2.out, HQ2.out⟩, ?_⟩
    have F13 : Fm W1 w2 (fun k => k = m ∨ qf Q (a ++ b) k) := HF2.out.mono (fun _ _ h => .inr h)
    exact F1.trans F13 (fun _ _ h => h.elim) (fun _ _ h => h)
/-- Whether the key has a queue or not. -/
theorem pushP_any (w : World) (m n : Nat) (f : Lit → Option Nat) (l : List It) (s o : Int) (B : Nat) (h : MAt w 72 m n f) (hs : i64 s) (ho : i64 o) (hn : n < 1000000) (hl : l.length < 1000000) (hf : (f (kp s o) = none ∧ l = []) ∨ ∃ Q, f (kp s o) = some Q ∧ l ≠ [] ∧ QAW w Q l) :
    Calls Try.prog 48 #[.map (some m), .agg #[.int .i64 s, .int .i64 o], pv B] w fun e w' => ∃ Q I n', e = .returned (pv I) ∧ MAt w' 72 m n' (updF f (kp s o) (some Q)) ∧ n' ≤ n + 1 ∧ QAW w' Q (l ++ [⟨I, pv B⟩]) ∧ Fm w w' (fun k => k = m ∨ (l ≠ [] ∧ qf Q l k)) ∧ ((l = [] ∧ w.heap.size ≤ Q) ∨ (l ≠ [] ∧ f (kp s o) = some Q ∧ QAW w Q l)) ∧ w.heap.size ≤ I := by
  rcases hf with ⟨h0, rfl⟩ | ⟨Q, h1, hne, hq⟩
  · refine (pushP_new w m n f s o B h hs ho hn h0).mono ?_
    rintro e w' ⟨Q, I, rfl, hm, hq, hF, hQ, hI⟩
    exact ⟨Q, I, n + 1, rfl, hm, Nat.le_refl _, hq, hF.mono (fun _ _ h => .inl h), .inl ⟨rfl, hQ⟩, hI⟩
  · refine (pushP_old w m n Q f l s o B h hs ho hl h1 hq).mono ?_
    rintro e w' ⟨I, rfl, hm, hq', hF, hI⟩
    refine ⟨Q, I, n, rfl, hm.congr (fun k _ => ?_), by omega, hq', hF.mono (fun _ _ h => .inr ⟨hne, h⟩), .inr ⟨hne, h1, hq⟩, hI⟩
    unfold updF
    split
    · rename_i e; rw [e, h1]
    · rfl
theorem cutP_any (w : World) (m n Q : Nat) (f : Lit → Option Nat) (a b : List It) (x : It) (s o : Int) (h : MAt w 72 m n f) (hs : i64 s) (ho : i64 o) (hn : (a ++ x :: b).length < 1000000) (hf : f (kp s o) = some Q) (hq : QAW w Q (a ++ x :: b)) :
    Calls Try.prog 54 #[.map (some m), .agg #[.int .i64 s, .int .i64 o], pv x.I] w fun e w' => (∃ v, e = .returned v) ∧ (∃ n' f', MAt w' 72 m n' f' ∧ n' ≤ n ∧ (a ++ b = [] → f' (kp s o) = none) ∧ (a ++ b ≠ [] → f' (kp s o) = some Q) ∧ ∀ k', k' ≠ kp s o → f' k' = f k') ∧ (a ++ b ≠ [] → QAW w' Q (a ++ b)) ∧ Fm w w' (fun k => k = m ∨ qf Q (a ++ b) k) := by
  refine (cutP w m n Q f a b x s o h hs ho hn hf hq).mono ?_
  rintro e w' ⟨he, h1, h2, hF⟩
  by_cases hab : a ++ b = []
  · refine ⟨he, ⟨_, _, h1 hab, by omega, fun _ => ?_, fun hh => absurd hab hh, fun k' hk => ?_⟩, fun hh => absurd hab hh, hF⟩
    · unfold updF; rw [if_pos rfl]
    · unfold updF; rw [if_neg hk]
  · exact ⟨he, ⟨_, _, (h2 hab).1, Nat.le_refl _, fun hh => absurd hh hab, fun _ => hf, fun _ _ => rfl⟩, fun _ => (h2 hab).2, hF⟩
end Go.Proofs.Ythknnmllibdggaa
