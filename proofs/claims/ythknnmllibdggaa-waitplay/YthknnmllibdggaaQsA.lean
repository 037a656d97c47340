/- push and cut of the queues of keys. -/
import Derived.Test.YthknnmllibdggaaCutqI
namespace Go.Proofs.Ythknnmllibdggaa
open Go.RowKit Go.Sort
theorem umA : Try.prog.underlying 62 = some (.map 3 76) := by kernel_rfl
theorem uzA (w : World) : (zeroValue 76).run Try.prog w = .ok np w := by kernel_rfl
set_option maxRecDepth 100000 in
set_option maxHeartbeats 1000000 in
/-- The key has no queue yet. -/
theorem pushA_new (w : World) (m n : Nat) (f : Lit → Option Nat) (s : Int) (c : Int) (h : MAt w 3 m n f) (hs : i64 s) (hn : n < 1000000) (hf : f (ky s) = none) :
    Calls Try.prog 29 #[.map (some m), .int .i64 s, .int .i64 c] w fun e w' => ∃ Q I, e = .returned (pv I) ∧ MAt w' 3 m (n + 1) (updF f (ky s) (some Q)) ∧ QAI w' Q [⟨I, .int .i64 c⟩] ∧ Fm w w' (fun k => k = m) ∧ w.heap.size ≤ Q ∧ w.heap.size ≤ I := by
  have hA : MAt w 3 m n f := h
  have hl := hA.look keyedI umA (uzA _) (keyI hs)
  rw [hf] at hl
  have hl2 : (Instr.lookup 62 (.map (some m)) (.int .i64 s) false).run Try.prog w = .ok np w := hl
  obtain ⟨Qb, hQb⟩ : ∃ Qb, w.heap.size = Qb := ⟨_, rfl⟩
  obtain ⟨W2, hW2⟩ : ∃ W2, w.alloc (.cells #[np, np, .int .i64 0] 87) = W2 := ⟨_, rfl⟩
  have hA2 : MAt W2 3 m n f := hA.same (by rw [← hW2]; exact Below.heap_alloc _ _ _ hA.lt)
  have hQ2 : W2.heap[Qb]? = some (.cells #[np, np, .int .i64 0] 87 (0, 0)) := by rw [← hW2, ← hQb]; exact heap_new _ _
  have s2 : W2.heap.size = Qb + 1 := by rw [← hW2, ← hQb]; simp
  have F2 : Fm w W2 (fun _ => False) := by rw [← hW2]; exact Fm.alloc _ _ _
  obtain ⟨W3, hrun, hA3, hg3, s3⟩ := hA2.put keyedI umA hn (keyI hs) Qb
  rw [hf] at hA3
  have hmQ : m ≠ Qb := by have := hA.lt; omega
  have hQ3 : QAI W3 Qb [] := ⟨(hg3.block _ (by omega) (by simpa using Ne.symm hmQ)).trans hQ2, trivial, List.nodup_nil⟩
  have HP := Lib.hid (pushIE W3 Qb [] c hQ3 (by simp))
  have HA3 := Lib.hid hA3
  have HG3 := Lib.hid hg3
  have HS2 := Lib.hid s2
  have HS3 := Lib.hid s3
  clear h hA hA2 hA3 hg3 hQ3 hl hQ2 s2 s3 
  go_enter Try.func29, Try.ntmps29
  go_wp2_with (first | (go_at_call 51; refine HP.out.mono ?_; rintro e w4 ⟨I4, rfl, hq4, hF4, hI4⟩; refine Hid.out ?_))
  refine Lib.hid ?_
  go_wp2_with fail
  go_ret
  have s2 := HS2.out
  have s3 := HS3.out
  refine ⟨Qb, I4, rfl, HA3.out.same (hF4.same _ (by have := HA3.out.lt; exact this) (fun e => ?_)), hq4, ?_, by omega, by omega⟩
  · rcases e with e | e
    · exact hmQ e
    · simp at e
  · have F3 := Fm.of_grown HG3.out
    have F13 : Fm w W3 (fun k => k = m) := F2.trans F3 (fun _ _ h => h.elim) (fun _ _ h => h)
    have F14 : Fm w w4 (fun k => k = m) := F13.trans hF4 (fun _ _ h => h) (fun i hi h => by
      rcases h with h | h
      · omega
      · simp at h)
    exact F14
set_option maxRecDepth 100000 in
set_option maxHeartbeats 1000000 in
/-- The key has a queue. -/
theorem pushA_old (w : World) (m n Q : Nat) (f : Lit → Option Nat) (l : List It) (s : Int) (c : Int) (h : MAt w 3 m n f) (hs : i64 s) (hn : l.length < 1000000) (hf : f (ky s) = some Q) (hq : QAI w Q l) :
    Calls Try.prog 29 #[.map (some m), .int .i64 s, .int .i64 c] w fun e w' => ∃ I, e = .returned (pv I) ∧ MAt w' 3 m n f ∧ QAI w' Q (l ++ [⟨I, .int .i64 c⟩]) ∧ Fm w w' (qf Q l) ∧ w.heap.size ≤ I := by
  have hA : MAt w 3 m n f := h
  have hl := hA.look keyedI umA (uzA _) (keyI hs)
  rw [hf] at hl
  have hl2 : (Instr.lookup 62 (.map (some m)) (.int .i64 s) false).run Try.prog w = .ok (pv Q) w := hl
  have hq1 : QAI w Q l := hq
  have HP := Lib.hid (pushIE w Q l c hq1 hn)
  have HA := Lib.hid hA
  have HQ := Lib.hid hq
  have HQ1 := Lib.hid hq1
  clear h hA hl hq hq1 
  go_enter Try.func29, Try.ntmps29
  go_wp2_with (first | (go_at_call 51; refine HP.out.mono ?_; rintro e w4 ⟨I4, rfl, hq4, hF4, hI4⟩; refine Hid.out ?_))
  refine Lib.hid ?_
  go_wp2_with fail
  go_ret
  refine ⟨I4, rfl, HA.out.same (hF4.same _ HA.out.lt (fun e => ?_)), hq4, hF4, hI4⟩
  rcases e with rfl | e
  · exact HA.out.notCells HQ1.out.blk rfl
  · obtain ⟨x, hx, e⟩ := List.mem_map.1 e
    obtain ⟨_, _, hh⟩ := chn_at HQ1.out.ch x hx
    exact HA.out.notCells hh e.symm
set_option maxRecDepth 100000 in
set_option maxHeartbeats 1000000 in
theorem cutA (w : World) (m n Q : Nat) (f : Lit → Option Nat) (a b : List It) (x : It) (s : Int) (h : MAt w 3 m n f) (hs : i64 s) (hn : (a ++ x :: b).length < 1000000) (hf : f (ky s) = some Q) (hq : QAI w Q (a ++ x :: b)) :
    Calls Try.prog 44 #[.map (some m), .int .i64 s, pv x.I] w fun e w' => (∃ v, e = .returned v) ∧ (a ++ b = [] → MAt w' 3 m (n - 1) (updF f (ky s) none)) ∧ (a ++ b ≠ [] → MAt w' 3 m n f ∧ QAI w' Q (a ++ b)) ∧ Fm w w' (fun k => k = m ∨ qf Q (a ++ b) k) := by
  have hA : MAt w 3 m n f := h
  have hl := hA.look keyedI umA (uzA _) (keyI hs)
  rw [hf] at hl
  have hl2 : (Instr.lookup 62 (.map (some m)) (.int .i64 s) false).run Try.prog w = .ok (pv Q) w := hl
  have hq1 : QAI w Q (a ++ x :: b) := hq
  have HC := Lib.hid (cutI w Q a b x hq1 hn)
  have hmq : ∀ k, qf Q (a ++ x :: b) k → m ≠ k := fun k e => by
    rcases e with rfl | e
    · exact hA.notCells hq1.blk
    · obtain ⟨y, hy, rfl⟩ := List.mem_map.1 e
      obtain ⟨_, _, hh⟩ := chn_at hq1.ch y hy
      exact hA.notCells hh
  have hmq2 : ¬ qf Q (a ++ b) m := fun e => by
    rcases e with e | e
    · exact hmq Q (.inl rfl) e
    · exact hmq m (.inr (by simp at e ⊢; rcases e with e | e; exact .inl e; exact .inr (.inr e))) rfl
  have HA := Lib.hid hA
  have HM2 := Lib.hid hmq2
  clear h hA hl hq hq1 hmq hmq2 
  go_enter Try.func44, Try.ntmps44
  go_wp2_with (first | (go_at_call 56; refine HC.out.mono ?_; rintro e w2 ⟨⟨v2, rfl⟩, hq2, hF2, s2⟩; refine Hid.out ?_))
  refine Lib.hid ?_
  have hA2 : MAt w2 3 m n f := HA.out.same (hF2.same _ HA.out.lt HM2.out)
  have HS := Lib.hid (sizeI w2 Q (a ++ b) hq2)
  by_cases hab : a ++ b = []
  · obtain ⟨w3, hdel, hA3, hg3, s3⟩ := hA2.del keyedI umA (keyI hs) 0
    rw [hf] at hA3
    rw [hab] at HS
    have HF2 := Lib.hid hF2
    have HA3 := Lib.hid hA3
    have HG3 := Lib.hid hg3
    have HAB := Lib.hid hab
    clear hq2 hA2 hF2 hA3 hg3 hab
    go_wp2_with (first | (go_at_call 41; refine HS.out.mono ?_; rintro e w5 ⟨rfl, hw5⟩; rw [hw5]; clear hw5 w5))
    go_end0
    refine ⟨⟨_, rfl⟩, fun _ => HA3.out, fun hh => absurd HAB.out hh, ?_⟩
    have F13 : Fm w w3 (fun k => k = m ∨ qf Q (a ++ b) k) := HF2.out.trans (Fm.of_grown HG3.out) (fun _ _ h => .inr h) (fun _ _ h => .inl h)
    exact F13
  · have hab' : ¬ ((a ++ b).length : Int) = 0 := by
      intro e; exact hab (List.length_eq_zero_iff.1 (by omega))
    have hbn : ((((a ++ b).length : Nat) : Int) == 0) = false := by simpa using hab'
    obtain ⟨N, hN⟩ : ∃ N : Int, ((a ++ b).length : Int) = N := ⟨_, rfl⟩
    rw [hN] at HS hab' hbn
    have HF2 := Lib.hid hF2
    have HA2 := Lib.hid hA2
    have HQ2 := Lib.hid hq2
    have HAB := Lib.hid hab
    clear hq2 hA2 hF2 hab hN
    go_wp2_with (first | (go_at_call 41; refine HS.out.mono ?_; rintro e w5 ⟨rfl, hw5⟩; rw [hw5]; clear hw5 w5))
    go_end0
    refine ⟨⟨_, rfl⟩, fun hh => absurd hh HAB.out, fun _ => ⟨HA2.out, HQ2.out⟩, ?_⟩
    have F13 : Fm w w2 (fun k => k = m ∨ qf Q (a ++ b) k) := HF2.out.mono (fun _ _ h => .inr h)
    exact F13
/-- Whether the key has a queue or not. -/
theorem pushA_any (w : World) (m n : Nat) (f : Lit → Option Nat) (l : List It) (s : Int) (c : Int) (h : MAt w 3 m n f) (hs : i64 s) (hn : n < 1000000) (hl : l.length < 1000000) (hf : (f (ky s) = none ∧ l = []) ∨ ∃ Q, f (ky s) = some Q ∧ l ≠ [] ∧ QAI w Q l) :
    Calls Try.prog 29 #[.map (some m), .int .i64 s, .int .i64 c] w fun e w' => ∃ Q I n', e = .returned (pv I) ∧ MAt w' 3 m n' (updF f (ky s) (some Q)) ∧ n' ≤ n + 1 ∧ QAI w' Q (l ++ [⟨I, .int .i64 c⟩]) ∧ Fm w w' (fun k => k = m ∨ (l ≠ [] ∧ qf Q l k)) ∧ ((l = [] ∧ w.heap.size ≤ Q) ∨ (l ≠ [] ∧ f (ky s) = some Q ∧ QAI w Q l)) ∧ w.heap.size ≤ I := by
  rcases hf with ⟨h0, rfl⟩ | ⟨Q, h1, hne, hq⟩
  · refine (pushA_new w m n f s c h hs hn h0).mono ?_
    rintro e w' ⟨Q, I, rfl, hm, hq, hF, hQ, hI⟩
    exact ⟨Q, I, n + 1, rfl, hm, Nat.le_refl _, hq, hF.mono (fun _ _ h => .inl h), .inl ⟨rfl, hQ⟩, hI⟩
  · refine (pushA_old w m n Q f l s c h hs hl h1 hq).mono ?_
    rintro e w' ⟨I, rfl, hm, hq', hF, hI⟩
    refine ⟨Q, I, n, rfl, hm.congr (fun k _ => ?_), by omega, hq', hF.mono (fun _ _ h => .inr ⟨hne, h⟩), .inr ⟨hne, h1, hq⟩, hI⟩
    unfold updF
    split
    · rename_i e; rw [e, h1]
    · rfl
theorem cutA_any (w : World) (m n Q : Nat) (f : Lit → Option Nat) (a b : List It) (x : It) (s : Int) (h : MAt w 3 m n f) (hs : i64 s) (hn : (a ++ x :: b).length < 1000000) (hf : f (ky s) = some Q) (hq : QAI w Q (a ++ x :: b)) :
    Calls Try.prog 44 #[.map (some m), .int .i64 s, pv x.I] w fun e w' => (∃ v, e = .returned v) ∧ (∃ n' f', MAt w' 3 m n' f' ∧ n' ≤ n ∧ (a ++ b = [] → f' (ky s) = none) ∧ (a ++ b ≠ [] → f' (ky s) = some Q) ∧ ∀ k', k' ≠ ky s → f' k' = f k') ∧ (a ++ b ≠ [] → QAI w' Q (a ++ b)) ∧ Fm w w' (fun k => k = m ∨ qf Q (a ++ b) k) := by
  refine (cutA w m n Q f a b x s h hs hn hf hq).mono ?_
  rintro e w' ⟨he, h1, h2, hF⟩
  by_cases hab : a ++ b = []
  · refine ⟨he, ⟨_, _, h1 hab, by omega, fun _ => ?_, fun hh => absurd hab hh, fun k' hk => ?_⟩, fun hh => absurd hab hh, hF⟩
    · unfold updF; rw [if_pos rfl]
    · unfold updF; rw [if_neg hk]
  · exact ⟨he, ⟨_, _, (h2 hab).1, Nat.le_refl _, fun hh => absurd hh hab, fun _ => hf, fun _ _ => rfl⟩, fun _ => (h2 hab).2, hF⟩
end Go.Proofs.Ythknnmllibdggaa
