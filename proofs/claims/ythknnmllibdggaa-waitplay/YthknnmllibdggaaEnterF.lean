/- What enter leaves, put together out of its steps. -/
import Derived.Test.YthknnmllibdggaaRooms
namespace Go.Proofs.Ythknnmllibdggaa
open Go.RowKit Go.Sort
open Classical in
noncomputable def ownE (own : Nat → Option Tag) (B I J Q Q2 : Nat) (t s o : Int) (k : Nat) : Option Tag :=
  if k = B then some (.wt t) else if k = I then some (.ip t) else if k = J then some (.is t) else if k = Q then some (.pq s o) else if k = Q2 then some (.sq s) else own k
theorem Fm.transT {a b c : World} {own : Nat → Option Tag} {S S' : Tag → Prop} (h : Fm a b (TF own S)) (k : Fm b c (TF own S')) : Fm a c (TF own (fun g => S g ∨ S' g)) :=
  h.trans k (fun _ _ ⟨g, h1, h2⟩ => ⟨g, h1, .inl h2⟩) (fun _ _ ⟨g, h1, h2⟩ => ⟨g, h1, .inr h2⟩)
theorem app_ne {α : Type} {a : List α} {x : α} : a ++ [x] ≠ [] := by simp
theorem th_inj {w : World} {R : Rm} (h : RmAt w R) {x y : Wt} (hx : x ∈ R.all) (hy : y ∈ R.all) (e : x.th = y.th) : x = y := by
  have h1 := h.find hx
  have h2 := h.find hy
  rw [e, h2] at h1
  exact (Option.some.inj h1).symm
set_option maxRecDepth 10000 in
theorem enter_finM {w W2 W3 W4 W4' W5 W6 W7 : World} {R : Rm} {B I J Q Q2 n3 n5 n7 : Nat} {t s o : Int} (h0 : RmAt w R) (hb : Below w.heap.size w W2) (ht : i64 t) (hs : i64 s) (ho : i64 o) (hno : ∀ x ∈ R.all, x.th ≠ t) (hwB : w.heap.size ≤ B)
    (hB2 : W2.heap[B]? = some (.cells #[.int .i64 s, .int .i64 o, .int .i64 t, np, np] 75 (0, 0)))
    (hm3 : MAt W3 72 R.m1 n3 (updF R.fp (kp s o) (some Q))) (hn3 : n3 ≤ R.N + 1) (hq3 : QAW W3 Q (itP (atP s o R.all) ++ [⟨I, pv B⟩])) (hF3 : Fm W2 W3 (fun k => k = R.m1 ∨ (itP (atP s o R.all) ≠ [] ∧ qf Q (itP (atP s o R.all)) k)))
    (hQ3 : (itP (atP s o R.all) = [] ∧ W2.heap.size ≤ Q) ∨ (itP (atP s o R.all) ≠ [] ∧ R.fp (kp s o) = some Q ∧ QAW W2 Q (itP (atP s o R.all)))) (hI : W2.heap.size ≤ I) (hB3 : W3.heap[B]? = some (.cells #[.int .i64 s, .int .i64 o, .int .i64 t, np, np] 75 (0, 0)))
    (hW4 : W4 = W3.setCell ⟨B, 3, none⟩ (pv I)) (hW4' : W4'.heap = W4.heap ∧ W4'.os = W4.os ∧ W4'.tape = W4.tape ∧ W4'.output = W4.output)
    (hm5 : MAt W5 3 R.m2 n5 (updF R.fs (ky s) (some Q2))) (hn5 : n5 ≤ R.N + 1) (hq5 : QAW W5 Q2 (itS (inS s R.all) ++ [⟨J, pv B⟩])) (hF5 : Fm W4' W5 (fun k => k = R.m2 ∨ (itS (inS s R.all) ≠ [] ∧ qf Q2 (itS (inS s R.all)) k)))
    (hQ5 : (itS (inS s R.all) = [] ∧ W4'.heap.size ≤ Q2) ∨ (itS (inS s R.all) ≠ [] ∧ R.fs (ky s) = some Q2 ∧ QAW W4' Q2 (itS (inS s R.all)))) (hJ : W4'.heap.size ≤ J) (hB5 : W5.heap[B]? = some (.cells #[.int .i64 s, .int .i64 o, .int .i64 t, pv I, np] 75 (0, 0)))
    (hW6 : W6 = W5.setCell ⟨B, 4, none⟩ (pv J)) (hm7 : MAt W7 3 R.m0 n7 (updF R.fw (ky t) (some B))) (hn7 : n7 = R.all.length + 1) (hF7 : Fm W6 W7 (fun k => k = R.m0)) :
    ∃ R', (R'.m0 = R.m0 ∧ R'.m1 = R.m1 ∧ R'.m2 = R.m2 ∧ R'.m3 = R.m3) ∧ RmAt W7 R' ∧ R'.rb = R.rb ∧ R'.all = R.all ++ [⟨B, t, s, o, I, J⟩] ∧ R'.al = R.al ∧ R'.N = R.N + 1 ∧ Fm w W7 (fun k => R.own k ≠ none) ∧ ∀ k, R'.own k ≠ none → R.own k ≠ none ∨ w.heap.size ≤ k := by
  have h2 := h0.below hb
  have hlt0 : ∀ k g, R.own k = some g → k < w.heap.size := fun k g e => h0.lt k (by rw [e]; simp)
  have z2 := hb.size
  have z3 := hF3.size
  have z4 : W4.heap.size = W3.heap.size := by rw [hW4]; simp
  have z4' : W4'.heap.size = W4.heap.size := by rw [hW4'.1]
  have z5 := hF5.size
  have z6 : W6.heap.size = W5.heap.size := by rw [hW6]; simp
  have z7 := hF7.size
  have hBl := heap_lt hB2
  have hIl : I < W3.heap.size := hq3.lt (.inr (by simp))
  have hQl : Q < W3.heap.size := hq3.lt (.inl rfl)
  have hJl : J < W5.heap.size := hq5.lt (.inr (by simp))
  have hQ2l : Q2 < W5.heap.size := hq5.lt (.inl rfl)
  have hIt := (show QAW W3 Q (itP (atP s o R.all) ++ ⟨I, pv B⟩ :: []) from hq3).item
  have hJt := (show QAW W5 Q2 (itS (inS s R.all) ++ ⟨J, pv B⟩ :: []) from hq5).item
  have hQI : Q ≠ I := fun e => by have := hq3.blk; rw [e, hIt] at this; simp at this
  have hQ2J : Q2 ≠ J := fun e => by have := hq5.blk; rw [e, hJt] at this; simp at this
  have itPn : itP (atP s o R.all) = [] ↔ atP s o R.all = [] := by unfold itP; simp
  have itSn : itS (inS s R.all) = [] ↔ inS s R.all = [] := by unfold itS; simp
  -- where the queues lie
  have hQc : (atP s o R.all = [] ∧ W2.heap.size ≤ Q) ∨ (atP s o R.all ≠ [] ∧ Q = R.pq s o ∧ R.own Q = some (.pq s o)) := by
    rcases hQ3 with ⟨h1, h2'⟩ | ⟨h1, h2', _⟩
    · exact .inl ⟨itPn.1 h1, h2'⟩
    · have hne : atP s o R.all ≠ [] := fun e => h1 (itPn.2 e)
      rw [h0.fp s o hs ho, if_neg hne] at h2'
      have e := Option.some.inj h2'
      exact .inr ⟨hne, e.symm, by rw [← e]; exact h0.op s o hne⟩
  have hQ2c : (inS s R.all = [] ∧ W4'.heap.size ≤ Q2) ∨ (inS s R.all ≠ [] ∧ Q2 = R.sq s ∧ R.own Q2 = some (.sq s)) := by
    rcases hQ5 with ⟨h1, h2'⟩ | ⟨h1, h2', _⟩
    · exact .inl ⟨itSn.1 h1, h2'⟩
    · have hne : inS s R.all ≠ [] := fun e => h1 (itSn.2 e)
      rw [h0.fs s, if_neg hne] at h2'
      have e := Option.some.inj h2'
      exact .inr ⟨hne, e.symm, by rw [← e]; exact h0.os s hne⟩
  have hQB : Q ≠ B := by
    rcases hQc with ⟨_, h1⟩ | ⟨_, _, h1⟩
    · omega
    · have := hlt0 _ _ h1; omega
  have hQ2B : Q2 ≠ B := by
    rcases hQ2c with ⟨_, h1⟩ | ⟨_, _, h1⟩
    · omega
    · have := hlt0 _ _ h1; omega
  have hQ2I : Q2 ≠ I := by
    rcases hQ2c with ⟨_, h1⟩ | ⟨_, _, h1⟩
    · omega
    · have := hlt0 _ _ h1; omega
  have hQ2Q : Q2 ≠ Q := by
    rcases hQ2c with ⟨_, h1⟩ | ⟨_, _, h1⟩
    · omega
    · rcases hQc with ⟨_, h3⟩ | ⟨_, _, h3⟩
      · have := hlt0 _ _ h1; omega
      · intro e; rw [e, h3] at h1; cases h1
  obtain ⟨own', hown'⟩ : ∃ own', ownE R.own B I J Q Q2 t s o = own' := ⟨_, rfl⟩
  have oB : own' B = some (.wt t) := by rw [← hown']; unfold ownE; rw [if_pos rfl]
  have oI : own' I = some (.ip t) := by rw [← hown']; unfold ownE; rw [if_neg (by omega), if_pos rfl]
  have oJ : own' J = some (.is t) := by rw [← hown']; unfold ownE; rw [if_neg (by omega), if_neg (by omega), if_pos rfl]
  have oQ : own' Q = some (.pq s o) := by rw [← hown']; unfold ownE; rw [if_neg hQB, if_neg hQI, if_neg (by omega), if_pos rfl]
  have oQ2 : own' Q2 = some (.sq s) := by rw [← hown']; unfold ownE; rw [if_neg hQ2B, if_neg hQ2I, if_neg hQ2J, if_neg hQ2Q, if_pos rfl]
  have x1 : ∀ k g, R.own k = some g → own' k = some g := by
    intro k g e
    have hk := hlt0 k g e
    by_cases e1 : k = Q
    · rcases hQc with ⟨_, h3⟩ | ⟨_, _, h3⟩
      · omega
      · rw [e1] at e ⊢; rw [oQ]; rw [h3] at e; exact e
    by_cases e2 : k = Q2
    · rcases hQ2c with ⟨_, h3⟩ | ⟨_, _, h3⟩
      · omega
      · rw [e2] at e ⊢; rw [oQ2]; rw [h3] at e; exact e
    rw [← hown']; unfold ownE
    rw [if_neg (by omega), if_neg (by omega), if_neg (by omega), if_neg e1, if_neg e2]; exact e
  have x2 : ∀ k, own' k ≠ none → R.own k ≠ none ∨ w.heap.size ≤ k := by
    intro k
    rw [← hown']; unfold ownE
    split
    · intro _; exact .inr (by omega)
    split
    · intro _; exact .inr (by omega)
    split
    · intro _; exact .inr (by omega)
    split
    · rename_i e; intro _
      rcases hQc with ⟨_, h3⟩ | ⟨_, _, h3⟩
      · exact .inr (by omega)
      · exact .inl (by rw [e, h3]; simp)
    split
    · rename_i e; intro _
      rcases hQ2c with ⟨_, h3⟩ | ⟨_, _, h3⟩
      · exact .inr (by omega)
      · exact .inl (by rw [e, h3]; simp)
    · exact .inl
  have xl : ∀ k, own' k ≠ none → k < W7.heap.size := by
    intro k
    rw [← hown']; unfold ownE
    split
    · intro _; omega
    split
    · intro _; omega
    split
    · intro _; omega
    split
    · intro _; omega
    split
    · intro _; omega
    · intro hk; have := h0.lt k hk; omega
  -- the steps, by tags
  have G3 : Fm W2 W3 (TF own' (fun g => g = .m 1 ∨ g = .pq s o ∨ ∃ x ∈ atP s o R.all, g = .ip x.th)) := hF3.mono (fun k _ hk => by
    rcases hk with rfl | ⟨h1, hk⟩
    · exact ⟨_, x1 _ _ h0.om1, .inl rfl⟩
    · rcases qfP.1 hk with rfl | ⟨x, hx, rfl⟩
      · exact ⟨_, oQ, .inr (.inl rfl)⟩
      · exact ⟨_, x1 _ _ (h0.ow x (mem_atP.1 hx).1).2.1, .inr (.inr ⟨x, hx, rfl⟩)⟩)
  have G4 : Fm W3 W4' (TF own' (fun g => g = .wt t)) := by
    have : Fm W3 W4 (TF own' (fun g => g = .wt t)) := by rw [hW4]; exact (Fm.setCell _ _ _).mono (fun k _ hk => ⟨_, by rw [hk]; exact oB, rfl⟩)
    exact ⟨hW4'.2.1.trans this.os, hW4'.2.2.1.trans this.tape, hW4'.2.2.2.trans this.output, by rw [hW4'.1]; exact this.size, by rw [hW4'.1]; exact this.same⟩
  have G5 : Fm W4' W5 (TF own' (fun g => g = .m 2 ∨ g = .sq s ∨ ∃ x ∈ inS s R.all, g = .is x.th)) := hF5.mono (fun k _ hk => by
    rcases hk with rfl | ⟨h1, hk⟩
    · exact ⟨_, x1 _ _ h0.om2, .inl rfl⟩
    · rcases qfS.1 hk with rfl | ⟨x, hx, rfl⟩
      · exact ⟨_, oQ2, .inr (.inl rfl)⟩
      · exact ⟨_, x1 _ _ (h0.ow x (mem_inS.1 hx).1).2.2, .inr (.inr ⟨x, hx, rfl⟩)⟩)
  have G6 : Fm W5 W6 (TF own' (fun g => g = .wt t)) := by rw [hW6]; exact (Fm.setCell _ _ _).mono (fun k _ hk => ⟨_, by rw [hk]; exact oB, rfl⟩)
  have G7 : Fm W6 W7 (TF own' (fun g => g = .m 0)) := hF7.mono (fun k _ hk => ⟨_, by rw [hk]; exact x1 _ _ h0.om0, rfl⟩)
  have G57 := G6.transT G7
  have G37 := G4.transT (G5.transT G57)
  have G27 := G3.transT G37
  have hall7 : ∀ x ∈ R.all, W7.heap[x.B]? = some (.cells (wtC x) 75 (0, 0)) := fun x hx => h2.kW G27 x1 hx (by have := hno x hx; simp [this])
  have B6 : W6.heap[B]? = some (.cells #[.int .i64 s, .int .i64 o, .int .i64 t, pv I, pv J] 75 (0, 0)) := by rw [hW6, heap_setCell_same _ _ _ _ _ _ hB5]; rfl
  have B7 : W7.heap[B]? = some (.cells #[.int .i64 s, .int .i64 o, .int .i64 t, pv I, pv J] 75 (0, 0)) := (keepT G7 oB (by omega) (by simp)).trans B6
  have nomem : ∀ x, x ∈ R.all → ∀ s' o', x ∈ atP s' o' R.all → ¬ (s' = s ∧ o' = o) → ∀ y ∈ atP s o R.all, y.th ≠ x.th := fun x hx s' o' hx' hne y hy e => by
    have := th_inj h0 (mem_atP.1 hy).1 hx e
    rw [this] at hy
    exact hne ⟨(mem_atP.1 hx').2.1.symm.trans (mem_atP.1 hy).2.1, (mem_atP.1 hx').2.2.symm.trans (mem_atP.1 hy).2.2⟩
  have nomemS : ∀ x, x ∈ R.all → ∀ s', x ∈ inS s' R.all → ¬ s' = s → ∀ y ∈ inS s R.all, y.th ≠ x.th := fun x hx s' hx' hne y hy e => by
    have := th_inj h0 (mem_inS.1 hy).1 hx e
    rw [this] at hy
    exact hne ((mem_inS.1 hx').2.symm.trans (mem_inS.1 hy).2)
  have q7P : QAW W7 Q (itP (atP s o R.all ++ [⟨B, t, s, o, I, J⟩])) := by
    have hq : QAW W3 Q (itP (atP s o R.all ++ [⟨B, t, s, o, I, J⟩])) := by rw [itP_app]; exact hq3
    refine hq.same (fun k hk => ?_)
    have hl := hq.lt hk
    rcases qfP.1 hk with rfl | ⟨x, hx, rfl⟩
    · exact keepT G37 oQ hl (by simp)
    · rcases List.mem_append.1 hx with hx | hx
      · exact keepT G37 (x1 _ _ (h0.ow x (mem_atP.1 hx).1).2.1) hl (by simp)
      · obtain rfl : x = _ := by simpa using hx
        exact keepT G37 oI hl (by simp)
  have q7S : QAW W7 Q2 (itS (inS s R.all ++ [⟨B, t, s, o, I, J⟩])) := by
    have hq : QAW W5 Q2 (itS (inS s R.all ++ [⟨B, t, s, o, I, J⟩])) := by rw [itS_app]; exact hq5
    refine hq.same (fun k hk => ?_)
    have hl := hq.lt hk
    rcases qfS.1 hk with rfl | ⟨x, hx, rfl⟩
    · exact keepT G57 oQ2 hl (by simp)
    · rcases List.mem_append.1 hx with hx | hx
      · exact keepT G57 (x1 _ _ (h0.ow x (mem_inS.1 hx).1).2.2) hl (by simp)
      · obtain rfl : x = _ := by simpa using hx
        exact keepT G57 oJ hl (by simp)
  have aP : ∀ s' o', atP s' o' (R.all ++ [(⟨B, t, s, o, I, J⟩ : Wt)]) = atP s' o' R.all ++ if s = s' ∧ o = o' then [⟨B, t, s, o, I, J⟩] else [] := fun s' o' => by rw [atP_app, atP_one]
  have aS : ∀ s', inS s' (R.all ++ [(⟨B, t, s, o, I, J⟩ : Wt)]) = inS s' R.all ++ if s = s' then [⟨B, t, s, o, I, J⟩] else [] := fun s' => by rw [inS_app, inS_one]
  refine ⟨{ R with fw := updF R.fw (ky t) (some B), fp := updF R.fp (kp s o) (some Q), fs := updF R.fs (ky s) (some Q2), all := R.all ++ [⟨B, t, s, o, I, J⟩], pq := fun s' o' => if s = s' ∧ o = o' then Q else R.pq s' o', sq := fun s' => if s = s' then Q2 else R.sq s', own := own', N := R.N + 1 }, ⟨rfl, rfl, rfl, rfl⟩, ⟨?_, ?_, ?_, ?_, ?_, ?_, ?_, ?_, h0.fa, ?_, ?_, ?_, ?_, ?_, ?_, ?_, ?_, h0.goodA, x1 _ _ h0.orb, x1 _ _ h0.om0, x1 _ _ h0.om1, x1 _ _ h0.om2, x1 _ _ h0.om3, ?_, ?_, ?_, ?_, ?_, xl⟩, rfl, rfl, rfl, rfl, ?_, x2⟩
  · exact (h2.kBlk G27 x1 (by simp)).trans h2.blk
  · show MAt W7 _ R.m0 (R.all ++ [_]).length _
    rw [List.length_append, List.length_singleton, ← hn7]; exact hm7
  · exact ⟨n3, hn3, hm3.kT G37 (x1 _ _ h0.om1) (by simp)⟩
  · exact ⟨n5, hn5, hm5.kT G57 (x1 _ _ h0.om2) (by simp)⟩
  · obtain ⟨n, h3, h4⟩ := h2.ma
    exact ⟨n, by show n ≤ R.N + 1; omega, h4.kT G27 (x1 _ _ h0.om3) (by simp)⟩
  · intro t'
    show updF R.fw (ky t) (some B) (ky t') = ((R.all ++ [_]).find? _).map _
    unfold updF
    by_cases e : t' = t
    · subst e
      rw [if_pos rfl, List.find?_append, find_none hno]; simp
    · rw [if_neg (by simpa using e), h0.fw t', List.find?_append]
      have : ([(⟨B, t, s, o, I, J⟩ : Wt)].find? fun x => x.th == t') = none := find_none (by simpa using fun e' => e e'.symm)
      rw [this]; simp
  · intro s' o' hs' ho'
    show updF R.fp (kp s o) (some Q) (kp s' o') = if atP s' o' (R.all ++ [_]) = [] then none else some (if s = s' ∧ o = o' then Q else R.pq s' o')
    unfold updF
    rw [aP]
    by_cases e : s = s' ∧ o = o'
    · rw [if_pos (by rw [e.1, e.2]), if_pos e, if_neg app_ne, if_pos e]
    · rw [if_neg (fun e' => e (by have := kp_inj hs' ho' hs ho e'; exact ⟨this.1.symm, this.2.symm⟩)), if_neg e, List.append_nil, h0.fp s' o' hs' ho', if_neg e]
  · intro s'
    show updF R.fs (ky s) (some Q2) (ky s') = if inS s' (R.all ++ [_]) = [] then none else some (if s = s' then Q2 else R.sq s')
    unfold updF
    rw [aS]
    by_cases e : s = s'
    · rw [if_pos (by rw [e]), if_pos e, if_neg app_ne, if_pos e]
    · rw [if_neg (by simpa using fun e' => e e'.symm), if_neg e, List.append_nil, h0.fs s', if_neg e]
  · show (R.all ++ [_]).length ≤ R.N + 1
    have := h0.len
    simp; omega
  · intro t'
    have := h0.lenA t'
    show (R.al t').length ≤ R.N + 1
    omega
  · intro x hx
    rcases List.mem_append.1 hx with hx | hx
    · exact hall7 x hx
    · obtain rfl : x = _ := by simpa using hx
      exact B7
  · intro s' o'
    show atP s' o' (R.all ++ [_]) ≠ [] → QAW W7 (if s = s' ∧ o = o' then Q else R.pq s' o') (itP (atP s' o' (R.all ++ [_])))
    rw [aP]
    by_cases e : s = s' ∧ o = o'
    · obtain ⟨rfl, rfl⟩ := e
      rw [if_pos ⟨rfl, rfl⟩, if_pos ⟨rfl, rfl⟩]; intro _; exact q7P
    · rw [if_neg e, if_neg e, List.append_nil]
      intro hne
      refine h2.kP G27 x1 hne (by simp; intro h1 h3; exact e ⟨h1.symm, h3.symm⟩) (fun x hx => ?_)
      have := nomem x (mem_atP.1 hx).1 s' o' hx (fun e' => e ⟨e'.1.symm, e'.2.symm⟩)
      simp
      intro y hy e'
      exact this y hy e'.symm
  · intro s'
    show inS s' (R.all ++ [_]) ≠ [] → QAW W7 (if s = s' then Q2 else R.sq s') (itS (inS s' (R.all ++ [_])))
    rw [aS]
    by_cases e : s = s'
    · obtain rfl := e
      rw [if_pos rfl, if_pos rfl]; intro _; exact q7S
    · rw [if_neg e, if_neg e, List.append_nil]
      intro hne
      refine h2.kS G27 x1 hne (by simp; intro h1; exact e h1.symm) (fun x hx => ?_)
      have := nomemS x (mem_inS.1 hx).1 s' hx (fun e' => e e'.symm)
      simp
      intro y hy e'
      exact this y hy e'.symm
  · intro t' hne
    exact h2.kA G27 x1 hne (by simp) (by simp)
  · show ((R.all ++ [_]).map _).Nodup
    rw [List.map_append, List.nodup_append]
    refine ⟨h0.nd, by simp, fun a ha b hb' e => ?_⟩
    obtain ⟨x, hx, rfl⟩ := List.mem_map.1 ha
    simp at hb'
    exact hno x hx (e.trans hb')
  · intro x hx
    rcases List.mem_append.1 hx with hx | hx
    · exact h0.good x hx
    · obtain rfl : x = _ := by simpa using hx
      exact ⟨ht, hs, ho⟩
  · intro x hx
    rcases List.mem_append.1 hx with hx | hx
    · have := h0.ow x hx
      exact ⟨x1 _ _ this.1, x1 _ _ this.2.1, x1 _ _ this.2.2⟩
    · obtain rfl : x = _ := by simpa using hx
      exact ⟨oB, oI, oJ⟩
  · intro s' o'
    show atP s' o' (R.all ++ [_]) ≠ [] → own' (if s = s' ∧ o = o' then Q else R.pq s' o') = _
    rw [aP]
    by_cases e : s = s' ∧ o = o'
    · obtain ⟨rfl, rfl⟩ := e
      rw [if_pos ⟨rfl, rfl⟩, if_pos ⟨rfl, rfl⟩]; intro _; exact oQ
    · rw [if_neg e, if_neg e, List.append_nil]
      intro hne
      exact x1 _ _ (h0.op s' o' hne)
  · intro s'
    show inS s' (R.all ++ [_]) ≠ [] → own' (if s = s' then Q2 else R.sq s') = _
    rw [aS]
    by_cases e : s = s'
    · obtain rfl := e
      rw [if_pos rfl, if_pos rfl]; intro _; exact oQ2
    · rw [if_neg e, if_neg e, List.append_nil]
      intro hne
      exact x1 _ _ (h0.os s' hne)
  · exact fun t' hne => x1 _ _ (h0.oa t' hne)
  · exact fun t' a ha => x1 _ _ (h0.oi t' a ha)
  · have G0 : Fm w W2 (fun k => R.own k ≠ none) := Fm.of_below hb _
    exact G0.trans G27 (fun _ _ h => h) (fun k hk ⟨g, h1, _⟩ => (x2 k (by rw [h1]; simp)).resolve_right (by omega))
theorem enter_fin {w W2 W3 W4 W4' W5 W6 W7 : World} {R : Rm} {B I J Q Q2 n3 n5 n7 : Nat} {t s o : Int} (h0 : RmAt w R) (hb : Below w.heap.size w W2) (ht : i64 t) (hs : i64 s) (ho : i64 o) (hno : ∀ x ∈ R.all, x.th ≠ t) (hwB : w.heap.size ≤ B)
    (hB2 : W2.heap[B]? = some (.cells #[.int .i64 s, .int .i64 o, .int .i64 t, np, np] 75 (0, 0)))
    (hm3 : MAt W3 72 R.m1 n3 (updF R.fp (kp s o) (some Q))) (hn3 : n3 ≤ R.N + 1) (hq3 : QAW W3 Q (itP (atP s o R.all) ++ [⟨I, pv B⟩])) (hF3 : Fm W2 W3 (fun k => k = R.m1 ∨ (itP (atP s o R.all) ≠ [] ∧ qf Q (itP (atP s o R.all)) k)))
    (hQ3 : (itP (atP s o R.all) = [] ∧ W2.heap.size ≤ Q) ∨ (itP (atP s o R.all) ≠ [] ∧ R.fp (kp s o) = some Q ∧ QAW W2 Q (itP (atP s o R.all)))) (hI : W2.heap.size ≤ I) (hB3 : W3.heap[B]? = some (.cells #[.int .i64 s, .int .i64 o, .int .i64 t, np, np] 75 (0, 0)))
    (hW4 : W4 = W3.setCell ⟨B, 3, none⟩ (pv I)) (hW4' : W4'.heap = W4.heap ∧ W4'.os = W4.os ∧ W4'.tape = W4.tape ∧ W4'.output = W4.output)
    (hm5 : MAt W5 3 R.m2 n5 (updF R.fs (ky s) (some Q2))) (hn5 : n5 ≤ R.N + 1) (hq5 : QAW W5 Q2 (itS (inS s R.all) ++ [⟨J, pv B⟩])) (hF5 : Fm W4' W5 (fun k => k = R.m2 ∨ (itS (inS s R.all) ≠ [] ∧ qf Q2 (itS (inS s R.all)) k)))
    (hQ5 : (itS (inS s R.all) = [] ∧ W4'.heap.size ≤ Q2) ∨ (itS (inS s R.all) ≠ [] ∧ R.fs (ky s) = some Q2 ∧ QAW W4' Q2 (itS (inS s R.all)))) (hJ : W4'.heap.size ≤ J) (hB5 : W5.heap[B]? = some (.cells #[.int .i64 s, .int .i64 o, .int .i64 t, pv I, np] 75 (0, 0)))
    (hW6 : W6 = W5.setCell ⟨B, 4, none⟩ (pv J)) (hm7 : MAt W7 3 R.m0 n7 (updF R.fw (ky t) (some B))) (hn7 : n7 = R.all.length + 1) (hF7 : Fm W6 W7 (fun k => k = R.m0)) :
    ∃ R', RmAt W7 R' ∧ R'.rb = R.rb ∧ R'.all = R.all ++ [⟨B, t, s, o, I, J⟩] ∧ R'.al = R.al ∧ R'.N = R.N + 1 ∧ Fm w W7 (fun k => R.own k ≠ none) ∧ ∀ k, R'.own k ≠ none → R.own k ≠ none ∨ w.heap.size ≤ k := by
  obtain ⟨R', _, h⟩ := enter_finM h0 hb ht hs ho hno hwB hB2 hm3 hn3 hq3 hF3 hQ3 hI hB3 hW4 hW4' hm5 hn5 hq5 hF5 hQ5 hJ hB5 hW6 hm7 hn7 hF7
  exact ⟨R', h⟩
end Go.Proofs.Ythknnmllibdggaa
