/- Every row of calls is answered as by the reference, and a copy has what was then. -/
import Derived.Test.YthknnmllibdggaaStep2
import Derived.Test.YthknnmllibdggaaLives
import Derived.Deep.CutBlock
namespace Go.Proofs.Ythknnmllibdggaa
open Go.RowKit Go.Sort
def pvs (l : List Nat) : List Value := l.map pv
/-- The two at hand (rb, qb), the older ones (l1, l2), their rows (v1, v2); Z are the blocks of the older ones, Y are blocks that are held apart. -/
structure PQ (w0 wr : World) (rb qb : Nat) (F G Z Y : Nat → Prop) (l1 l2 : List Nat) (v1 v2 : Value) (N : Nat) : Prop where
  cur : Pl wr rb qb F G N
  zf : ∀ k, Z k → ¬ F k ∧ ¬ G k
  zl : ∀ k, Z k → k < wr.heap.size
  yf : ∀ k, Y k → ¬ F k ∧ ¬ G k ∧ ¬ Z k
  yl : ∀ k, Y k → k < wr.heap.size
  olds : ∀ (i a b : Nat), l1[i]? = some a → l2[i]? = some b → ∃ Fi Gi Ni, Ni ≤ 200 ∧ Pl wr a b Fi Gi Ni ∧ ∀ k, Fi k ∨ Gi k → Z k
  r1 : wr.ownsRow w0.heap.size 24 1 v1 l1.length (pvs l1)
  r2 : wr.ownsRow w0.heap.size 26 1 v2 l2.length (pvs l2)
  o1 : ∀ b, v1.ownBlock = some b → ¬ F b ∧ ¬ G b ∧ ¬ Z b ∧ ¬ Y b
  o2 : ∀ b, v2.ownBlock = some b → ¬ F b ∧ ¬ G b ∧ ¬ Z b ∧ ¬ Y b
  o12 : ∀ b, v1.ownBlock = some b → ¬ v2.ownBlock = some b
  fo : ∀ k, F k ∨ G k ∨ Z k ∨ Y k → w0.heap.size ≤ k
  bel : Below w0.heap.size w0 wr
section
variable {w0 wr w' : World} {rb qb N : Nat} {F G Z Y : Nat → Prop} {l1 l2 : List Nat} {v1 v2 : Value}
theorem PQ.lt (h : PQ w0 wr rb qb F G Z Y l1 l2 v1 v2 N) : ∀ k, F k ∨ G k ∨ Z k ∨ Y k → k < wr.heap.size := by
  obtain ⟨_, _, _, _, hp⟩ := h.cur
  intro k hk
  rcases hk with hk | hk | hk | hk
  · exact hp.fl k hk
  · exact hp.gl k hk
  · exact h.zl k hk
  · exact h.yl k hk
/-- Memory is made, and of it some is held apart. -/
theorem PQ.more (h : PQ w0 wr rb qb F G Z Y l1 l2 v1 v2 N) (hb : Below wr.heap.size wr w') {Y' : Nat → Prop} (hY : ∀ k, Y' k → wr.heap.size ≤ k ∧ k < w'.heap.size) : PQ w0 w' rb qb F G Z (fun k => Y k ∨ Y' k) l1 l2 v1 v2 N := by
  have hl := h.lt
  have hz := hb.size
  have hbel := h.bel.size
  have n : ∀ k, Y' k → ¬ F k ∧ ¬ G k ∧ ¬ Z k := fun k hk =>
    ⟨fun e => by have := hl k (.inl e); have := hY k hk; omega, fun e => by have := hl k (.inr (.inl e)); have := hY k hk; omega, fun e => by have := hl k (.inr (.inr (.inl e))); have := hY k hk; omega⟩
  refine ⟨h.cur.same hz (fun k hk _ => hb.block k hk), h.zf, fun k hk => Nat.lt_of_lt_of_le (h.zl k hk) hz, fun k hk => hk.elim (h.yf k) (n k), fun k hk => hk.elim (fun e => Nat.lt_of_lt_of_le (h.yl k e) hz) (fun e => (hY k e).2), ?_, row_same h.r1 (fun k hk => hb.block k (h.r1.lt k hk).2), row_same h.r2 (fun k hk => hb.block k (h.r2.lt k hk).2), ?_, ?_, h.o12, ?_, h.bel.trans (hb.mono hbel)⟩
  · intro i a b h1 h2
    obtain ⟨Fi, Gi, Ni, g1, g2, g3⟩ := h.olds i a b h1 h2
    exact ⟨Fi, Gi, Ni, g1, g2.same hz (fun k hk _ => hb.block k hk), g3⟩
  · intro b hk
    obtain ⟨a1, a2, a3, a4⟩ := h.o1 b hk
    exact ⟨a1, a2, a3, fun e => e.elim a4 (fun e => by have := (h.r1.lt b hk).2; have := hY b e; omega)⟩
  · intro b hk
    obtain ⟨a1, a2, a3, a4⟩ := h.o2 b hk
    exact ⟨a1, a2, a3, fun e => e.elim a4 (fun e => by have := (h.r2.lt b hk).2; have := hY b e; omega)⟩
  · intro k hk
    rcases hk with hk | hk | hk | hk | hk
    · exact h.fo k (.inl hk)
    · exact h.fo k (.inr (.inl hk))
    · exact h.fo k (.inr (.inr (.inl hk)))
    · exact h.fo k (.inr (.inr (.inr hk)))
    · have := hY k hk; omega
theorem PQ.below (h : PQ w0 wr rb qb F G Z Y l1 l2 v1 v2 N) (hb : Below wr.heap.size wr w') : PQ w0 w' rb qb F G Z Y l1 l2 v1 v2 N := by
  have h1 := h.more hb (Y' := fun _ => False) (fun _ e => e.elim)
  have e : (fun k => Y k ∨ False) = Y := funext fun k => by simp
  rw [e] at h1
  exact h1
/-- A step of both. -/
theorem PQ.step (h : PQ w0 wr rb qb F G Z Y l1 l2 v1 v2 N) {N' : Nat} (hn : Ns wr w' rb qb F G N') : ∃ F' G', PQ w0 w' rb qb F' G' Z Y l1 l2 v1 v2 N' := by
  obtain ⟨F', G', a1, a2, a3, a4⟩ := hn
  have hl := h.lt
  have hz := a2.size
  have hbel := h.bel.size
  have n : ∀ k, k < wr.heap.size → ¬ F k → ¬ G k → ¬ F' k ∧ ¬ G' k := fun k hk n1 n2 =>
    ⟨fun e => (a3 k e).elim n1 (fun e => by omega), fun e => (a4 k e).elim n2 (fun e => by omega)⟩
  have s : ∀ k, k < wr.heap.size → ¬ F k → ¬ G k → w'.heap[k]? = wr.heap[k]? := fun k hk n1 n2 => a2.same k hk (fun e => e.elim n1 n2)
  refine ⟨F', G', a1, fun k hk => n k (h.zl k hk) (h.zf k hk).1 (h.zf k hk).2, fun k hk => Nat.lt_of_lt_of_le (h.zl k hk) hz, ?_, fun k hk => Nat.lt_of_lt_of_le (h.yl k hk) hz, ?_, row_same h.r1 (fun k hk => s k (h.r1.lt k hk).2 (h.o1 k hk).1 (h.o1 k hk).2.1), row_same h.r2 (fun k hk => s k (h.r2.lt k hk).2 (h.o2 k hk).1 (h.o2 k hk).2.1), ?_, ?_, h.o12, ?_, h.bel.trans (a2.below hbel (fun k hk e => ?_))⟩
  · intro k hk
    have := n k (h.yl k hk) (h.yf k hk).1 (h.yf k hk).2.1
    exact ⟨this.1, this.2, (h.yf k hk).2.2⟩
  · intro i a b h1 h2
    obtain ⟨Fi, Gi, Ni, g1, g2, g3⟩ := h.olds i a b h1 h2
    exact ⟨Fi, Gi, Ni, g1, g2.same hz (fun k hk e => s k hk (h.zf k (g3 k e)).1 (h.zf k (g3 k e)).2), g3⟩
  · intro b hk
    obtain ⟨b1, b2, b3, b4⟩ := h.o1 b hk
    have := n b (h.r1.lt b hk).2 b1 b2
    exact ⟨this.1, this.2, b3, b4⟩
  · intro b hk
    obtain ⟨b1, b2, b3, b4⟩ := h.o2 b hk
    have := n b (h.r2.lt b hk).2 b1 b2
    exact ⟨this.1, this.2, b3, b4⟩
  · intro k hk
    rcases hk with hk | hk | hk | hk
    · rcases a3 k hk with e | e
      · exact h.fo k (.inl e)
      · omega
    · rcases a4 k hk with e | e
      · exact h.fo k (.inr (.inl e))
      · omega
    · exact h.fo k (.inr (.inr (.inl hk)))
    · exact h.fo k (.inr (.inr (.inr hk)))
  · have := h.fo k (e.elim .inl (fun e => .inr (.inl e))); omega
theorem fm_app {v : Value} {o : Obj} (hg : (wr.alloc o).grownBy w' v.ownBlock) : Fm wr w' (fun k => v.ownBlock = some k) :=
  ⟨hg.os, hg.tape, hg.output, Nat.le_trans (by simp) hg.size, fun k hk hn => (hg.block k (by simp; omega) (fun e => hn e.symm)).trans (Below.heap_alloc _ _ _ hk)⟩
/-- The first row is longer: what append leaves. -/
theorem PQ.app1 (h : PQ w0 wr rb qb F G Z Y l1 l2 v1 v2 N) {v' : Value} {a : Nat} (hr : w'.ownsRow w0.heap.size 24 1 v' (l1.length + 1) (pvs l1 ++ [pv a])) (hf : Fm wr w' (fun k => v1.ownBlock = some k)) (hat : v'.ownBlock = v1.ownBlock ∨ ∃ k, v'.ownBlock = some k ∧ wr.heap.size ≤ k) (hl : l2.length ≤ l1.length) : PQ w0 w' rb qb F G Z Y (l1 ++ [a]) l2 v' v2 N := by
  have hz := hf.size
  have hbel := h.bel.size
  have hlt := h.lt
  have s : ∀ k, (F k ∨ G k ∨ Z k ∨ Y k) → w'.heap[k]? = wr.heap[k]? := fun k hk => hf.same k (hlt k hk) (fun e => by
    obtain ⟨b1, b2, b3, b4⟩ := h.o1 k e
    rcases hk with hk | hk | hk | hk
    · exact b1 hk
    · exact b2 hk
    · exact b3 hk
    · exact b4 hk)
  refine ⟨h.cur.same hz (fun k _ hk => s k (hk.elim .inl (fun e => .inr (.inl e)))), h.zf, fun k hk => Nat.lt_of_lt_of_le (h.zl k hk) hz, h.yf, fun k hk => Nat.lt_of_lt_of_le (h.yl k hk) hz, ?_, ?_, row_same h.r2 (fun k hk => hf.same k (h.r2.lt k hk).2 (fun e => h.o12 k e hk)), ?_, h.o2, ?_, h.fo, h.bel.trans (hf.below hbel (fun k hk e => by have := (h.r1.lt k e).1; omega))⟩
  · intro i x b h1 h2
    have hi : i < l2.length := (List.getElem?_eq_some_iff.1 h2).1
    rw [List.getElem?_append_left (by omega)] at h1
    obtain ⟨Fi, Gi, Ni, g1, g2, g3⟩ := h.olds i x b h1 h2
    exact ⟨Fi, Gi, Ni, g1, g2.same hz (fun k _ e => s k (.inr (.inr (.inl (g3 k e))))), g3⟩
  · rw [List.length_append, show pvs (l1 ++ [a]) = pvs l1 ++ [pv a] from by unfold pvs; rw [List.map_append]; rfl]; exact hr
  · intro b hb
    rcases hat with e | ⟨k, e, hk2⟩
    · exact h.o1 b (e ▸ hb)
    · rw [e] at hb
      obtain rfl : k = b := Option.some.inj hb
      exact ⟨fun e => by have := hlt k (.inl e); omega, fun e => by have := hlt k (.inr (.inl e)); omega, fun e => by have := hlt k (.inr (.inr (.inl e))); omega, fun e => by have := hlt k (.inr (.inr (.inr e))); omega⟩
  · intro b hb e2
    rcases hat with e | ⟨k, e, hk2⟩
    · exact h.o12 b (e ▸ hb) e2
    · rw [e] at hb
      obtain rfl : k = b := Option.some.inj hb
      have := (h.r2.lt k e2).2
      omega
theorem PQ.kept1 (h : PQ w0 wr rb qb F G Z Y l1 l2 v1 v2 N) (hf : Fm wr w' (fun k => v1.ownBlock = some k)) : ∀ k, F k ∨ G k ∨ Z k ∨ Y k → w'.heap[k]? = wr.heap[k]? := fun k hk => hf.same k (h.lt k hk) (fun e => by
  obtain ⟨b1, b2, b3, b4⟩ := h.o1 k e
  rcases hk with hk | hk | hk | hk
  · exact b1 hk
  · exact b2 hk
  · exact b3 hk
  · exact b4 hk)
/-- A copy is at hand, and what was is among the older ones. -/
theorem PQ.fin (h : PQ w0 wr rb qb F G Z Y (l1 ++ [rb]) l2 v1 v2 N) {v' : Value} {rb' qb' : Nat} {F' G' : Nat → Prop} {all all' ra rl : List Who} {al : Int → List Int} (hl : l2.length = l1.length) (hN : N ≤ 200)
    (hp : PS wr rb qb F G all al ra rl N) (hra : RA wr rb' F' all' al N) (hs : ∀ s, fsg s all' = fsg s all) (hrf : RFx wr qb' G' ra rl N) (hF : ∀ k, F' k → Y k) (hG : ∀ k, G' k → Y k) (hFG : ∀ k, F' k → ¬ G' k)
    (hr : w'.ownsRow w0.heap.size 26 1 v' (l2.length + 1) (pvs l2 ++ [pv qb'])) (hf : Fm wr w' (fun k => v2.ownBlock = some k)) (hat : v'.ownBlock = v2.ownBlock ∨ ∃ k, v'.ownBlock = some k ∧ wr.heap.size ≤ k) : PQ w0 w' rb' qb F' G (fun k => Z k ∨ F k ∨ G' k) (fun _ => False) (l1 ++ [rb]) (l2 ++ [qb']) v1 v' N := by
  have hz := hf.size
  have hbel := h.bel.size
  have hlt := h.lt
  have s : ∀ k, (F k ∨ G k ∨ Z k ∨ Y k) → w'.heap[k]? = wr.heap[k]? := fun k hk => hf.same k (hlt k hk) (fun e => by
    obtain ⟨b1, b2, b3, b4⟩ := h.o2 k e
    rcases hk with hk | hk | hk | hk
    · exact b1 hk
    · exact b2 hk
    · exact b3 hk
    · exact b4 hk)
  have lt' : ∀ k, (F k ∨ G k ∨ Z k ∨ Y k) → k < w'.heap.size := fun k hk => Nat.lt_of_lt_of_le (hlt k hk) hz
  refine ⟨⟨all', al, ra, rl, hra.same hz (fun k _ hk => s k (.inr (.inr (.inr (hF k hk))))), hp.rf.same (fun k _ hk => s k (.inr (.inl hk))), hp.lk.copy hs hra.nd, fun k e => (h.yf k (hF k e)).2.1, fun k hk => lt' k (.inr (.inr (.inr (hF k hk)))), fun k hk => lt' k (.inr (.inl hk))⟩, ?_, ?_, fun _ e => e.elim, fun _ e => e.elim, ?_, row_same h.r1 (fun k hk => hf.same k (h.r1.lt k hk).2 (fun e => h.o12 k hk e)), ?_, ?_, ?_, ?_, ?_, h.bel.trans (hf.below hbel (fun k hk e => by have := (h.r2.lt k e).1; omega))⟩
  · intro k hk
    rcases hk with hk | hk | hk
    · exact ⟨fun e => (h.yf k (hF k e)).2.2 hk, (h.zf k hk).2⟩
    · exact ⟨fun e => (h.yf k (hF k e)).1 hk, hp.ap k hk⟩
    · exact ⟨fun e => hFG k e hk, (h.yf k (hG k hk)).2.1⟩
  · intro k hk
    rcases hk with hk | hk | hk
    · exact lt' k (.inr (.inr (.inl hk)))
    · exact lt' k (.inl hk)
    · exact lt' k (.inr (.inr (.inr (hG k hk))))
  · intro i a b h1 h2
    by_cases hi : i < l2.length
    · rw [List.getElem?_append_left hi] at h2
      obtain ⟨Fi, Gi, Ni, g1, g2, g3⟩ := h.olds i a b h1 h2
      exact ⟨Fi, Gi, Ni, g1, g2.same hz (fun k _ e => s k (.inr (.inr (.inl (g3 k e))))), fun k e => .inl (g3 k e)⟩
    · have hi2 := (List.getElem?_eq_some_iff.1 h2).1
      rw [List.length_append] at hi2
      simp at hi2
      obtain rfl : i = l2.length := by omega
      rw [List.getElem?_append_right (by omega)] at h1 h2
      rw [hl, Nat.sub_self] at h1
      rw [Nat.sub_self] at h2
      simp at h1 h2
      subst h1 h2
      refine ⟨F, G', N, hN, ⟨all, al, ra, rl, hp.rm.same hz (fun k _ hk => s k (.inl hk)), hrf.same (fun k _ hk => s k (.inr (.inr (.inr (hG k hk))))), hp.lk, fun k e e2 => (h.yf k (hG k e2)).1 e, fun k hk => lt' k (.inl hk), fun k hk => lt' k (.inr (.inr (.inr (hG k hk))))⟩, fun k e => .inr e⟩
  · rw [List.length_append, show pvs (l2 ++ [qb']) = pvs l2 ++ [pv qb'] from by unfold pvs; rw [List.map_append]; rfl]; exact hr
  · intro b hb
    obtain ⟨b1, b2, b3, b4⟩ := h.o1 b hb
    exact ⟨fun e => b4 (hF b e), b2, fun e => e.elim b3 (fun e => e.elim b1 (fun e => b4 (hG b e))), fun e => e⟩
  · intro b hb
    have key : ¬ F b ∧ ¬ G b ∧ ¬ Z b ∧ ¬ Y b := by
      rcases hat with e | ⟨k, e, hk2⟩
      · exact h.o2 b (e ▸ hb)
      · rw [e] at hb
        obtain rfl : k = b := Option.some.inj hb
        exact ⟨fun e => by have := hlt k (.inl e); omega, fun e => by have := hlt k (.inr (.inl e)); omega, fun e => by have := hlt k (.inr (.inr (.inl e))); omega, fun e => by have := hlt k (.inr (.inr (.inr e))); omega⟩
    obtain ⟨b1, b2, b3, b4⟩ := key
    exact ⟨fun e => b4 (hF b e), b2, fun e => e.elim b3 (fun e => e.elim b1 (fun e => b4 (hG b e))), fun e => e⟩
  · intro b hb e2
    rcases hat with e | ⟨k, e, hk2⟩
    · exact h.o12 b hb (e ▸ e2)
    · rw [e] at e2
      obtain rfl : k = b := Option.some.inj e2
      have := (h.r1.lt k hb).2
      omega
  · intro k hk
    rcases hk with hk | hk | hk | hk
    · exact h.fo k (.inr (.inr (.inr (hF k hk))))
    · exact h.fo k (.inr (.inl hk))
    · rcases hk with hk | hk | hk
      · exact h.fo k (.inr (.inr (.inl hk)))
      · exact h.fo k (.inl hk)
      · exact h.fo k (.inr (.inr (.inr (hG k hk))))
    · exact hk.elim
/-- A place of a row of pointers. -/
theorem row_at {b e n : Nat} {v : Value} {l : List Nat} (h : wr.ownsRow b e 1 v n (pvs l)) {i : Nat} (hi : i < l.length) (hn : n = l.length) : ∃ g cap, v = .slice (some ⟨g, 0, none⟩) n cap ∧ g < wr.heap.size ∧ wr.cell? ⟨g, i, none⟩ = some (pv l[i]) := by
  subst hn
  rcases h.2 with ⟨_, h0⟩ | ⟨g, cap, cur, rfl, _, hg, _⟩
  · omega
  · refine ⟨g, cap, rfl, heap_lt hg, ?_⟩
    rw [h.cellAt i (by omega)]
    unfold pvs; simp [hi]
/-- The first two. -/
theorem pq_zero {w1 w2 : World} {rb : Nat} {F0 : Nat → Prop} (hb1 : Below w0.heap.size w0 w1) (hra : RA w2 rb F0 [] (fun _ => []) 0) (hb2 : Below w1.heap.size w1 w2) (hlo : ∀ k, F0 k → w1.heap.size ≤ k) (hlt : ∀ k, F0 k → k < w2.heap.size) :
    PQ w0 (w2.alloc (.cells #[.slice none 0 0, .slice none 0 0] 29)) rb w2.heap.size F0 (fun k => k = w2.heap.size) (fun _ => False) (fun _ => False) [] [] (.slice none 0 0) (.slice none 0 0) 0 := by
  have z1 := hb1.size
  have z2 := hb2.size
  have hnil : ∀ (X : World) (b e : Nat), X.ownsRow b e 1 (.slice none 0 0) 0 [] := fun X b e => ⟨rfl, .inl ⟨rfl, rfl⟩⟩
  refine ⟨⟨[], fun _ => [], [], [], hra.below ((Below.refl _ _).alloc (Nat.le_refl _) _), ⟨⟨.slice none 0 0, .slice none 0 0, heap_new _ _, ⟨rfl, .inl ⟨rfl, rfl⟩⟩, ⟨rfl, .inl ⟨rfl, rfl⟩⟩, fun k hk => by simp [Value.ownBlock] at hk, fun k hk => by simp [Value.ownBlock] at hk⟩, rfl, by simp, by simp, by simp⟩, ⟨fun s => rfl, fun t => rfl, fun t => by simp, by simp, by simp⟩, fun k hk e => by have := hlt k hk; omega, fun k hk => by have := hlt k hk; simp; omega, fun k hk => by subst hk; simp⟩, fun _ e => e.elim, fun _ e => e.elim, fun _ e => e.elim, fun _ e => e.elim, fun i a b h1 => by simp at h1, hnil _ _ _, hnil _ _ _, fun b hb => by simp [Value.ownBlock] at hb, fun b hb => by simp [Value.ownBlock] at hb, fun b hb => by simp [Value.ownBlock] at hb, fun k hk => ?_, (hb1.trans (hb2.mono z1)).alloc (by omega) _⟩
  rcases hk with hk | hk | hk | hk
  · have := hlo k hk; omega
  · omega
  · exact hk.elim
  · exact hk.elim
end
theorem ptrInfoW : (Try.prog.info? 24).map (fun i => (i.zero, i.size, i.bytes)) = some (some (.pointer none), 1, 8) := by kernel_rfl
theorem ptrInfoR : (Try.prog.info? 26).map (fun i => (i.zero, i.size, i.bytes)) = some (some (.pointer none), 1, 8) := by kernel_rfl
set_option maxRecDepth 100000 in
set_option maxHeartbeats 8000000 in
theorem WaitPlay_any (p : Option Addr) (cp : Nat) (ops : List Opv) (w : World) (hp : OpsAt w p ops) (hg : ∀ x ∈ ops, x.good) (hcap : ops.length ≤ cp) :
    Calls Try.prog 3 #[.slice p ops.length cp] w fun e w' => e = .returned (.bool true) ∧ Below w.heap.size w w' := by
  obtain ⟨i0, hi, hz0, hz1, hz2⟩ := info_parts ptrInfoW
  obtain ⟨j0, hj, hy0, hy1, hy2⟩ := info_parts ptrInfoR
  go_enter Try.func3, Try.ntmps3
  go_upto_block 0 with (first
    | (go_at_call 8; refine (lives_any _).mono ?_; rintro e w1 ⟨rfl, hb1⟩)
    | (go_at_call 9; refine (New_any _).mono ?_; rintro e w2 ⟨rb0, F0, rfl, hra0, hb2, hlo0, hlt0⟩))
  have hpq0 := pq_zero hb1 hra0 hb2 hlo0 hlt0
  obtain ⟨qb, hqb⟩ : ∃ qb, w2.heap.size = qb := ⟨_, rfl⟩
  obtain ⟨wz, hwz⟩ : ∃ wz, w2.alloc (.cells #[.slice none 0 0, .slice none 0 0] 29) = wz := ⟨_, rfl⟩
  rw [hqb, hwz] at hpq0
  rw [hqb]
  try rw [hwz]
  clear hra0 hlo0 hlt0 hb1 hb2 hqb hwz
  go_cut [3, 5, 6, 7, 8, 9, 20] from 21 to 56 (fun v3 v5 v6 v7 v8 v9 v20 wx => ∃ (rb : Nat) (F G Z : Nat → Prop) (l1 l2 : List Nat) (N : Nat), l1.length = l2.length ∧ l1.length ≤ 200 ∧ PQ w wx rb qb F G Z (fun _ => False) l1 l2 v5 v6 N)
  case first =>
    go_wp2_with fail
    go_loopw [3, 5, 6, 20] (fun v3 v5 v6 y wr => ∃ (k rb : Nat) (F G Z : Nat → Prop) (l1 l2 : List Nat) (N : Nat), v3 = pv rb ∧ y = .int .i64 k ∧ k ≤ ops.length ∧ k ≤ 200 ∧ N ≤ k ∧ l1.length = l2.length ∧ l1.length ≤ k ∧ PQ w wr rb qb F G Z (fun _ => False) l1 l2 v5 v6 N) (fun _ _ _ y _ => (ops.length - (RowKit.intOf y).toNat))
    case atStart => exact ⟨0, rb0, _, _, _, [], [], 0, rfl, rfl, Nat.zero_le _, Nat.zero_le _, Nat.le_refl _, rfl, Nat.le_refl _, hpq0⟩
    case round =>
      clear hpq0
      obtain ⟨k, rb, F, G, Z, l1, l2, N, rfl, rfl, hk, hk2, hNk, hll, hlk, hst⟩ := hrel
      have HLL := Lib.hid hll
      clear hll
      obtain ⟨sp1, cap1, rfl⟩ := row_form hst.r1
      obtain ⟨sp2, cap2, rfl⟩ := row_form hst.r2
      by_cases hlt : k < ops.length
      · have hki : (k : Int) < (ops.length : Int) := by omega
        obtain ⟨gp, op, rfl, hgp, c0, c1, c2, c3, c4⟩ := hp.at_ hst.bel hlt
        have hgd := hg _ (List.getElem_mem hlt)
        obtain ⟨x, hx⟩ : ∃ x, ops[k] = x := ⟨_, rfl⟩
        rw [hx] at c0 c1 c2 c3 c4 hgd
        obtain ⟨kd, th, sg, of, cd⟩ := x
        obtain ⟨ith, isg, iof, icd⟩ := hgd
        simp only at c0 c1 c2 c3 c4 ith isg iof icd
        clear hx
        by_cases h200 : k < 200
        · have h200i : ¬ (200 : Int) ≤ (k : Int) := by omega
          obtain ⟨W1, hW1⟩ : ∃ W1, wr.alloc (.cells #[.int .i64 kd, .int .i64 th, .int .i64 sg, .int .i64 of, .int .i64 cd] 33) = W1 := ⟨_, rfl⟩
          have hb1 : Below wr.heap.size wr W1 := by rw [← hW1]; exact (Below.refl _ _).alloc (Nat.le_refl _) _
          have hO1 : W1.heap[wr.heap.size]? = some (.cells #[.int .i64 kd, .int .i64 th, .int .i64 sg, .int .i64 of, .int .i64 cd] 33 (0, 0)) := by rw [← hW1]; exact heap_new _ _
          have hs1 := hst.below hb1
          have d0 : W1.cell? ⟨wr.heap.size, 0, none⟩ = some (.int .i64 kd) := by rw [cell_of_row _ _ _ _ _ _ hO1]; rfl
          have HS1 := Lib.hid hs1
          have HO1 := Lib.hid hO1
          have HLT : Hid (∀ k, F k ∨ G k → k < wr.heap.size) := Lib.hid (fun k e => hst.lt k (e.elim .inl (fun e => .inr (.inl e))))
          clear hst hs1 hb1 hO1
          by_cases hk7 : kd = 7
          · have kb7 : (kd == 7) = true := by simp; omega
            clear hk7
            obtain ⟨all, al, ra, rl, hps⟩ := HS1.out.cur
            have HCp := Lib.hid (Copy_ra W1 rb F all al N hps.rm (by omega))
            have HPS := Lib.hid hps
            clear hps
            go_wp2_with (go_at_call 10; refine HCp.out.mono ?_; rintro e w3 ⟨rb', F', all', rfl, hra3, hs3, hb3, hlo3, hlt3⟩; refine Hid.out ?_)
            refine Lib.hid ?_
            have hq3 := HS1.out.more hb3 (Y' := F') (fun k hk => ⟨hlo3 k hk, hlt3 k hk⟩)
            have hp3 := HPS.out.below hb3
            have HRow := Lib.hid (hq3.r1.alloc (.cells #[pv rb] 24))
            have HNw : Hid (∀ j u, ([pv rb] : List Value)[j]? = some u → (w3.alloc (.cells #[pv rb] 24)).cell? ((⟨w3.heap.size, 0, none⟩ : Addr).add j) = some u) := cell_one_new _ _ _
            have HOn : Hid (∀ u ∈ ([pv rb] : List Value), u.oneCell' = true) := fun u hu => by simp at hu; rcases hu with rfl; rfl
            have hbs := hq3.bel.size
            have HQ3 := Lib.hid hq3
            have HP3 := Lib.hid hp3
            have HRA3 := Lib.hid hra3
            have HS3 := Lib.hid hs3
            clear hq3 hp3 hra3 hs3 hb3 hlo3 hlt3 HS1 HPS HCp HO1
            go_wp2_with (at_builtin; refine wpList_append_own_at _ rfl _ _ 30 rfl w.heap.size 24 i0 (.pointer none) 1 8 (by kernel_rfl) hi hz0 hz1 hz2 rfl (by decide) _ _ _ rfl HRow.out ⟨w3.heap.size, 0, none⟩ 1 1 [pv rb] rfl rfl HNw.out HOn.out (by show _ ≤ 2 ^ 63 - 1; omega) (by omega) (by simp; omega) ?_; intro v7 w7 hown7 hgrow7 hnil7 hat7; clear hnil7; have HO7 := Lib.hid hown7; have HG7 := Lib.hid hgrow7; have HA7 := Lib.hid hat7; clear hown7 hgrow7 hat7; refine Hid.out ?_)
            refine Lib.hid ?_
            have hf7 := fm_app HG7.out
            have hkp := HQ3.out.kept1 hf7
            have hq7 := HQ3.out.app1 HO7.out hf7 (HA7.out.imp id (fun h => ⟨_, h, by simp⟩)) (by rw [HLL.out]; exact Nat.le_refl _)
            have hp7 := HP3.out.same hf7.size (fun k _ hk => hkp k (hk.elim .inl (fun e => .inr (.inl e))))
            have hra7 := HRA3.out.same hf7.size (fun k _ hk => hkp k (.inr (.inr (.inr (.inr hk)))))
            have HRC := Lib.hid (rCopy_any w7 qb G ra rl N hp7.rf (by omega))
            have HQ7 := Lib.hid hq7
            have HP7 := Lib.hid hp7
            have HRA7 := Lib.hid hra7
            clear hf7 hkp hq7 hp7 hra7 HQ3 HP3 HRA3 HO7 HG7 HA7 HRow HNw HOn
            go_wp2_with (go_at_call 11; refine HRC.out.mono ?_; rintro e w8 ⟨qb', G', rfl, hrf8, hb8, hlo8, hlt8⟩; refine Hid.out ?_)
            refine Lib.hid ?_
            have hz7 : ∀ k, F' k → k < w7.heap.size := fun k hk => HQ7.out.yl k (.inr hk)
            have hq8 := HQ7.out.more hb8 (Y' := G') (fun k hk => ⟨hlo8 k hk, hlt8 k hk⟩)
            have hp8 := HP7.out.below hb8
            have hra8 := HRA7.out.below hb8
            have hFG : ∀ k, F' k → ¬ G' k := fun k e1 e2 => by have := hz7 k e1; have := hlo8 k e2; omega
            have HRow := Lib.hid (hq8.r2.alloc (.cells #[pv qb'] 26))
            have HNw : Hid (∀ j u, ([pv qb'] : List Value)[j]? = some u → (w8.alloc (.cells #[pv qb'] 26)).cell? ((⟨w8.heap.size, 0, none⟩ : Addr).add j) = some u) := cell_one_new _ _ _
            have HOn : Hid (∀ u ∈ ([pv qb'] : List Value), u.oneCell' = true) := fun u hu => by simp at hu; rcases hu with rfl; rfl
            have hbs8 := hq8.bel.size
            have hl2b : l2.length ≤ 200 := by have := HLL.out; omega
            have HQ8 := Lib.hid hq8
            have HP8 := Lib.hid hp8
            have HRA8 := Lib.hid hra8
            have HRF8 := Lib.hid hrf8
            have HFG := Lib.hid hFG
            clear hz7 hq8 hp8 hra8 hrf8 hFG hb8 hlo8 hlt8 HQ7 HP7 HRA7 HRC
            go_wp2_with (at_builtin; refine wpList_append_own_at _ rfl _ _ 31 rfl w.heap.size 26 j0 (.pointer none) 1 8 (by kernel_rfl) hj hy0 hy1 hy2 rfl (by decide) _ _ _ rfl HRow.out ⟨w8.heap.size, 0, none⟩ 1 1 [pv qb'] rfl rfl HNw.out HOn.out (by show _ ≤ 2 ^ 63 - 1; omega) (by omega) (by simp; omega) ?_; intro v9 w9 hown9 hgrow9 hnil9 hat9; clear hnil9; have HO9 := Lib.hid hown9; have HG9 := Lib.hid hgrow9; have HA9 := Lib.hid hat9; clear hown9 hgrow9 hat9)
            go_roundw
            case rel =>
              have hq9 := HQ8.out.fin HLL.out.symm (by omega) HP8.out HRA8.out HS3.out HRF8.out (fun k hk => .inl (.inr hk)) (fun k hk => .inr hk) HFG.out HO9.out (fm_app HG9.out) (HA9.out.imp id (fun h => ⟨_, h, by simp⟩))
              exact ⟨k + 1, rb', F', G, _, l1 ++ [rb], l2 ++ [qb'], N, rfl, by go_num, by omega, by omega, by omega, by simp [HLL.out], by simp; omega, hq9⟩
            case measure => simp [RowKit.intOf]; omega
          · have kb7 : (kd == 7) = false := by simpa using hk7
            clear hk7
            have HSt := Lib.hid (step_any W1 rb qb F G N HS1.out.cur (by omega) kd th sg of cd ith isg iof)
            obtain ⟨d0', d1, d2, d3, d4⟩ := opn_cells (w := wr) HO1.out (H := fun _ => False) (fun _ e => e.elim) (Fm.refl W1 _)
            go_wp2_with (go_at_call 12; refine HSt.out.mono ?_; rintro e w3 ⟨rfl, hn3⟩; refine Hid.out ?_)
            refine Lib.hid ?_
            have hf3 : Fm W1 w3 (fun k => F k ∨ G k) := by obtain ⟨_, _, _, hf, _⟩ := hn3; exact hf
            obtain ⟨e0, e1, e2, e3, e4⟩ := opn_cells (w := wr) HO1.out (H := fun k => F k ∨ G k) HLT.out hf3
            obtain ⟨F3, G3, hq3⟩ := HS1.out.step hn3
            obtain ⟨all, al, ra, rl, hps⟩ := hq3.cur
            have HTo := Lib.hid (told_any w3 rb qb F3 G3 all al ra rl (N + 1) hps (by omega) kd th sg of cd ith isg iof)
            have HQ3 := Lib.hid hq3
            clear hn3 hf3 hq3 hps HSt HS1 HO1 HLT
            go_wp2_with (go_at_call 13; refine HTo.out.mono ?_; rintro e w4 ⟨rfl, hb4⟩)
            go_roundw
            case rel => exact ⟨k + 1, rb, F3, G3, Z, l1, l2, N + 1, rfl, by go_num, by omega, by omega, by omega, HLL.out, by omega, HQ3.out.below hb4⟩
            case measure => simp [RowKit.intOf]; omega
        · have hkx : (200 : Int) ≤ (k : Int) := by omega
          have HSt := Lib.hid hst
          clear hst hp
          go_wp2_with fail
          go_meet
          exact ⟨rb, F, G, Z, l1, l2, N, HLL.out, by omega, HSt.out.below ((Below.refl _ _).alloc (Nat.le_refl _) _)⟩
      · obtain rfl : k = ops.length := by omega
        have hkk : ¬ (ops.length : Int) < (ops.length : Int) := by omega
        have HSt := Lib.hid hst
        clear hst hp
        go_wp2_with fail
        go_meet
        exact ⟨rb, F, G, Z, l1, l2, N, HLL.out, by omega, HSt.out⟩
  case rest =>
    clear hpq0
    rename World => wC
    obtain ⟨rb, F, G, Z, l1, l2, N, hll, hl2, hst⟩ := hcut
    have HLL := Lib.hid hll
    clear hll
    obtain ⟨sp1, cap1, rfl⟩ := row_form hst.r1
    obtain ⟨sp2, cap2, rfl⟩ := row_form hst.r2
    have HST := Lib.hid hst
    clear hst
    go_wp2_with fail
    go_loopw [59] (fun y wr => ∃ ix : Nat, y = .int .i64 ix ∧ ix ≤ l1.length ∧ Below wC.heap.size wC wr) (fun y _ => (l1.length - (RowKit.intOf y).toNat))
    case atStart => exact ⟨0, rfl, Nat.zero_le _, Below.refl _ _⟩
    case round =>
      obtain ⟨ix, rfl, hi1, hbw⟩ := hrel
      by_cases hil : ix < l1.length
      · have hii : (ix : Int) < (l1.length : Int) := by omega
        have HBW := Lib.hid hbw
        clear hbw
        obtain ⟨m, hm⟩ : ∃ m, min ops.length 200 = m := ⟨_, rfl⟩
        have hmo : m ≤ ops.length := by omega
        have hm2 : m ≤ 200 := by omega
        obtain ⟨a, ha⟩ : ∃ a, l1[ix]? = some a := ⟨l1[ix], List.getElem?_eq_getElem hil⟩
        have hil2 : ix < l2.length := by rw [← HLL.out]; exact hil
        obtain ⟨b, hb⟩ : ∃ b, l2[ix]? = some b := ⟨l2[ix], List.getElem?_eq_getElem hil2⟩
        obtain ⟨g1, cq1, hv1, hg1, k1⟩ := row_at HST.out.r1 hil rfl
        obtain ⟨g2, cq2, hv2, hg2, k2⟩ := row_at HST.out.r2 hil2 rfl
        cases hv1
        cases hv2
        rw [(List.getElem?_eq_some_iff.1 ha).2] at k1
        rw [(List.getElem?_eq_some_iff.1 hb).2] at k2
        obtain ⟨Fi, Gi, Ni, hNi, hpl, _⟩ := HST.out.olds ix a b ha hb
        obtain ⟨all, al, ra, rl, hps⟩ := hpl
        have HPS := Lib.hid hps
        have HK1 := Lib.hid k1
        have HK2 := Lib.hid k2
        have hii2 : (ix : Int) < (l2.length : Int) := by omega
        clear hps k1 k2 ha hb
        go_upto_region 23 with fail
        go_cut [66, 67, 68] from 62 to 65 (fun v66 v67 v68 wx => v66 = .slice p m cp ∧ v67 = .int .i64 m ∧ v68 = .int .i64 0 ∧ wx = wr)
        case first =>
          go_wp2_with fail
          · go_meet
            exact ⟨by rw [show m = 200 from by omega], by rw [show m = 200 from by omega]; rfl, rfl, rfl⟩
          · go_meet
            exact ⟨by rw [show m = ops.length from by omega], by rw [show m = ops.length from by omega], rfl, rfl⟩
        case rest =>
          obtain ⟨rfl, rfl, rfl, rfl⟩ := hcut
          go_wp2_with fail
          go_loopw [68] (fun y wx => ∃ j : Nat, y = .int .i64 j ∧ j ≤ m ∧ Below wC.heap.size wC wx) (fun y _ => (m - (RowKit.intOf y).toNat))
          case atStart => exact ⟨0, rfl, Nat.zero_le _, HBW.out⟩
          case round =>
            obtain ⟨j, rfl, hj1, hbx⟩ := hrel
            by_cases hjl : j < m
            · have hjj : (j : Int) < (m : Int) := by omega
              have hjo : j < ops.length := by omega
              have hwx := HST.out.bel.trans (hbx.mono HST.out.bel.size)
              obtain ⟨gp, op, rfl, hgp, c0, c1, c2, c3, c4⟩ := hp.at_ hwx hjo
              have hgd := hg _ (List.getElem_mem hjo)
              obtain ⟨x, hx⟩ : ∃ x, ops[j] = x := ⟨_, rfl⟩
              rw [hx] at c0 c1 c2 c3 c4 hgd
              obtain ⟨kd, th, sg, of, cd⟩ := x
              obtain ⟨ith, isg, iof, icd⟩ := hgd
              simp only at c0 c1 c2 c3 c4 ith isg iof icd
              clear hx
              rename World => wy
              obtain ⟨W1, hW1⟩ : ∃ W1, wy.alloc (.cells #[.int .i64 kd, .int .i64 th, .int .i64 sg, .int .i64 of, .int .i64 cd] 33) = W1 := ⟨_, rfl⟩
              have hb1 : Below wy.heap.size wy W1 := by rw [← hW1]; exact (Below.refl _ _).alloc (Nat.le_refl _) _
              have hO1 : W1.heap[wy.heap.size]? = some (.cells #[.int .i64 kd, .int .i64 th, .int .i64 sg, .int .i64 of, .int .i64 cd] 33 (0, 0)) := by rw [← hW1]; exact heap_new _ _
              have hbc : Below wC.heap.size wC W1 := hbx.trans (hb1.mono hbx.size)
              have cW : ∀ X, Below W1.heap.size W1 X → X.cell? ⟨wy.heap.size, 0, none⟩ = some (.int .i64 kd) ∧ X.cell? ⟨wy.heap.size, 1, none⟩ = some (.int .i64 th) ∧ X.cell? ⟨wy.heap.size, 2, none⟩ = some (.int .i64 sg) ∧ X.cell? ⟨wy.heap.size, 3, none⟩ = some (.int .i64 of) ∧ X.cell? ⟨wy.heap.size, 4, none⟩ = some (.int .i64 cd) ∧ X.cell? ⟨g1, ix, none⟩ = some (pv a) ∧ X.cell? ⟨g2, ix, none⟩ = some (pv b) := fun X hX => by
                obtain ⟨q0, q1, q2, q3, q4⟩ := opn_cells (w := wy) hO1 (H := fun _ => False) (fun _ e => e.elim) (Fm.of_below hX _)
                have hcX := hbc.trans (hX.mono hbc.size)
                exact ⟨q0, q1, q2, q3, q4, (hcX.cell (p := ⟨g1, ix, none⟩) hg1).trans HK1.out, (hcX.cell (p := ⟨g2, ix, none⟩) hg2).trans HK2.out⟩
              have HPX : Hid (∀ X, Below W1.heap.size W1 X → PS X a b Fi Gi all al ra rl Ni) := fun X hX => HPS.out.below (hbc.trans (hX.mono hbc.size))
              have HBC := Lib.hid hbc
              clear hwx hb1 hO1 hbc hbx
              go_upto_region 26 with fail
              refine wp_region_monoT 6 11 (fun kq v X => match kq with | 72 => v = .slice (some ⟨g1, 0, none⟩) l1.length cap1 | 73 => v = .int .i64 (ix : Int) | 74 => v = .pointer (some ⟨g1, ix, none⟩) | 75 => v = pv a | 76 => v = .slice (some ⟨g2, 0, none⟩) l2.length cap2 | 77 => v = .int .i64 (ix : Int) | 78 => v = .pointer (some ⟨g2, ix, none⟩) | 79 => v = pv b | 80 => v = .agg #[.int .i64 kd, .int .i64 th, .int .i64 sg, .int .i64 of, .int .i64 cd] | 81 => v = .bool true | 82 => v = .bool false | _ => True) (by kernel_rfl) (by kernel_rfl) (by kernel_rfl) (by kernel_rfl) (by simp) (by kernel_rfl) ?_ ?_ ?_
              · intro kq v W W' h hb
                revert h
                try dsimp only
                split
                · intro h; exact h
                · intro h; exact h
                · intro h; exact h
                · intro h; exact h
                · intro h; exact h
                · intro h; exact h
                · intro h; exact h
                · intro h; exact h
                · intro h; exact h
                · intro h; exact h
                · intro h; exact h
                · intro h; trivial
              · intro a' X hB hs hk i o d ho hd hG
                match i, ho with
                | 0, ho =>
                  obtain rfl : _ = o := Option.some.inj ho
                  obtain rfl : 72 = d := Option.some.inj hd
                  have g5 : a'.eval (.tmp 5) = .slice (some ⟨g1, 0, none⟩) l1.length cap1 := hk 5 (by kernel_rfl)
                  obtain ⟨ev, hev⟩ : ∃ ev, a'.eval = ev := ⟨_, rfl⟩
                  rw [hev] at g5 ⊢
                  clear hev hG hk
                  obtain ⟨q0, q1, q2, q3, q4, q5, q6⟩ := cW X hB
                  exact .inr ⟨rfl, .inl ⟨.slice (some ⟨g1, 0, none⟩) l1.length cap1, X, by clear hs; go_simp, Below.refl _ _, rfl⟩⟩
                | 1, ho =>
                  obtain rfl : _ = o := Option.some.inj ho
                  obtain rfl : 73 = d := Option.some.inj hd
                  have g10 : a'.eval (.tmp 10) = .int .i64 ix := hk 10 (by kernel_rfl)
                  obtain ⟨ev, hev⟩ : ∃ ev, a'.eval = ev := ⟨_, rfl⟩
                  rw [hev] at g10 ⊢
                  clear hev hG hk
                  obtain ⟨q0, q1, q2, q3, q4, q5, q6⟩ := cW X hB
                  exact .inr ⟨rfl, .inl ⟨.int .i64 (ix : Int), X, by clear hs; go_simp, Below.refl _ _, rfl⟩⟩
                | 2, ho =>
                  obtain rfl : _ = o := Option.some.inj ho
                  obtain rfl : 74 = d := Option.some.inj hd
                  have g72 : a'.eval (.tmp 72) = .slice (some ⟨g1, 0, none⟩) l1.length cap1 := hG ⟨0, .data⟩ (by simp) rfl 72 rfl
                  have g73 : a'.eval (.tmp 73) = .int .i64 (ix : Int) := hG ⟨1, .data⟩ (by simp) rfl 73 rfl
                  obtain ⟨ev, hev⟩ : ∃ ev, a'.eval = ev := ⟨_, rfl⟩
                  rw [hev] at g72 g73 ⊢
                  clear hev hG hk
                  obtain ⟨q0, q1, q2, q3, q4, q5, q6⟩ := cW X hB
                  exact .inr ⟨rfl, .inl ⟨.pointer (some ⟨g1, ix, none⟩), X, by clear hs; go_simp, Below.refl _ _, rfl⟩⟩
                | 3, ho =>
                  obtain rfl : _ = o := Option.some.inj ho
                  obtain rfl : 75 = d := Option.some.inj hd
                  have g74 : a'.eval (.tmp 74) = .pointer (some ⟨g1, ix, none⟩) := hG ⟨2, .data⟩ (by simp) rfl 74 rfl
                  obtain ⟨ev, hev⟩ : ∃ ev, a'.eval = ev := ⟨_, rfl⟩
                  rw [hev] at g74 ⊢
                  clear hev hG hk
                  obtain ⟨q0, q1, q2, q3, q4, q5, q6⟩ := cW X hB
                  exact .inr ⟨rfl, .inl ⟨pv a, X, by clear hs; go_simp, Below.refl _ _, rfl⟩⟩
                | 4, ho =>
                  obtain rfl : _ = o := Option.some.inj ho
                  obtain rfl : 76 = d := Option.some.inj hd
                  have g6 : a'.eval (.tmp 6) = .slice (some ⟨g2, 0, none⟩) l2.length cap2 := hk 6 (by kernel_rfl)
                  obtain ⟨ev, hev⟩ : ∃ ev, a'.eval = ev := ⟨_, rfl⟩
                  rw [hev] at g6 ⊢
                  clear hev hG hk
                  obtain ⟨q0, q1, q2, q3, q4, q5, q6⟩ := cW X hB
                  exact .inr ⟨rfl, .inl ⟨.slice (some ⟨g2, 0, none⟩) l2.length cap2, X, by clear hs; go_simp, Below.refl _ _, rfl⟩⟩
                | 5, ho =>
                  obtain rfl : _ = o := Option.some.inj ho
                  obtain rfl : 77 = d := Option.some.inj hd
                  have g10 : a'.eval (.tmp 10) = .int .i64 ix := hk 10 (by kernel_rfl)
                  obtain ⟨ev, hev⟩ : ∃ ev, a'.eval = ev := ⟨_, rfl⟩
                  rw [hev] at g10 ⊢
                  clear hev hG hk
                  obtain ⟨q0, q1, q2, q3, q4, q5, q6⟩ := cW X hB
                  exact .inr ⟨rfl, .inl ⟨.int .i64 (ix : Int), X, by clear hs; go_simp, Below.refl _ _, rfl⟩⟩
                | 6, ho =>
                  obtain rfl : _ = o := Option.some.inj ho
                  obtain rfl : 78 = d := Option.some.inj hd
                  have g76 : a'.eval (.tmp 76) = .slice (some ⟨g2, 0, none⟩) l2.length cap2 := hG ⟨4, .data⟩ (by simp) rfl 76 rfl
                  have g77 : a'.eval (.tmp 77) = .int .i64 (ix : Int) := hG ⟨5, .data⟩ (by simp) rfl 77 rfl
                  obtain ⟨ev, hev⟩ : ∃ ev, a'.eval = ev := ⟨_, rfl⟩
                  rw [hev] at g76 g77 ⊢
                  clear hev hG hk
                  obtain ⟨q0, q1, q2, q3, q4, q5, q6⟩ := cW X hB
                  exact .inr ⟨rfl, .inl ⟨.pointer (some ⟨g2, ix, none⟩), X, by clear hs; go_simp, Below.refl _ _, rfl⟩⟩
                | 7, ho =>
                  obtain rfl : _ = o := Option.some.inj ho
                  obtain rfl : 79 = d := Option.some.inj hd
                  have g78 : a'.eval (.tmp 78) = .pointer (some ⟨g2, ix, none⟩) := hG ⟨6, .data⟩ (by simp) rfl 78 rfl
                  obtain ⟨ev, hev⟩ : ∃ ev, a'.eval = ev := ⟨_, rfl⟩
                  rw [hev] at g78 ⊢
                  clear hev hG hk
                  obtain ⟨q0, q1, q2, q3, q4, q5, q6⟩ := cW X hB
                  exact .inr ⟨rfl, .inl ⟨pv b, X, by clear hs; go_simp, Below.refl _ _, rfl⟩⟩
                | 8, ho =>
                  obtain rfl : _ = o := Option.some.inj ho
                  obtain rfl : 80 = d := Option.some.inj hd
                  have g12 : a'.eval (.tmp 12) = .pointer (some ⟨wy.heap.size, 0, none⟩) := hk 12 (by kernel_rfl)
                  obtain ⟨ev, hev⟩ : ∃ ev, a'.eval = ev := ⟨_, rfl⟩
                  rw [hev] at g12 ⊢
                  clear hev hG hk
                  obtain ⟨q0, q1, q2, q3, q4, q5, q6⟩ := cW X hB
                  exact .inr ⟨rfl, .inl ⟨.agg #[.int .i64 kd, .int .i64 th, .int .i64 sg, .int .i64 of, .int .i64 cd], X, by clear hs; go_simp, Below.refl _ _, rfl⟩⟩
                | 9, ho =>
                  obtain rfl : _ = o := Option.some.inj ho
                  obtain rfl : 81 = d := Option.some.inj hd
                  have g75 : a'.eval (.tmp 75) = pv a := hG ⟨3, .data⟩ (by simp) rfl 75 rfl
                  have g79 : a'.eval (.tmp 79) = pv b := hG ⟨7, .data⟩ (by simp) rfl 79 rfl
                  have g80 : a'.eval (.tmp 80) = .agg #[.int .i64 kd, .int .i64 th, .int .i64 sg, .int .i64 of, .int .i64 cd] := hG ⟨8, .data⟩ (by simp) rfl 80 rfl
                  refine .inr ⟨rfl, .inr ⟨13, #[pv a, pv b, .agg #[.int .i64 kd, .int .i64 th, .int .i64 sg, .int .i64 of, .int .i64 cd]], ?_, ?_⟩⟩
                  · have gF : a'.eval (.func 13) = .func (.func 13) #[] #[] := rfl
                    obtain ⟨ev, hev⟩ : ∃ ev, a'.eval = ev := ⟨_, rfl⟩
                    rw [hev] at gF g75 g79 g80 ⊢
                    exact exec_call3 rfl gF g75 g79 g80 (enters_of Try.func13 (by kernel_rfl) rfl)
                  exact (told_any X a b Fi Gi all al ra rl Ni (HPX.out X hB) (by omega) kd th sg of cd ith isg iof).mono fun e W' ⟨he, hb⟩ => ⟨_, he, hb, rfl⟩
                | 10, ho =>
                  obtain rfl : _ = o := Option.some.inj ho
                  obtain rfl : 82 = d := Option.some.inj hd
                  have g81 : a'.eval (.tmp 81) = .bool true := hG ⟨9, .data⟩ (by simp) rfl 81 rfl
                  obtain ⟨ev, hev⟩ : ∃ ev, a'.eval = ev := ⟨_, rfl⟩
                  rw [hev] at g81 ⊢
                  clear hev hG hk
                  obtain ⟨q0, q1, q2, q3, q4, q5, q6⟩ := cW X hB
                  exact .inr ⟨rfl, .inl ⟨.bool false, X, by clear hs; go_simp, Below.refl _ _, rfl⟩⟩
                | j + 11, ho => simp at ho
              · intro a' X hB hs hdf hk hG
                obtain ⟨tm, df⟩ := a'
                obtain rfl : df = [] := hdf
                have e0 : tm.getD 0 undef = .slice (some { block := gp, off := op }) ops.length cp := hk 0 (by kernel_rfl)
                have e1 : tm.getD 1 undef = undef := hk 1 (by kernel_rfl)
                have e2 : tm.getD 2 undef = u2 := hk 2 (by kernel_rfl)
                have e3 : tm.getD 3 undef = u3 := hk 3 (by kernel_rfl)
                have e4 : tm.getD 4 undef = .pointer (some ⟨qb, 0, none⟩) := hk 4 (by kernel_rfl)
                have e5 : tm.getD 5 undef = .slice (some ⟨g1, 0, none⟩) l1.length cap1 := hk 5 (by kernel_rfl)
                have e6 : tm.getD 6 undef = .slice (some ⟨g2, 0, none⟩) l2.length cap2 := hk 6 (by kernel_rfl)
                have e7 : tm.getD 7 undef = u7 := hk 7 (by kernel_rfl)
                have e8 : tm.getD 8 undef = u8 := hk 8 (by kernel_rfl)
                have e9 : tm.getD 9 undef = u9 := hk 9 (by kernel_rfl)
                have e10 : tm.getD 10 undef = .int .i64 ix := hk 10 (by kernel_rfl)
                have e11 : tm.getD 11 undef = undef := hk 11 (by kernel_rfl)
                have e12 : tm.getD 12 undef = .pointer (some ⟨wy.heap.size, 0, none⟩) := hk 12 (by kernel_rfl)
                have e13 : tm.getD 13 undef = .bool true := hk 13 (by kernel_rfl)
                have e14 : tm.getD 14 undef = .bool false := hk 14 (by kernel_rfl)
                have e15 : tm.getD 15 undef = pv rb0 := hk 15 (by kernel_rfl)
                have e16 : tm.getD 16 undef = .agg #[.slice none 0 0, .slice none 0 0] := hk 16 (by kernel_rfl)
                have e17 : tm.getD 17 undef = .pointer (some ⟨qb, 0, none⟩) := hk 17 (by kernel_rfl)
                have e18 : tm.getD 18 undef = .slice (some { block := gp, off := op }) ops.length cp := hk 18 (by kernel_rfl)
                have e19 : tm.getD 19 undef = .int .i64 ops.length := hk 19 (by kernel_rfl)
                have e20 : tm.getD 20 undef = u20 := hk 20 (by kernel_rfl)
                have e21 : tm.getD 21 undef = u21 := hk 21 (by kernel_rfl)
                have e22 : tm.getD 22 undef = u22 := hk 22 (by kernel_rfl)
                have e23 : tm.getD 23 undef = u23 := hk 23 (by kernel_rfl)
                have e24 : tm.getD 24 undef = u24 := hk 24 (by kernel_rfl)
                have e25 : tm.getD 25 undef = u25 := hk 25 (by kernel_rfl)
                have e26 : tm.getD 26 undef = u26 := hk 26 (by kernel_rfl)
                have e27 : tm.getD 27 undef = u27 := hk 27 (by kernel_rfl)
                have e28 : tm.getD 28 undef = u28 := hk 28 (by kernel_rfl)
                have e29 : tm.getD 29 undef = u29 := hk 29 (by kernel_rfl)
                have e30 : tm.getD 30 undef = u30 := hk 30 (by kernel_rfl)
                have e31 : tm.getD 31 undef = u31 := hk 31 (by kernel_rfl)
                have e32 : tm.getD 32 undef = u32 := hk 32 (by kernel_rfl)
                have e33 : tm.getD 33 undef = u33 := hk 33 (by kernel_rfl)
                have e34 : tm.getD 34 undef = u34 := hk 34 (by kernel_rfl)
                have e35 : tm.getD 35 undef = u35 := hk 35 (by kernel_rfl)
                have e36 : tm.getD 36 undef = u36 := hk 36 (by kernel_rfl)
                have e37 : tm.getD 37 undef = u37 := hk 37 (by kernel_rfl)
                have e38 : tm.getD 38 undef = u38 := hk 38 (by kernel_rfl)
                have e39 : tm.getD 39 undef = u39 := hk 39 (by kernel_rfl)
                have e40 : tm.getD 40 undef = u40 := hk 40 (by kernel_rfl)
                have e41 : tm.getD 41 undef = u41 := hk 41 (by kernel_rfl)
                have e42 : tm.getD 42 undef = u42 := hk 42 (by kernel_rfl)
                have e43 : tm.getD 43 undef = u43 := hk 43 (by kernel_rfl)
                have e44 : tm.getD 44 undef = u44 := hk 44 (by kernel_rfl)
                have e45 : tm.getD 45 undef = u45 := hk 45 (by kernel_rfl)
                have e46 : tm.getD 46 undef = u46 := hk 46 (by kernel_rfl)
                have e47 : tm.getD 47 undef = u47 := hk 47 (by kernel_rfl)
                have e48 : tm.getD 48 undef = u48 := hk 48 (by kernel_rfl)
                have e49 : tm.getD 49 undef = u49 := hk 49 (by kernel_rfl)
                have e50 : tm.getD 50 undef = u50 := hk 50 (by kernel_rfl)
                have e51 : tm.getD 51 undef = u51 := hk 51 (by kernel_rfl)
                have e52 : tm.getD 52 undef = u52 := hk 52 (by kernel_rfl)
                have e53 : tm.getD 53 undef = u53 := hk 53 (by kernel_rfl)
                have e54 : tm.getD 54 undef = u54 := hk 54 (by kernel_rfl)
                have e55 : tm.getD 55 undef = u55 := hk 55 (by kernel_rfl)
                have e56 : tm.getD 56 undef = u56 := hk 56 (by kernel_rfl)
                have e57 : tm.getD 57 undef = .slice (some ⟨g1, 0, none⟩) l1.length cap1 := hk 57 (by kernel_rfl)
                have e58 : tm.getD 58 undef = .int .i64 l1.length := hk 58 (by kernel_rfl)
                have e59 : tm.getD 59 undef = .int .i64 ix := hk 59 (by kernel_rfl)
                have e60 : tm.getD 60 undef = .bool true := hk 60 (by kernel_rfl)
                have e61 : tm.getD 61 undef = .int .i64 ix := hk 61 (by kernel_rfl)
                have e62 : tm.getD 62 undef = u62 := hk 62 (by kernel_rfl)
                have e63 : tm.getD 63 undef = u63 := hk 63 (by kernel_rfl)
                have e64 : tm.getD 64 undef = u64 := hk 64 (by kernel_rfl)
                have e65 : tm.getD 65 undef = u65 := hk 65 (by kernel_rfl)
                have e66 : tm.getD 66 undef = .slice (some { block := gp, off := op }) m cp := hk 66 (by kernel_rfl)
                have e67 : tm.getD 67 undef = .int .i64 m := hk 67 (by kernel_rfl)
                have e68 : tm.getD 68 undef = .int .i64 j := hk 68 (by kernel_rfl)
                have e69 : tm.getD 69 undef = .bool true := hk 69 (by kernel_rfl)
                have e70 : tm.getD 70 undef = .pointer (some { block := gp, off := op + j * 5 }) := hk 70 (by kernel_rfl)
                have e71 : tm.getD 71 undef = .agg #[.int .i64 kd, .int .i64 th, .int .i64 sg, .int .i64 of, .int .i64 cd] := hk 71 (by kernel_rfl)
                have e83 : tm.getD 83 undef = u83 := hk 83 (by kernel_rfl)
                have e84 : tm.getD 84 undef = u84 := hk 84 (by kernel_rfl)
                have g72 : (tm.getD 72 undef) = .slice (some ⟨g1, 0, none⟩) l1.length cap1 := hG 0 72 (by decide) rfl
                have g73 : (tm.getD 73 undef) = .int .i64 (ix : Int) := hG 1 73 (by decide) rfl
                have g74 : (tm.getD 74 undef) = .pointer (some ⟨g1, ix, none⟩) := hG 2 74 (by decide) rfl
                have g75 : (tm.getD 75 undef) = pv a := hG 3 75 (by decide) rfl
                have g76 : (tm.getD 76 undef) = .slice (some ⟨g2, 0, none⟩) l2.length cap2 := hG 4 76 (by decide) rfl
                have g77 : (tm.getD 77 undef) = .int .i64 (ix : Int) := hG 5 77 (by decide) rfl
                have g78 : (tm.getD 78 undef) = .pointer (some ⟨g2, ix, none⟩) := hG 6 78 (by decide) rfl
                have g79 : (tm.getD 79 undef) = pv b := hG 7 79 (by decide) rfl
                have g80 : (tm.getD 80 undef) = .agg #[.int .i64 kd, .int .i64 th, .int .i64 sg, .int .i64 of, .int .i64 cd] := hG 8 80 (by decide) rfl
                have g81 : (tm.getD 81 undef) = .bool true := hG 9 81 (by decide) rfl
                have g82 : (tm.getD 82 undef) = .bool false := hG 10 82 (by decide) rfl
                have htm := arr_of tm ((.slice (some { block := gp, off := op }) ops.length cp : Value) :: (undef : Value) :: (u2 : Value) :: (u3 : Value) :: (.pointer (some ⟨qb, 0, none⟩) : Value) :: (.slice (some ⟨g1, 0, none⟩) l1.length cap1 : Value) :: (.slice (some ⟨g2, 0, none⟩) l2.length cap2 : Value) :: (u7 : Value) :: (u8 : Value) :: (u9 : Value) :: (.int .i64 ix : Value) :: (undef : Value) :: (.pointer (some ⟨wy.heap.size, 0, none⟩) : Value) :: (.bool true : Value) :: (.bool false : Value) :: (pv rb0 : Value) :: (.agg #[.slice none 0 0, .slice none 0 0] : Value) :: (.pointer (some ⟨qb, 0, none⟩) : Value) :: (.slice (some { block := gp, off := op }) ops.length cp : Value) :: (.int .i64 ops.length : Value) :: (u20 : Value) :: (u21 : Value) :: (u22 : Value) :: (u23 : Value) :: (u24 : Value) :: (u25 : Value) :: (u26 : Value) :: (u27 : Value) :: (u28 : Value) :: (u29 : Value) :: (u30 : Value) :: (u31 : Value) :: (u32 : Value) :: (u33 : Value) :: (u34 : Value) :: (u35 : Value) :: (u36 : Value) :: (u37 : Value) :: (u38 : Value) :: (u39 : Value) :: (u40 : Value) :: (u41 : Value) :: (u42 : Value) :: (u43 : Value) :: (u44 : Value) :: (u45 : Value) :: (u46 : Value) :: (u47 : Value) :: (u48 : Value) :: (u49 : Value) :: (u50 : Value) :: (u51 : Value) :: (u52 : Value) :: (u53 : Value) :: (u54 : Value) :: (u55 : Value) :: (u56 : Value) :: (.slice (some ⟨g1, 0, none⟩) l1.length cap1 : Value) :: (.int .i64 l1.length : Value) :: (.int .i64 ix : Value) :: (.bool true : Value) :: (.int .i64 ix : Value) :: (u62 : Value) :: (u63 : Value) :: (u64 : Value) :: (u65 : Value) :: (.slice (some { block := gp, off := op }) m cp : Value) :: (.int .i64 m : Value) :: (.int .i64 j : Value) :: (.bool true : Value) :: (.pointer (some { block := gp, off := op + j * 5 }) : Value) :: (.agg #[.int .i64 kd, .int .i64 th, .int .i64 sg, .int .i64 of, .int .i64 cd] : Value) :: (tm.getD 72 undef : Value) :: (tm.getD 73 undef : Value) :: (tm.getD 74 undef : Value) :: (tm.getD 75 undef : Value) :: (tm.getD 76 undef : Value) :: (tm.getD 77 undef : Value) :: (tm.getD 78 undef : Value) :: (tm.getD 79 undef : Value) :: (tm.getD 80 undef : Value) :: (tm.getD 81 undef : Value) :: (tm.getD 82 undef : Value) :: (u83 : Value) :: (u84 : Value) :: []) hs (by show (tm.getD 0 undef :: tm.getD 1 undef :: tm.getD 2 undef :: tm.getD 3 undef :: tm.getD 4 undef :: tm.getD 5 undef :: tm.getD 6 undef :: tm.getD 7 undef :: tm.getD 8 undef :: tm.getD 9 undef :: tm.getD 10 undef :: tm.getD 11 undef :: tm.getD 12 undef :: tm.getD 13 undef :: tm.getD 14 undef :: tm.getD 15 undef :: tm.getD 16 undef :: tm.getD 17 undef :: tm.getD 18 undef :: tm.getD 19 undef :: tm.getD 20 undef :: tm.getD 21 undef :: tm.getD 22 undef :: tm.getD 23 undef :: tm.getD 24 undef :: tm.getD 25 undef :: tm.getD 26 undef :: tm.getD 27 undef :: tm.getD 28 undef :: tm.getD 29 undef :: tm.getD 30 undef :: tm.getD 31 undef :: tm.getD 32 undef :: tm.getD 33 undef :: tm.getD 34 undef :: tm.getD 35 undef :: tm.getD 36 undef :: tm.getD 37 undef :: tm.getD 38 undef :: tm.getD 39 undef :: tm.getD 40 undef :: tm.getD 41 undef :: tm.getD 42 undef :: tm.getD 43 undef :: tm.getD 44 undef :: tm.getD 45 undef :: tm.getD 46 undef :: tm.getD 47 undef :: tm.getD 48 undef :: tm.getD 49 undef :: tm.getD 50 undef :: tm.getD 51 undef :: tm.getD 52 undef :: tm.getD 53 undef :: tm.getD 54 undef :: tm.getD 55 undef :: tm.getD 56 undef :: tm.getD 57 undef :: tm.getD 58 undef :: tm.getD 59 undef :: tm.getD 60 undef :: tm.getD 61 undef :: tm.getD 62 undef :: tm.getD 63 undef :: tm.getD 64 undef :: tm.getD 65 undef :: tm.getD 66 undef :: tm.getD 67 undef :: tm.getD 68 undef :: tm.getD 69 undef :: tm.getD 70 undef :: tm.getD 71 undef :: tm.getD 72 undef :: tm.getD 73 undef :: tm.getD 74 undef :: tm.getD 75 undef :: tm.getD 76 undef :: tm.getD 77 undef :: tm.getD 78 undef :: tm.getD 79 undef :: tm.getD 80 undef :: tm.getD 81 undef :: tm.getD 82 undef :: tm.getD 83 undef :: tm.getD 84 undef :: []) = _; rw [e0, e1, e2, e3, e4, e5, e6, e7, e8, e9, e10, e11, e12, e13, e14, e15, e16, e17, e18, e19, e20, e21, e22, e23, e24, e25, e26, e27, e28, e29, e30, e31, e32, e33, e34, e35, e36, e37, e38, e39, e40, e41, e42, e43, e44, e45, e46, e47, e48, e49, e50, e51, e52, e53, e54, e55, e56, e57, e58, e59, e60, e61, e62, e63, e64, e65, e66, e67, e68, e69, e70, e71, e83, e84]; try rfl)
                clear hs hk hG e0 e1 e2 e3 e4 e5 e6 e7 e8 e9 e10 e11 e12 e13 e14 e15 e16 e17 e18 e19 e20 e21 e22 e23 e24 e25 e26 e27 e28 e29 e30 e31 e32 e33 e34 e35 e36 e37 e38 e39 e40 e41 e42 e43 e44 e45 e46 e47 e48 e49 e50 e51 e52 e53 e54 e55 e56 e57 e58 e59 e60 e61 e62 e63 e64 e65 e66 e67 e68 e69 e70 e71 e83 e84
                generalize tm.getD 72 undef = t72 at htm g72
                generalize tm.getD 73 undef = t73 at htm g73
                generalize tm.getD 74 undef = t74 at htm g74
                generalize tm.getD 75 undef = t75 at htm g75
                generalize tm.getD 76 undef = t76 at htm g76
                generalize tm.getD 77 undef = t77 at htm g77
                generalize tm.getD 78 undef = t78 at htm g78
                generalize tm.getD 79 undef = t79 at htm g79
                generalize tm.getD 80 undef = t80 at htm g80
                generalize tm.getD 81 undef = t81 at htm g81
                generalize tm.getD 82 undef = t82 at htm g82
                subst htm
                subst g72
                subst g73
                subst g74
                subst g75
                subst g76
                subst g77
                subst g78
                subst g79
                subst g80
                subst g81
                subst g82
                simp only [List.drop_succ_cons, List.drop_zero]
                have HB := Lib.hid hB
                clear hB
                go_wp2_with fail
                go_roundw
                case rel => exact ⟨j + 1, by go_num, by omega, HBC.out.trans (HB.out.mono HBC.out.size)⟩
                case measure => simp [RowKit.intOf]; omega
            · obtain rfl : j = m := by omega
              have hjj : ¬ (j : Int) < (j : Int) := by omega
              have HBX := Lib.hid hbx
              clear hbx
              go_wp2_with fail
              go_roundw
              case rel => exact ⟨ix + 1, by go_num, by omega, HBX.out⟩
              case measure => simp [RowKit.intOf]; omega
      · obtain rfl : ix = l1.length := by omega
        have hii : ¬ (l1.length : Int) < (l1.length : Int) := by omega
        have HBW := Lib.hid hbw
        clear hbw
        go_wp2_with fail
        go_ret
        exact ⟨rfl, HST.out.bel.trans (HBW.out.mono HST.out.bel.size)⟩
end Go.Proofs.Ythknnmllibdggaa
