/- The copy of rooms under way. -/
import Derived.Test.YthknnmllibdggaaCopyB
namespace Go.Proofs.Ythknnmllibdggaa
open Go.RowKit Go.Sort
/-- Those of a segment. -/
def fsg (s : Int) (l : List Who) : List Who := l.filter fun x => x.2.1 == s
theorem inS_ab (s : Int) (l : List Wt) : (inS s l).map ab = fsg s (l.map ab) := by unfold inS fsg; rw [List.filter_map]; rfl
theorem MAt.uniq {w : World} {t : TypeId} {m n n' : Nat} {f f' : Lit → Option Nat} (h : MAt w t m n f) (h' : MAt w t m n' f') : n = n' := by
  obtain ⟨D, ⟨es, c, hb, _, _, hD⟩, h2, _⟩ := h
  obtain ⟨D', ⟨es', c', hb', _, _, hD'⟩, h2', _⟩ := h'
  rw [hb] at hb'
  cases hb'
  rw [← h2, ← h2', hD, hD']
/-- Rooms R1 that grew out of the rooms R0 of the world W0. -/
structure CI (W0 : World) (R0 : Rm) (W : World) (R1 : Rm) (all : List Who) (al : Int → List Int) (N : Nat) : Prop where
  rm : RmAt W R1
  neat : Neat W R1
  ms : R1.m0 = R0.m0 ∧ R1.m1 = R0.m1 ∧ R1.m2 = R0.m2 ∧ R1.m3 = R0.m3
  rb : R1.rb = R0.rb
  alls : R1.all.map ab = all
  als : ∀ t, (R1.al t).map (·.c) = al t
  N : R1.N ≤ N
  fm : Fm W0 W (fun k => R0.own k ≠ none)
  own : ∀ k, R1.own k ≠ none → R0.own k ≠ none ∨ W0.heap.size ≤ k
section
variable {W0 W W' : World} {R R0 R1 : Rm} {all : List Who} {al : Int → List Int} {N : Nat}
theorem CI.start (h : RmAt W0 R0) (hn : Neat W0 R0) (hal : ∀ t, (R0.al t).map (·.c) = al t) (hN : R0.N ≤ N) : CI W0 R0 W0 R0 (R0.all.map ab) al N :=
  ⟨h, hn, ⟨rfl, rfl, rfl, rfl⟩, rfl, rfl, hal, hN, Fm.refl _ _, fun _ h => .inl h⟩
/-- None of the four maps is as new as the loop. -/
theorem CI.lts (h : CI W0 R0 W R1 all al N) (h0 : RmAt W0 R0) : R1.m0 < W0.heap.size ∧ R1.m1 < W0.heap.size ∧ R1.m2 < W0.heap.size ∧ R1.m3 < W0.heap.size := by
  obtain ⟨e0, e1, e2, e3⟩ := h.ms
  rw [e0, e1, e2, e3]
  exact ⟨h0.mw.lt, h0.mp.elim fun _ h => h.2.lt, h0.ms.elim fun _ h => h.2.lt, h0.ma.elim fun _ h => h.2.lt⟩
theorem CI.isCells (h : CI W0 R0 W R1 all al N) (h0 : RmAt W0 R0) {k : Nat} (hk : R1.own k ≠ none) (hl : W0.heap.size ≤ k) : ∃ c t f, W.heap[k]? = some (.cells c t f) := by
  obtain ⟨l0, l1, l2, l3⟩ := h.lts h0
  rcases h.neat k hk with (e | e | e | e) | hc
  · omega
  · omega
  · omega
  · omega
  · exact hc
theorem CI.turn (h : CI W0 R0 W R1 all al N) (h0 : RmAt W0 R0) {row : Option Nat} (hg : W.grownBy W' row) (hr : ∀ r, row = some r → W0.heap.size ≤ r ∧ ∃ o : Obj, W.heap[r]? = some o ∧ o.isCells = false) : CI W0 R0 W' R1 all al N := by
  have hs : ∀ k, R1.own k ≠ none → W'.heap[k]? = W.heap[k]? := fun k hk => hg.block k (h.rm.lt k hk) (fun e => by
    obtain ⟨h1, o, h2, h3⟩ := hr k e.symm
    obtain ⟨c, t, f, hc⟩ := h.isCells h0 hk h1
    rw [h2] at hc; cases hc; cases h3)
  refine ⟨h.rm.same hg.size hs, fun k hk => (h.neat k hk).imp id (fun ⟨c, t, f, hc⟩ => ⟨c, t, f, (hs k hk).trans hc⟩), h.ms, h.rb, h.alls, h.als, h.N, ⟨hg.os.trans h.fm.os, hg.tape.trans h.fm.tape, hg.output.trans h.fm.output, Nat.le_trans h.fm.size hg.size, fun k hk hn => ?_⟩, h.own⟩
  have hz := h.fm.size
  exact (hg.block k (by omega) (fun e => by have := (hr k e.symm).1; omega)).trans (h.fm.same k hk hn)
theorem CI.ownFrom {β : Type} (h0 : RmAt W0 R0) (fa : β → List Who) (fl : β → Int → List Int) (fN : β → Nat) : OwnFrom W0.heap.size (fun (s : β) W => ∃ R1, CI W0 R0 W R1 (fa s) (fl s) (fN s)) :=
  fun _ _ _ _ ⟨R1, h⟩ hg hr => ⟨R1, h.turn h0 hg hr⟩
/-- What a step of the rooms leaves as it is. -/
theorem CI.keeps (h : CI W0 R0 W R1 all al N) (h0 : RmAt W0 R0) (hF : Fm W W' (fun k => R1.own k ≠ none)) : KeepsFrom W0.heap.size W W' ∧ ∀ k, k < W0.heap.size → R0.own k = none → W'.heap[k]? = W.heap[k]? := by
  refine ⟨⟨hF.size, fun k o hB hk ho => (hF.same k (heap_lt hk) (fun hn => ?_)).trans hk⟩, fun k hk hn => hF.same k (Nat.lt_of_lt_of_le hk h.fm.size) (fun ho => ?_)⟩
  · obtain ⟨c, t, f, hc⟩ := h.isCells h0 hn hB
    rw [hk] at hc; cases hc; cases ho
  · rcases h.own k ho with h1 | h1
    · exact h1 hn
    · omega
/-- A state behind a step, made neat. -/
theorem CI.next (h : CI W0 R0 W R1 all al N) {R2 : Rm} {all' : List Who} {al' : Int → List Int} {N' : Nat} (h2 : RmAt W' R2) (ms : R2.m0 = R1.m0 ∧ R2.m1 = R1.m1 ∧ R2.m2 = R1.m2 ∧ R2.m3 = R1.m3) (rb : R2.rb = R1.rb) (ha : R2.all.map ab = all') (hl : ∀ t, (R2.al t).map (·.c) = al' t) (hN : R2.N ≤ N')
    (hF : Fm W W' (fun k => R1.own k ≠ none)) (ho : ∀ k, R2.own k ≠ none → R1.own k ≠ none ∨ W.heap.size ≤ k) : ∃ R3, CI W0 R0 W' R3 all' al' N' := by
  obtain ⟨own, hr, hn, hs⟩ := h2.neat
  obtain ⟨a0, a1, a2, a3⟩ := h.ms
  obtain ⟨b0, b1, b2, b3⟩ := ms
  have hz := h.fm.size
  refine ⟨_, hr, hn, ⟨b0.trans a0, b1.trans a1, b2.trans a2, b3.trans a3⟩, rb.trans h.rb, ha, hl, hN, h.fm.trans hF (fun _ _ h => h) (fun k hk hk1 => ?_), fun k hk => ?_⟩
  · rcases h.own k hk1 with h1 | h1
    · exact h1
    · omega
  · rcases ho k (hs k hk) with h1 | h1
    · exact h.own k h1
    · exact .inr (by omega)
end
/-- The marks that a function's loops over iterators have left. -/
def mark (D : Nat) : Deferred := { target := .collected D, args := #[] }
def Mk (w W : World) (ds : List Deferred) : Prop := ∃ Ds : List Nat, ds = Ds.map mark ∧ Ds.Nodup ∧ ∀ D ∈ Ds, w.heap.size ≤ D ∧ W.heap[D]? = some (.deferred (some []))
theorem Mk.same {w W W' : World} {ds : List Deferred} (h : Mk w W ds) (hs : ∀ D : Nat, W.heap[D]? = some (.deferred (some [])) → W'.heap[D]? = W.heap[D]?) : Mk w W' ds := by
  obtain ⟨Ds, h1, h2, h3⟩ := h
  exact ⟨Ds, h1, h2, fun D hD => ⟨(h3 D hD).1, (hs D (h3 D hD).2).trans (h3 D hD).2⟩⟩
theorem Mk.cons {w W W0 : World} {ds : List Deferred} (h : Mk w W0 ds) (hs : ∀ D : Nat, W0.heap[D]? = some (.deferred (some [])) → W.heap[D]? = W0.heap[D]?) (hw : w.heap.size ≤ W0.heap.size) (hD : W.heap[W0.heap.size]? = some (.deferred (some []))) : Mk w W (mark W0.heap.size :: ds) := by
  obtain ⟨Ds, h1, h2, h3⟩ := h
  refine ⟨W0.heap.size :: Ds, by rw [h1]; rfl, List.nodup_cons.2 ⟨fun hm => ?_, h2⟩, fun D hm => ?_⟩
  · have := heap_lt (h3 _ hm).2; omega
  · rcases List.mem_cons.1 hm with rfl | hm
    · exact ⟨hw, hD⟩
    · exact ⟨(h3 D hm).1, (hs D (h3 D hm).2).trans (h3 D hm).2⟩
/-- The function's return goes through the marks; nothing but their blocks turns. -/
theorem leaves_marks {F : Fence} {n : Nat} {P : Program} {fn : Func} {tmps : Array Value} {Q : Ending → World → Prop} : ∀ (Ds : List Nat) (W : World), Ds.Nodup → (∀ D ∈ Ds, W.heap[D]? = some (.deferred (some []))) →
    (∀ W', W'.os = W.os → W'.tape = W.tape → W'.output = W.output → W'.heap.size = W.heap.size → (∀ k, k ∉ Ds → W'.heap[k]? = W.heap[k]?) → LeavesInM F n P fn tmps Q [] .returning W') → LeavesInM F n P fn tmps Q (Ds.map mark) .returning W
  | [], W, _, _, h => h W rfl rfl rfl rfl (fun _ _ => rfl)
  | D :: Ds, W, hn, hd, h => by
    obtain ⟨h1, h2⟩ := List.nodup_cons.1 hn
    refine ⟨by simp, .inl ⟨D, _, rfl, run_takeDeferred (hd D (by simp)), ?_⟩⟩
    refine leaves_marks Ds _ h2 (fun D' hD' => ?_) (fun W' e1 e2 e3 e4 hs => ?_)
    · rw [putObj_ne _ _ _ (fun e : D' = D => h1 (e ▸ hD'))]; exact hd D' (by simp [hD'])
    · refine h W' e1 e2 e3 (e4.trans (by simp [World.putObj])) (fun k hk => ?_)
      have hk' : k ≠ D ∧ k ∉ Ds := ⟨fun e => hk (by simp [e]), fun e => hk (by simp [e])⟩
      rw [hs k hk'.2, putObj_ne _ _ _ hk'.1]
/-- The copy under way, between two rounds. -/
structure CB (w : World) (b3 : Nat) (W : World) (R0 : Rm) (N : Nat) (ds : List Deferred) : Prop where
  rm : RmAt W R0
  neat : Neat W R0
  box : Boxed W b3 24 (pv R0.rb)
  nb : R0.own b3 = none
  lo : ∀ k, R0.own k ≠ none → w.heap.size ≤ k
  lb : w.heap.size ≤ b3
  bel : Below w.heap.size w W
  N : R0.N ≤ N
  mks : Mk w W ds
section
variable {w W W' : World} {b3 N : Nat} {R R0 R1 : Rm} {ds : List Deferred}
theorem CB.grow (h : CB w b3 W R0 N ds) (hb : Below W.heap.size W W') : CB w b3 W' R0 N ds :=
  ⟨h.rm.below hb, fun k hk => (h.neat k hk).imp id (fun ⟨c, t, f, hc⟩ => ⟨c, t, f, (hb.block k (heap_lt hc)).trans hc⟩), (hb.block _ h.box.lt).trans h.box, h.nb, h.lo, h.lb, h.bel.trans (hb.mono h.bel.size), h.N, h.mks.same (fun D hD => hb.block D (heap_lt hD))⟩
/-- A block that is neither cells nor a map turns. -/
theorem CB.turn (h : CB w b3 W R0 N ds) {r : Nat} {o : Obj} (hr : W.heap[r]? = some o) (h1 : o.isCells = false) (h2 : ∀ es c, o ≠ .map es c) (h3 : ∀ x, o ≠ .deferred x) (hw : w.heap.size ≤ r) (hF : Fm W W' (fun k => k = r)) : CB w b3 W' R0 N ds := by
  have hno := h.neat.other h.rm hr h1 h2
  have hs : ∀ k, R0.own k ≠ none → W'.heap[k]? = W.heap[k]? := fun k hk => hF.same k (h.rm.lt k hk) (fun e => hk (e ▸ hno))
  have hz := h.bel.size
  refine ⟨h.rm.same hF.size hs, fun k hk => (h.neat k hk).imp id (fun ⟨c, t, f, hc⟩ => ⟨c, t, f, (hs k hk).trans hc⟩), ?_, h.nb, h.lo, h.lb, h.bel.trans (hF.below hz (fun k hk e => by omega)), h.N, h.mks.same (fun D hD => hF.same D (heap_lt hD) (fun e => ?_))⟩
  · refine (hF.same _ h.box.lt (fun e => ?_)).trans h.box
    have hb := h.box
    unfold Boxed at hb
    rw [e, hr] at hb; cases hb; cases h1
  · rw [e, hr] at hD; cases hD; exact h3 _ rfl
/-- Behind a loop over an iterator. -/
theorem CB.loop (h : CB w b3 W R0 N ds) {all : List Who} {al : Int → List Int} {N' : Nat} (hc : CI W R0 W' R1 all al N') (hD : W'.heap[W.heap.size]? = some (.deferred (some []))) : CB w b3 W' R1 N' (mark W.heap.size :: ds) := by
  have hz := h.bel.size
  have hk : ∀ k, k < W.heap.size → R0.own k = none → W'.heap[k]? = W.heap[k]? := fun k h1 h2 => hc.fm.same k h1 (fun e => e h2)
  refine ⟨hc.rm, hc.neat, ?_, ?_, fun k hk => ?_, h.lb, h.bel.trans (hc.fm.below hz (fun k hk e => by have := h.lo k e; omega)), hc.N, h.mks.cons (fun D hD => hk D (heap_lt hD) (h.neat.other h.rm hD rfl (fun _ _ e => by cases e))) hz hD⟩
  · rw [hc.rb]; exact (hk _ h.box.lt h.nb).trans h.box
  · cases e : R1.own b3 with
    | none => rfl
    | some g =>
      rcases hc.own b3 (by rw [e]; simp) with h1 | h1
      · exact absurd h.nb h1
      · have := h.box.lt; omega
  · rcases hc.own k hk with h1 | h1
    · exact h.lo k h1
    · omega
theorem CB.mr (h : CB w b3 W R0 N ds) {all : List Who} {al : Int → List Int} {N' m r cnt : Nat} {f : Lit → Option Nat} {left : Int → Bool} (hc : CI W R0 W' R1 all al N') (hm : MR W m r f left cnt) (hml : m < w.heap.size) : MR W' m r f left cnt := by
  have hz := h.bel.size
  obtain ⟨a, b, c, d, hi⟩ := hm.iter
  refine hm.same (hc.fm.same m (by omega) (fun e => ?_)) (hc.fm.same r (heap_lt hi) (fun e => e (h.neat.other h.rm hi rfl (fun _ _ e => by cases e))))
  have := h.lo m e; omega
end
end Go.Proofs.Ythknnmllibdggaa
