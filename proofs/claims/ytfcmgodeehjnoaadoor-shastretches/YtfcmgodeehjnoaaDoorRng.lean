/- Cells that lie in a row in memory and may be written: what becomes of them. -/
import Derived.Test.YtfcmgodeehjnoaaDoorBase
import Derived.Deep.MidRow
import Derived.Lib.LazyBuf
namespace Go.Proofs.YtfcmgodeehjnoaaDoor
open Go.RowKit Go.Sort
/-- The cells lie in block b from o on, and may be written. -/
structure At (w : World) (b o : Nat) (cs : List Value) : Prop where
  rng : w.rangeAt b o cs
  fz : ∀ j, j < cs.length → w.frozen? ⟨b, o + j, none⟩ = false
theorem At.cell {w : World} {b o : Nat} {cs : List Value} (h : At w b o cs) {j : Nat} {v : Value} (hv : cs[j]? = some v) : w.cell? ⟨b, o + j, none⟩ = some v := h.rng j v hv
theorem At.there {w : World} {b o : Nat} {cs : List Value} (h : At w b o cs) : w.there b o cs.length := fun j hj =>
  ⟨by rw [h.cell (List.getElem?_eq_getElem hj)]; rfl, h.fz j hj⟩
theorem At.lt {w : World} {b o : Nat} {cs : List Value} (h : At w b o cs) (hc : 0 < cs.length) : b < w.heap.size := by
  have := h.cell (List.getElem?_eq_getElem hc)
  exact World.block_lt_of_cell? w _ this
theorem At.of_block {w w' : World} {b o : Nat} {cs : List Value} (h : At w b o cs) (hb : w'.heap[b]? = w.heap[b]?) : At w' b o cs where
  rng := fun j v hv => by have := h.rng j v hv; simp only [World.cell?, hb] at this ⊢; exact this
  fz := fun j hj => by have := h.fz j hj; simp only [World.frozen?, hb] at this ⊢; exact this
theorem At.below {w w' : World} {B b o : Nat} {cs : List Value} (h : At w b o cs) (hb : Below B w w') (hB : b < B) : At w' b o cs := h.of_block (hb.block b hB)
theorem At.drewN {w : World} {b o : Nat} {cs : List Value} (h : At w b o cs) (n : Nat) : At (w.drewN n) b o cs := h.of_block rfl
theorem At.new (w : World) (cs : Array Value) (t : TypeId) : At (w.alloc (.cells cs t)) w.heap.size 0 cs.toList where
  rng := fun j v hv => by simp only [World.cell?, heap_alloc_new]; simpa using hv
  fz := fun j _ => by
    have h : (w.alloc (.cells cs t)).heap[w.heap.size]? = some (.cells cs t) := heap_alloc_new _ _
    simp only [World.frozen?, h]; simp
theorem one_new (w : World) (X : Array Value) (t : TypeId) : ∃ W, w.alloc (.cells X t) = W ∧ Below w.heap.size w W ∧ At W w.heap.size 0 X.toList ∧ W.heap.size = w.heap.size + 1 :=
  ⟨_, rfl, (Below.refl _ _).alloc (Nat.le_refl _) _, At.new w X t, by simp⟩
theorem two_new (w : World) (X Y : Array Value) (t u : TypeId) : ∃ W, (w.alloc (.cells X t)).alloc (.cells Y u) = W ∧ Below w.heap.size w W ∧ At W w.heap.size 0 X.toList ∧ At W (w.heap.size + 1) 0 Y.toList ∧ W.heap.size = w.heap.size + 2 := by
  obtain ⟨W, hW, hb, hX, hs⟩ := one_new w X t
  obtain ⟨V, hV, hb2, hY, hs2⟩ := one_new W Y u
  refine ⟨V, by rw [hW, hV], hb.trans (hb2.mono (by omega)), hX.below hb2 (by omega), by rw [← hs]; exact hY, by omega⟩
theorem At.other {w : World} {b o b' o' : Nat} {cs : List Value} (h : At w b o cs) (vs : List Value) (hap : b ≠ b' ∨ o + cs.length ≤ o' ∨ o' + vs.length ≤ o) : At (w.setCells b' o' vs) b o cs where
  rng := World.rangeAt_setCells_apart h.rng b' o' vs hap
  fz := fun j hj => by rw [World.frozen?_setCells]; exact h.fz j hj
/-- What was written into the middle. -/
theorem At.sets {w : World} {b o i : Nat} {cs : List Value} (h : At w b o cs) (vs : List Value) (hi : i + vs.length ≤ cs.length) : At (w.setCells b (o + i) vs) b o (cs.take i ++ vs ++ cs.drop (i + vs.length)) where
  rng := fun j v hv => by
    by_cases h1 : j < i
    · rw [List.getElem?_append_left (by simp; omega), List.getElem?_append_left (by simp; omega), List.getElem?_take_of_lt h1] at hv
      rw [World.cell?_setCells_out b vs (o + i) w ⟨b, o + j, none⟩ (fun _ _ => .inl (by show o + j < o + i; omega))]
      exact h.rng j v hv
    · by_cases h2 : j < i + vs.length
      · rw [List.getElem?_append_left (by simp; omega), List.getElem?_append_right (by simp; omega)] at hv
        have h3 := World.rangeAt_setCells_same w b (o + i) vs (fun k hk => by
          have := h.there (i + k) (by omega)
          rw [← Nat.add_assoc] at this; exact this) (j - i) v (by rw [List.length_take, Nat.min_eq_left (by omega)] at hv; exact hv)
        rw [show o + i + (j - i) = o + j from by omega] at h3
        exact h3
      · rw [List.getElem?_append_right (by simp; omega), List.getElem?_drop] at hv
        rw [World.cell?_setCells_out b vs (o + i) w ⟨b, o + j, none⟩ (fun _ _ => .inr (by show o + i + vs.length ≤ o + j; omega))]
        refine h.rng j v ?_
        rw [← hv]; congr 1
        simp only [List.length_append, List.length_take]
        omega
  fz := fun j hj => by
    rw [World.frozen?_setCells]
    refine h.fz j ?_
    simp only [List.length_append, List.length_take, List.length_drop] at hj
    omega
theorem setCell_one (w : World) (b o : Nat) (v : Value) : w.setCell ⟨b, o, none⟩ v = w.setCells b o [v] := rfl
theorem At.set {w : World} {b o : Nat} {cs : List Value} (h : At w b o cs) (j : Nat) (v : Value) (hj : j < cs.length) : At (w.setCell ⟨b, o + j, none⟩ v) b o (cs.set j v) := by
  have := h.sets (i := j) [v] (by simp; omega)
  rw [setCell_one]
  rw [List.set_eq_take_append_cons_drop, if_pos hj]
  simpa using this
theorem At.otherCell {w : World} {b o b' o' : Nat} {cs : List Value} (h : At w b o cs) (v : Value) (hap : b ≠ b' ∨ o + cs.length ≤ o' ∨ o' + 1 ≤ o) : At (w.setCell ⟨b', o', none⟩ v) b o cs := h.other [v] hap
theorem At.part {w : World} {b o : Nat} {cs : List Value} (h : At w b o cs) (i n : Nat) : At w b (o + i) ((cs.drop i).take n) where
  rng := fun j v hv => by
    rw [Nat.add_assoc]
    refine h.rng (i + j) v ?_
    rw [List.getElem?_take] at hv
    split at hv
    · rw [List.getElem?_drop] at hv; exact hv
    · cases hv
  fz := fun j hj => by
    rw [Nat.add_assoc]
    refine h.fz (i + j) ?_
    simp only [List.length_take, List.length_drop] at hj
    omega
/-- One block has turned, and what is new; all else is as it was. -/
structure Oth (b : Nat) (w w' : World) : Prop where
  os : w'.os = w.os
  tape : w'.tape = w.tape
  output : w'.output = w.output
  size : w.heap.size ≤ w'.heap.size
  block : ∀ k, k < w.heap.size → k ≠ b → w'.heap[k]? = w.heap[k]?
theorem Oth.refl (b : Nat) (w : World) : Oth b w w := ⟨rfl, rfl, rfl, Nat.le_refl _, fun _ _ _ => rfl⟩
theorem Oth.trans {b : Nat} {w w' w'' : World} (h : Oth b w w') (g : Oth b w' w'') : Oth b w w'' :=
  ⟨g.os.trans h.os, g.tape.trans h.tape, g.output.trans h.output, Nat.le_trans h.size g.size, fun k hk hn => (g.block k (Nat.lt_of_lt_of_le hk h.size) hn).trans (h.block k hk hn)⟩
theorem Oth.of_below {b : Nat} {w w' : World} (h : Below w.heap.size w w') : Oth b w w' := ⟨h.os, h.tape, h.output, h.size, fun k hk _ => h.block k hk⟩
theorem Oth.setCells (b o : Nat) (w : World) (vs : List Value) : Oth b w (w.setCells b o vs) := by
  induction vs generalizing o w with
  | nil => exact Oth.refl _ _
  | cons v vs ih =>
    have h : Oth b w (w.setCell ⟨b, o, none⟩ v) := ⟨rfl, rfl, rfl, by simp, fun k _ hn => Below.heap_setCell w ⟨b, o, none⟩ v k hn⟩
    exact h.trans (ih (o + 1) (w.setCell ⟨b, o, none⟩ v))
theorem Oth.setCell (b o : Nat) (w : World) (v : Value) : Oth b w (w.setCell ⟨b, o, none⟩ v) := Oth.setCells b o w [v]
theorem Oth.drewN (b : Nat) (w : World) (n : Nat) : Oth b w (w.drewN n) := ⟨rfl, rfl, rfl, Nat.le_refl _, fun _ _ _ => rfl⟩
theorem Oth.below {b B : Nat} {w0 w w' : World} (h : Oth b w w') (h0 : Below B w0 w) (hB : B ≤ b) (hB0 : B ≤ w0.heap.size) : Below B w0 w' :=
  ⟨h.os.trans h0.os, h.tape.trans h0.tape, h.output.trans h0.output, Nat.le_trans h0.size h.size, fun k hk => (h.block k (Nat.lt_of_lt_of_le hk (Nat.le_trans hB0 h0.size)) (by omega)).trans (h0.block k hk)⟩
theorem At.oth {w w' : World} {b b' o : Nat} {cs : List Value} (h : At w b o cs) (hb : Oth b' w w') (hn : b ≠ b') (hl : 0 < cs.length) : At w' b o cs := h.of_block (hb.block b (h.lt hl) hn)
theorem wpList_store_new {P : Program} {ops : Array Oper} {rest : List Oper} {o : Oper} {a : Act} {Q : Exit → Act → World → Prop} (w : World) (Z : Array Value) (t : TypeId) (hgd : o.guard = none) (ty : TypeId) (x y : Operand) (ho : o.op = .store ty x y)
    (cs : List Value) (hx : a.eval x = .pointer (some ⟨w.heap.size, 0, none⟩)) (hy : a.eval y = .agg cs.toArray) (hZ : Z.size = cs.length) (hi : (P.info? ty).map (·.size) = some cs.length) (h1 : ∀ v ∈ cs, v.oneCell' = true)
    (h : ∀ W, Below w.heap.size w W → At W w.heap.size 0 cs → W.heap.size = w.heap.size + 1 → wpList P ops Q rest (a.put o.dst undef) W) : wpList P ops Q (o :: rest) a (w.alloc (.cells Z t)) := by
  obtain ⟨V, hV, hb, hA, hs⟩ := one_new w Z t
  rw [hV]
  have hl : Z.toList.length = cs.length := by rw [Array.length_toList]; exact hZ
  have ht : V.there w.heap.size 0 cs.length := by rw [← hl]; exact hA.there
  refine wpList_store_mid hgd ty x y ho w.heap.size 0 cs.toArray hx hy (by rw [List.size_toArray]; exact ht) (by rw [List.size_toArray]; exact hi) (all_oneCell_toArray h1) ?_
  refine h _ ((Oth.setCells _ _ _ _).below hb (Nat.le_refl _) (Nat.le_refl _)) ?_ ?_
  · have := hA.sets (i := 0) cs (by omega)
    rw [Nat.zero_add, Nat.zero_add, List.take_zero, List.nil_append, ← hl, List.drop_length, List.append_nil] at this
    exact this
  · rw [← hs]
    have : ∀ (vs : List Value) (o : Nat) (W : World), (W.setCells w.heap.size o vs).heap.size = W.heap.size := by
      intro vs
      induction vs with
      | nil => intro o W; rfl
      | cons v vs ih => intro o W; show ((W.setCell _ v).setCells w.heap.size (o + 1) vs).heap.size = _; rw [ih]; simp
    exact this _ _ _
theorem results_cell_mid {P : Program} {fn : Func} {p : Tmp} {ty : TypeId} (h : fn.results = #[.cell p ty]) (tmps : Array Value) (w : World) (b o : Nat) (cs : List Value) (d : TypeDesc)
    (hp : tmps.getD p undef = .pointer (some ⟨b, o, none⟩)) (hc : w.rangeAt b o cs) (hu : P.underlying ty = some d) (hd : d.isRow = true) (hi : (P.info? ty).map (·.size) = some cs.length) :
    (results fn tmps).run P w = .ok (.agg cs.toArray) w := by
  have hp' : tmps[p]?.getD undef = .pointer (some ⟨b, o, none⟩) := by simpa using hp
  simp [results, h, hp', asAddr, run_loadVar_mid w b o ty cs d hc hu hd hi]
end Go.Proofs.YtfcmgodeehjnoaaDoor
