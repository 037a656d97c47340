/- A row of numbers of one's own that may begin anywhere in its block: append, and cutting off the first. -/
import Derived.Test.YthknnmllibdggaaLawB
namespace Go.Proofs.Ythknnmllibdggaa
open Go.RowKit Go.Sort
def IRow (w : World) (base : Nat) (v : Value) (l : List Int) : Prop :=
  (v = .slice none 0 0 ∧ l = []) ∨ ∃ g o cap cur, v = .slice (some ⟨g, o, none⟩) l.length cap ∧ base ≤ g ∧ w.heap[g]? = some (.cells cur 3 (0, 0)) ∧ l.length ≤ cap ∧ o + cap ≤ cur.size ∧ ∀ k (h : k < l.length), cur[o + k]? = some (.int .i64 l[k])
section
variable {w w' : World} {base : Nat} {v : Value} {l : List Int}
theorem IRow.lt (h : IRow w base v l) : ∀ k, v.ownBlock = some k → base ≤ k ∧ k < w.heap.size := by
  intro k hk
  rcases h with ⟨rfl, _⟩ | ⟨g, o, cap, cur, rfl, hb, hg, _⟩
  · simp [Value.ownBlock] at hk
  · simp [Value.ownBlock] at hk
    subst hk
    exact ⟨hb, heap_lt hg⟩
theorem IRow.same (h : IRow w base v l) (hs : ∀ k, v.ownBlock = some k → w'.heap[k]? = w.heap[k]?) : IRow w' base v l := by
  rcases h with h | ⟨g, o, cap, cur, rfl, hb, hg, r⟩
  · exact .inl h
  · exact .inr ⟨g, o, cap, cur, rfl, hb, (hs g rfl).trans hg, r⟩
theorem IRow.form (h : IRow w base v l) : ∃ p cap, v = .slice p l.length cap ∧ l.length ≤ cap := by
  rcases h with ⟨rfl, rfl⟩ | ⟨g, o, cap, cur, rfl, _, _, h, _⟩
  · exact ⟨none, 0, rfl, Nat.le_refl _⟩
  · exact ⟨_, cap, rfl, h⟩
theorem IRow.ints {p : Option Addr} {cap : Nat} (h : IRow w base (.slice p l.length cap) l) : IntsAt w p l := by
  intro k hk
  rcases h with ⟨_, rfl⟩ | ⟨g, o, cap', cur, hv, hb, hg, _, _, hc⟩
  · simp at hk
  · simp at hv
    obtain ⟨rfl, rfl⟩ := hv
    exact ⟨g, o, rfl, heap_lt hg, by rw [cell_of_row _ _ _ _ _ _ hg]; exact hc k hk⟩
/-- append of one number. -/
theorem IRow.app (h : IRow w base v l) (hb : base ≤ w.heap.size) (hl : l.length < 1000000) (x : Int) (a : Addr) (c : Nat) (ha : w.cell? a = some (.int .i64 x)) (ty : TypeId) :
    ∃ v' w', (Builtin.append_ #[37, 37] ty #[v, .slice (some a) 1 c]).run Try.prog w = .ok v' w' ∧ IRow w' base v' (l ++ [x]) ∧ w.grownBy w' v.ownBlock ∧ (v'.ownBlock = v.ownBlock ∨ v'.ownBlock = some w.heap.size) := by
  obtain ⟨i0, hi, hz0, hz1, hz2⟩ := info_parts intInfo
  have hnews : ∀ j u, ([.int .i64 x] : List Value)[j]? = some u → w.cell? (a.add j) = some u := fun j u hu => by
    match j, hu with
    | 0, hu => simp at hu; subst hu; simpa [Addr.add] using ha
    | j + 1, hu => simp at hu
  have h1 : ∀ u ∈ ([.int .i64 x] : List Value), u.oneCell' = true := fun u hu => by simp at hu; rcases hu with rfl; rfl
  -- a row that append has made anew
  have grown : ∀ (cp : Nat), l.length + 1 ≤ cp → IRow (w.drew.alloc (.cells ((ivs l).toArray ++ [.int .i64 x].toArray ++ Builtin.zeroCells (Value.int .i64 0).cells (cp - (l.length + 1))) 3)) base (.slice (some ⟨w.heap.size, 0, none⟩) (l ++ [x]).length cp) (l ++ [x]) := by
    intro cp hcp
    refine .inr ⟨w.heap.size, 0, cp, _, rfl, hb, heap_new w.drew _, by simp; omega, ?_, fun k hk => ?_⟩
    · simp [size_zeroCells, ivs, Value.cells]; omega
    · rw [Nat.zero_add, ← Array.getElem?_toList]
      simp only [Array.toList_append, List.append_assoc]
      rw [← List.append_assoc, show ivs l ++ [Value.int .i64 x] = ivs (l ++ [x]) from by unfold ivs; rw [List.map_append]; rfl, List.getElem?_append_left (by unfold ivs; simpa using hk)]
      unfold ivs
      rw [List.getElem?_map, List.getElem?_eq_getElem hk]; rfl
  have hgr : ∀ (cs : Array Value) (row : Option Nat), w.grownBy (w.drew.alloc (.cells cs 3)) row := fun cs row => ⟨rfl, rfl, rfl, by simp, fun k hk _ => Below.heap_alloc w.drew _ k hk⟩
  rcases h with ⟨rfl, rfl⟩ | ⟨g, o, cap, cur, rfl, hbg, hg, hlc, hoc, hcur⟩
  · have hr := run_append_nil (P := Try.prog) w 37 ty 3 i0 (.int .i64 0) (by kernel_rfl) hi hz0 a 1 c [.int .i64 x] (by rw [hz1]; rfl) hnews (by omega) (by omega) (by omega)
    refine ⟨_, _, hr, ?_, hgr _ _, .inr rfl⟩
    have := grown (grownCap w 1 0 3) (by have := grownCap_ge w 1 0 3; simpa using this)
    simpa [ivs] using this
  · by_cases hroom : l.length + 1 ≤ cap
    · have hst := run_storeCells_at Try.prog g (o + l.length) 3 [.int .i64 x] 0 cur w hg (by simp; omega) h1
      have hf := run_firstCells_some (P := Try.prog) w i0.size 1 a 1 c [.int .i64 x] (by rw [hz1]; rfl) hnews
      have hrun : (Builtin.append_ #[37, 37] ty #[.slice (some ⟨g, o, none⟩) l.length cap, .slice (some a) 1 c]).run Try.prog w = .ok (.slice (some ⟨g, o, none⟩) (l.length + 1) cap) (w.setRow g (cur.toList.take (o + l.length) ++ [Value.int .i64 x] ++ cur.toList.drop (o + l.length + 1)).toArray) := by
        simp only [Nat.add_zero] at hst
        rw [hz1] at hf
        simp [Builtin.append_, run_underlying (show Try.prog.underlying 37 = some (.slice 3) from by kernel_rfl), sizeOf, typeInfo, hi, hz1, Builtin.lenOf, hroom, hf, Addr.add_lit, hst]
      refine ⟨_, _, hrun, ?_, ⟨rfl, rfl, rfl, by simp, fun k _ hk => setRow_other w g k _ (fun e => hk (by simp [Value.ownBlock, e]))⟩, .inl rfl⟩
      refine .inr ⟨g, o, cap, _, by simp, hbg, setRow_heap w g cur _ 3 _ hg, by simp; omega, ?_, fun k hk => ?_⟩
      · simp; omega
      · rw [← Array.getElem?_toList]
        simp only [List.append_assoc]
        by_cases hkl : k < l.length
        · rw [List.getElem?_append_left (by simp; omega), List.getElem?_take_of_lt (by omega), Array.getElem?_toList, hcur k hkl, List.getElem_append_left hkl]
        · obtain rfl : k = l.length := by simp at hk; omega
          rw [List.getElem?_append_right (by simp; omega)]
          simp
          rw [show o + l.length - min (o + l.length) cur.size = 0 from by omega]
          rfl
    · have holds : ∀ j u, (ivs l)[j]? = some u → w.cell? ((⟨g, o, none⟩ : Addr).add j) = some u := fun j u hu => by
        have hj : j < l.length := by have := (List.getElem?_eq_some_iff.1 hu).1; unfold ivs at this; simpa using this
        rw [show (⟨g, o, none⟩ : Addr).add j = ⟨g, o + j, none⟩ from by unfold Addr.add; split <;> simp_all, cell_of_row _ _ _ _ _ _ hg, hcur j hj]
        unfold ivs at hu
        rw [List.getElem?_map, List.getElem?_eq_getElem hj] at hu
        simpa using hu
      have hr := run_append_grow (P := Try.prog) w 37 ty 3 i0 (.int .i64 0) (by kernel_rfl) hi hz0 ⟨g, o, none⟩ l.length cap (ivs l) (by rw [hz1, ivs_len]) holds a 1 c [.int .i64 x] (by rw [hz1]; rfl) hnews (by omega) (by omega) (growslice_fits (by omega) (by rw [hz2]; omega))
      refine ⟨_, _, hr, ?_, hgr _ _, .inr rfl⟩
      have := grown (grownCap w (l.length + 1) cap 3) (grownCap_ge w _ _ _)
      simpa using this
/-- want[1:]. -/
theorem IRow.tail {p : Option Addr} {cap : Nat} {x : Int} (h : IRow w base (.slice p (x :: l).length cap) (x :: l)) :
    ∃ p', (∀ w' : World, (Instr.sliceAt 37 (.slice p (l.length + 1) cap) (some (.int .i64 1)) none none).run Try.prog w' = .ok (.slice p' l.length (cap - 1)) w') ∧ IRow w base (.slice p' l.length (cap - 1)) l ∧ (Value.slice p' l.length (cap - 1)).ownBlock = (Value.slice p (x :: l).length cap).ownBlock := by
  obtain ⟨i0, hi, hz0, hz1, hz2⟩ := info_parts intInfo
  rcases h with ⟨_, h0⟩ | ⟨g, o, cap', cur, hv, hbg, hg, hlc, hoc, hcur⟩
  · cases h0
  · simp at hv
    obtain ⟨rfl, rfl⟩ := hv
    simp only [List.length_cons] at hlc hcur ⊢
    have hrun : ∀ w' : World, (Instr.sliceAt 37 (.slice (some ⟨g, o, none⟩) (l.length + 1) cap) (some (.int .i64 1)) none none).run Try.prog w' = .ok (.slice (if cap = 1 then some ⟨g, o, none⟩ else some ⟨g, o + 1, none⟩) l.length (cap - 1)) w' := by
      intro w'
      simp [Instr.sliceAt, run_underlying (show Try.prog.underlying 37 = some (.slice 3) from by kernel_rfl), Instr.slice, go_sem, sizeOf, typeInfo, hi, hz1]
      intro h; omega
    by_cases h1 : cap = 1
    · refine ⟨some ⟨g, o, none⟩, by simpa [h1] using hrun, ?_, rfl⟩
      have hl0 : l = [] := List.length_eq_zero_iff.1 (by omega)
      subst hl0
      exact .inr ⟨g, o, cap - 1, cur, rfl, hbg, hg, by simp, by omega, fun k hk => by simp at hk⟩
    · refine ⟨some ⟨g, o + 1, none⟩, by simpa [h1] using hrun, ?_, rfl⟩
      refine .inr ⟨g, o + 1, cap - 1, cur, rfl, hbg, hg, by omega, by omega, fun k hk => ?_⟩
      have := hcur (k + 1) (by omega)
      rw [show o + 1 + k = o + (k + 1) from by omega, this]; rfl
end
/-- append at the operation, by what it runs to. -/
theorem wpList_append_run {w : World} {ops : Array Oper} {rest : List Oper} {o : Oper} {a : Act} {Q : Exit → Act → World → Prop} (hgd : o.guard = none) (s x : Operand) (t : TypeId) (ho : o.op = .call { callee := .builtin .append, args := #[s, x], argTypes := #[t, t] })
    (v xv : Value) (hs : a.eval s = v) (hx : a.eval x = xv) {v' : Value} {w' : World} (hr : (Builtin.append_ #[t, t] o.type #[v, xv]).run Try.prog w = .ok v' w') (hK : wpList Try.prog ops Q rest (a.put o.dst v') w') : wpList Try.prog ops Q (o :: rest) a w := by
  refine wpList_plain hgd fun K hK' => ?_
  unfold Oper.wp
  simp [execOp, ho, resolve, invoke, builtin, hs, hx, hr, Result.andThen]
  exact hK' _ _ hK
/-- Rooms and such a row. -/
structure SI (w0 wr : World) (rb : Nat) (F : Nat → Prop) (all : List Who) (al : Int → List Int) (N : Nat) (v : Value) (l : List Int) : Prop where
  ra : RA wr rb F all al N
  row : IRow wr w0.heap.size v l
  ap : ∀ b, v.ownBlock = some b → ¬ F b
  flt : ∀ k, F k → k < wr.heap.size
  flo : ∀ k, F k → w0.heap.size ≤ k
  bel : Below w0.heap.size w0 wr
section
variable {w0 wr w' : World} {rb N N' : Nat} {F : Nat → Prop} {all all' : List Who} {al al' : Int → List Int} {v : Value} {l : List Int}
theorem SI.fm (h : SI w0 wr rb F all al N v l) {F' : Nat → Prop} (hr : RA w' rb F' all' al' N') (hf : Fm wr w' F) (hs : ∀ k, F' k → F k ∨ wr.heap.size ≤ k) (hl : ∀ k, F' k → k < w'.heap.size) : SI w0 w' rb F' all' al' N' v l := by
  have hz := h.bel.size
  refine ⟨hr, h.row.same (fun k hk => hf.same k (h.row.lt k hk).2 (h.ap k hk)), fun b hb hF => ?_, hl, fun k hk => ?_, h.bel.trans (hf.below hz (fun k hk hF => by have := h.flo k hF; omega))⟩
  · rcases hs b hF with h1 | h1
    · exact h.ap b hb h1
    · have := (h.row.lt b hb).2; omega
  · rcases hs k hk with h1 | h1
    · exact h.flo k h1
    · omega
theorem SI.call (h : SI w0 wr rb F all al N v l) (hx : Nx wr w' rb F all' al' N') : ∃ F', SI w0 w' rb F' all' al' N' v l := by
  obtain ⟨F', h1, h2, h3, h4⟩ := hx
  exact ⟨F', h.fm h1 h2 h3 h4⟩
theorem SI.call2 (h : SI w0 wr rb F all al N v l) (hr : RA w' rb F all' al' N') (hf : Fm wr w' F) : SI w0 w' rb F all' al' N' v l :=
  h.fm hr hf (fun _ h => .inl h) (fun k hk => Nat.lt_of_lt_of_le (h.flt k hk) hf.size)
theorem SI.below (h : SI w0 wr rb F all al N v l) (hb : Below wr.heap.size wr w') : SI w0 w' rb F all al N v l :=
  h.call2 (h.ra.below hb) (Fm.of_below hb F)
theorem SI.appended (h : SI w0 wr rb F all al N v l) {v' : Value} {x : Int} {o : Obj} (hr : IRow w' w0.heap.size v' (l ++ [x])) (hg : (wr.alloc o).grownBy w' v.ownBlock) (hat : v'.ownBlock = v.ownBlock ∨ v'.ownBlock = some (wr.alloc o).heap.size) : SI w0 w' rb F all al N v' (l ++ [x]) := by
  have hz := h.bel.size
  have hf : Fm wr w' (fun k => some k = v.ownBlock) := ⟨hg.os, hg.tape, hg.output, Nat.le_trans (by simp) hg.size, fun k hk hn => (hg.block k (by simp; omega) hn).trans (Below.heap_alloc _ _ _ hk)⟩
  have hk : ∀ k, k < wr.heap.size → F k → w'.heap[k]? = wr.heap[k]? := fun k hk hF => hf.same k hk (fun e => h.ap k e.symm hF)
  refine ⟨h.ra.same hf.size hk, hr, ?_, fun k hF => Nat.lt_of_lt_of_le (h.flt k hF) hf.size, h.flo, ?_⟩
  · intro b hb hF
    rcases hat with e | e
    · exact h.ap b (e ▸ hb) hF
    · rw [e] at hb
      have : (wr.alloc o).heap.size = b := Option.some.inj hb
      have := h.flt b hF
      have h3 : (wr.alloc o).heap.size = wr.heap.size + 1 := by simp
      omega
  · exact h.bel.trans (hf.below hz (fun k hk e => by have := (h.row.lt k e.symm).1; omega))
end
end Go.Proofs.Ythknnmllibdggaa
