/- Regions whose order is drawn, by what holds whichever operations are done: the plain twin. -/
import Derived.Test.YthifejdphflfpaaDoorConcat
import Derived.Orders
namespace Go.Proofs.YthifejdphflfpaaDoor
open Go.RowKit Go.Sort
theorem cf_set : ∀ (l : List Bool) (i : Nat), l[i]? = some false → (l.set i true).count false + 1 = l.count false
  | [], i, h => by simp at h
  | b :: l, 0, h => by have : b = false := by simpa using h
                       subst this; simp
  | b :: l, i + 1, h => by
    have := cf_set l i (by simpa using h)
    cases b <;> simp_all <;> omega
section
variable {P : Program} {ops : Array Oper}
/-- The plain twin of wpAnyIn_inv, each operation by what it runs to. -/
theorem wp_region_inv {id : Nat} {Q : Exit → Act → World → Prop} {a : Act} {w : World} (I : Array Bool → Act → World → Prop) (hm : P.follows .mixedOrders = true)
    (hstep : ∀ li a w i o, I li a w → li.getD i true = false → ops[i]? = some o → (∀ e ∈ o.after, Region.binds .any e = true → li.getD e.on false = true) → Region.wanted o (yielded ops a.tmps) = true ∧
      ((∃ v w', (execOp a.eval o).run P w = .ok (.value v) w' ∧ I (li.setIfInBounds i true) (a.put o.dst v) w') ∨
       (∃ w', (execOp a.eval o).run P w = .ok .skip w' ∧ I (li.setIfInBounds i true) (a.put o.dst undef) w') ∨
       (∃ f args, (execOp a.eval o).run P w = .ok (.enter f args) w ∧ Calls P f args w fun e w' => ∃ v, e = .returned v ∧ I (li.setIfInBounds i true) (a.put o.dst v) w')))
    (hend : ∀ li a w, I li a w → Region.ready .any ops li = [] → Q .normal a w) (h0 : I (Array.replicate ops.size false) a { w with drawn := w.drawn + 1 }) : (Code.region id ops true).wp P Q a w := by
  refine wp_region_any hm ?_
  have main : ∀ (fuel : Nat) (li : Array Bool) (a : Act) (w : World), li.toList.count false ≤ fuel → I li a w → wpAny P .any ops Q fuel li a w := by
    intro fuel
    induction fuel with
    | zero =>
      intro li a w hc h
      have he : Region.ready .any ops li = [] := by
        cases hr : Region.ready .any ops li with
        | nil => rfl
        | cons j r =>
          have hj := (mem_ready.1 (show j ∈ Region.ready .any ops li from by rw [hr]; exact List.mem_cons_self ..)).1
          exfalso
          have : li.toList[j]? = some false := by
            rw [Array.getD_eq_getD_getElem?] at hj
            rw [Array.getElem?_toList]
            cases hx : li[j]? with
            | none => rw [hx] at hj; cases hj
            | some b => rw [hx] at hj; simpa using hj
          have := List.count_pos_iff.2 (List.mem_of_getElem? this)
          omega
      exact ⟨he, hend li a w h he⟩
    | succ f ih =>
      intro li a w hc h
      refine ⟨fun he => hend li a w h he, fun i hi => ?_⟩
      obtain ⟨hu, o, ho, hd⟩ := mem_ready.1 hi
      obtain ⟨h1, h2⟩ := hstep li a w i o h hu ho hd
      have hcnt : (li.setIfInBounds i true).toList.count false ≤ f := by
        have hl : li.toList[i]? = some false := by
          rw [Array.getD_eq_getD_getElem?] at hu
          rw [Array.getElem?_toList]
          cases hx : li[i]? with
          | none => rw [hx] at hu; cases hu
          | some b => rw [hx] at hu; simpa using hu
        have := cf_set _ _ hl
        rw [Array.toList_setIfInBounds]
        omega
      unfold wpOp
      rw [ho]
      simp only [h1, if_true]
      refine .inl ?_
      unfold Oper.wp
      rcases h2 with ⟨v, w', hr, hI⟩ | ⟨w', hr, hI⟩ | ⟨f', args, hr, hc'⟩
      · rw [hr]; exact ih _ _ _ hcnt hI
      · rw [hr]; exact ih _ _ _ hcnt hI
      · rw [hr]
        exact hc'.mono fun e w'' ⟨v, he, hI⟩ => by subst he; exact ih _ _ _ hcnt hI
  exact main _ _ _ _ (by simp) h0
def backB (ops : Array Oper) : Bool := (List.range ops.size).all fun i => match ops[i]? with | some o => o.after.all (fun e => decide (e.on < i)) | none => true
/-- Where nothing is ready all is done. -/
theorem ready_nil_all {li : Array Bool} (hb : backB ops = true) (hs : li.size = ops.size) (h : Region.ready .any ops li = []) : ∀ (n i : Nat), i ≤ n → i < ops.size → li.getD i false = true := by
  intro n
  induction n with
  | zero =>
    intro i hi hlt
    obtain rfl : i = 0 := by omega
    by_cases hu : li.getD 0 true = false
    · have : 0 ∈ Region.ready .any ops li := mem_ready.2 ⟨hu, ops[0], Array.getElem?_eq_getElem hlt, fun e he hbd => by
        have := List.all_eq_true.1 hb 0 (List.mem_range.2 hlt)
        rw [Array.getElem?_eq_getElem hlt] at this
        have := Array.all_eq_true_iff_forall_mem.1 this e he
        simp at this⟩
      rw [h] at this; cases this
    · have hl : 0 < li.size := by omega
      simp [Array.getD_eq_getD_getElem?, Array.getElem?_eq_getElem hl] at hu ⊢; exact hu
  | succ n ih =>
    intro i hi hlt
    by_cases hu : li.getD i true = false
    · have : i ∈ Region.ready .any ops li := mem_ready.2 ⟨hu, ops[i], Array.getElem?_eq_getElem hlt, fun e he hbd => by
        have := List.all_eq_true.1 hb i (List.mem_range.2 hlt)
        rw [Array.getElem?_eq_getElem hlt] at this
        have hlt' := Array.all_eq_true_iff_forall_mem.1 this e he
        simp at hlt'
        exact ih e.on (by omega) (by omega)⟩
      rw [h] at this; cases this
    · have hl : i < li.size := by omega
      simp [Array.getD_eq_getD_getElem?, Array.getElem?_eq_getElem hl] at hu ⊢; exact hu
end
theorem row_form {w : World} {base e size n : Nat} {v : Value} {xs : List Value} (h : w.ownsRow base e size v n xs) : ∃ sp cap, v = .slice sp n cap := by
  rcases h.2 with ⟨rfl, h0⟩ | ⟨g, cap, _, rfl, _⟩
  · exact ⟨none, 0, by rw [h0]⟩
  · exact ⟨_, _, rfl⟩
theorem row_mono {w : World} {b b' e size n : Nat} {v : Value} {xs : List Value} (h : w.ownsRow b e size v n xs) (hb : b' ≤ b) : w.ownsRow b' e size v n xs := by
  refine ⟨h.1, ?_⟩
  rcases h.2 with h | ⟨g, cap, cur, h1, h2, h3⟩
  · exact .inl h
  · exact .inr ⟨g, cap, cur, h1, Nat.le_trans hb h2, h3⟩
theorem row_same {w w' : World} {b e size n : Nat} {v : Value} {xs : List Value} (h : w.ownsRow b e size v n xs) (hs : ∀ k, v.ownBlock = some k → w'.heap[k]? = w.heap[k]?) : w'.ownsRow b e size v n xs := by
  refine ⟨h.1, ?_⟩
  rcases h.2 with h | ⟨g, cap, cur, h1, h2, h3, h4⟩
  · exact .inl h
  · subst h1
    exact .inr ⟨g, cap, cur, rfl, h2, (hs g rfl).trans h3, h4⟩
theorem heap_ne (w : World) (a : Addr) (v : Value) {k : Nat} (h : k ≠ a.block) : (w.setCell a v).heap[k]? = w.heap[k]? := by
  show (w.heap.modify a.block _)[k]? = _
  rw [Array.getElem?_modify, if_neg (Ne.symm h)]
theorem heap_new (w : World) (o : Obj) : (w.alloc o).heap[w.heap.size]? = some o := by show (w.heap.push o)[w.heap.size]? = _; simp
theorem exec_slice_hi {o : Oper} {ev : Operand → Value} {x y : Operand} {p : Option Addr} {n cap k : Nat} (ho : o.op = Op.slice 22 x none (some y) none) (hx : ev x = .slice p n cap) (hy : ev y = .int .i64 k) (hk : k ≤ cap) (w : World) :
    (execOp ev o).run Tryd.prog w = .ok (.value (.slice p k cap)) w := by
  have hkc : (k : Int) ≤ (cap : Int) := by omega
  obtain ⟨i0, hi, hz0, hz1, hz2⟩ := info_parts' nameInfo
  cases p with
  | none => simp [execOp, ho, hx, hy, Instr.sliceAt, run_underlying Tryd.underlying22, Instr.slice, go_sem, hkc, sizeOf, typeInfo, hi]
  | some a => simp [execOp, ho, hx, hy, Instr.sliceAt, run_underlying Tryd.underlying22, Instr.slice, go_sem, hkc, sizeOf, typeInfo, hi]
def dropP (p : Option Addr) (cap k : Nat) : Option Addr := if cap = k then p else p.map (·.add (k * 3))
theorem exec_slice_lo {o : Oper} {ev : Operand → Value} {x y : Operand} {p : Option Addr} {n cap k : Nat} (ho : o.op = Op.slice 22 x (some y) none none) (hx : ev x = .slice p n cap) (hy : ev y = .int .i64 k) (hk : k ≤ n) (w : World) :
    (execOp ev o).run Tryd.prog w = .ok (.value (.slice (dropP p cap k) (n - k) (cap - k))) w := by
  have hkc : (k : Int) ≤ (n : Int) := by omega
  obtain ⟨i0, hi, hz0, hz1, hz2⟩ := info_parts' nameInfo
  simp [execOp, ho, hx, hy, Instr.sliceAt, run_underlying Tryd.underlying22, Instr.slice, go_sem, hkc, sizeOf, typeInfo, hi, hz1, dropP]
theorem flat_at : ∀ (l : List Nm) (q : Nat) (h : q < l.length) (r : Nat), r < 3 → (flat l)[q * 3 + r]? = (nmC l[q])[r]?
  | x :: l, 0, _, r, hr => by
    unfold flat
    rw [List.flatMap_cons, Nat.zero_mul, Nat.zero_add, List.getElem?_append_left (by simp [nmC]; exact hr)]; rfl
  | x :: l, q + 1, h, r, hr => by
    have := flat_at l q (by simpa using h) r hr
    unfold flat at this ⊢
    rw [List.flatMap_cons, List.getElem?_append_right (by simp [nmC]; omega)]
    have e : (q + 1) * 3 + r - (nmC x).length = q * 3 + r := by simp [nmC]; omega
    rw [e]; exact this
theorem addr_plus (b o j : Nat) : (⟨b, o, none⟩ : Addr).add j = ⟨b, o + j, none⟩ := by
  by_cases h : j = 0 <;> simp [Addr.add, h]
theorem NmAt.nth {w : World} {b o : Nat} {m : Nm} (h : NmAt w b o m) : ∀ r u, (nmC m)[r]? = some u → w.cell? ⟨b, o + r, none⟩ = some u
  | 0, u, hu => by simp [nmC] at hu; subst hu; exact h.c0
  | 1, u, hu => by simp [nmC] at hu; subst hu; exact h.c1
  | 2, u, hu => by simp [nmC] at hu; subst hu; exact h.c2
  | r + 3, u, hu => by simp [nmC] at hu
theorem NsAt.flat {w : World} {a : Addr} {l : List Nm} (h : NsAt w (some a) l) : ∀ j u, (flat l)[j]? = some u → w.cell? (a.add j) = some u := fun j u hu => by
  have hj : j < l.length * 3 := by rw [← flat_length]; exact (List.getElem?_eq_some_iff.1 hu).1
  obtain ⟨q, r, hr, rfl⟩ : ∃ q r, r < 3 ∧ j = q * 3 + r := ⟨j / 3, j % 3, by omega, by omega⟩
  have hq : q < l.length := by omega
  obtain ⟨b, off, he, hb, hm⟩ := h q hq
  rw [flat_at l q hq r hr] at hu
  rw [Option.some.inj he, addr_plus, ← Nat.add_assoc]
  exact hm.nth r u hu
theorem NsAt.of_flat {w : World} {b off : Nat} {l : List Nm} (h : ∀ j u, (Proofs.YthifejdphflfpaaDoor.flat l)[j]? = some u → w.cell? ((⟨b, off, none⟩ : Addr).add j) = some u) : NsAt w (some ⟨b, off, none⟩) l := fun q hq => by
  have hm : NmAt w b (off + q * 3) l[q] := NmAt.of fun r u hu => by
    have hr : r < 3 := by have := (List.getElem?_eq_some_iff.1 hu).1; simpa [nmC] using this
    have := h (q * 3 + r) u (by rw [flat_at l q hq r hr]; exact hu)
    rw [addr_plus, ← Nat.add_assoc] at this
    exact this
  exact ⟨b, off, rfl, World.block_lt_of_cell? w _ hm.c0, hm⟩
theorem flat_take (l : List Nm) (k j : Nat) (u : Value) (h : (flat (l.take k))[j]? = some u) : (flat l)[j]? = some u := by
  have : flat l = flat (l.take k) ++ flat (l.drop k) := by rw [← flat_append, List.take_append_drop]
  rw [this, List.getElem?_append_left (List.getElem?_eq_some_iff.1 h).1]; exact h
theorem flat_drop (l : List Nm) (k j : Nat) (u : Value) (hk : k ≤ l.length) (h : (flat (l.drop k))[j]? = some u) : (flat l)[k * 3 + j]? = some u := by
  have : flat l = flat (l.take k) ++ flat (l.drop k) := by rw [← flat_append, List.take_append_drop]
  rw [this, List.getElem?_append_right (by rw [flat_length, List.length_take]; omega), flat_length, List.length_take, show k * 3 + j - min k l.length * 3 = j from by rw [Nat.min_eq_left hk]; omega]; exact h
/-- A slice of entries that may be handed to the calls. -/
structure RAt (w : World) (p : Option Addr) (cap : Nat) (l : List Nm) : Prop where
  row : NsAt w p l
  len : l.length ≤ cap
  top : cap ≤ maxLen
  nil : p = none → cap = 0
theorem RAt.below {w w' : World} {p : Option Addr} {cap : Nat} {l : List Nm} (h : RAt w p cap l) (hb : Below w.heap.size w w') : RAt w' p cap l := ⟨h.row.below hb, h.len, h.top, h.nil⟩
theorem RAt.src_take {w : World} {p : Option Addr} {cap k : Nat} {l : List Nm} (h : RAt w p cap l) (hk : k ≤ l.length) : Src w (.slice p k cap) (l.take k) := by
  have hl : (l.take k).length = k := by rw [List.length_take]; omega
  cases p with
  | none =>
    have := h.row.nil
    subst this
    obtain rfl : k = 0 := by simpa using hk
    have := h.nil rfl
    subst this
    exact .inl ⟨rfl, rfl⟩
  | some a => exact .inr ⟨a, cap, by rw [hl], fun j u hu => h.row.flat j u (flat_take l k j u hu)⟩
theorem RAt.src_drop {w : World} {p : Option Addr} {cap k : Nat} {l : List Nm} (h : RAt w p cap l) (hk : k ≤ l.length) : Src w (.slice (dropP p cap k) (l.length - k) (cap - k)) (l.drop k) := by
  have hl : (l.drop k).length = l.length - k := by rw [List.length_drop]
  cases p with
  | none =>
    have := h.row.nil
    subst this
    have := h.nil rfl
    subst this
    refine .inl ⟨?_, by simp⟩
    unfold dropP; split <;> simp
  | some a =>
    unfold dropP
    split
    · refine .inr ⟨a, cap - k, by rw [hl], fun j u hu => ?_⟩
      have hlen := h.len
      rw [List.drop_of_length_le (by omega)] at hu
      simp [Proofs.YthifejdphflfpaaDoor.flat] at hu
    · refine .inr ⟨a.add (k * 3), cap - k, by rw [hl]; rfl, fun j u hu => ?_⟩
      have h1 := flat_drop l k j u hk hu
      have h2 := h.row.flat _ _ h1
      by_cases hl0 : l.length = 0
      · have : l = [] := List.length_eq_zero_iff.1 hl0
        subst this; simp [Proofs.YthifejdphflfpaaDoor.flat] at hu
      · obtain ⟨b, off, he, _⟩ := h.row 0 (by omega)
        rw [Option.some.inj he] at h2 ⊢
        rw [addr_plus, addr_plus]; rw [addr_plus] at h2
        rw [show off + k * 3 + j = off + (k * 3 + j) from by omega]; exact h2
theorem own_rat {w : World} {base n : Nat} {v : Value} {l : List Nm} (h : w.ownsRow base 25 3 v n (flat l)) : ∃ p cap, v = .slice p l.length cap ∧ n = l.length ∧ RAt w p cap l := by
  have hn := (own_src h).1
  subst hn
  have hc := fun g hg => h.cells (g := g) hg
  rcases h.2 with ⟨rfl, h0⟩ | ⟨g, cap, cur, rfl, h1, h2, h3, h4, h5, h6⟩
  · have := List.length_eq_zero_iff.1 h0
    subst this
    exact ⟨none, 0, rfl, rfl, fun j hj => by simp at hj, by simp, by simp, fun _ => rfl⟩
  · exact ⟨_, cap, rfl, rfl, NsAt.of_flat (hc g rfl), h3, h4, fun h => by cases h⟩
end Go.Proofs.YthifejdphflfpaaDoor
