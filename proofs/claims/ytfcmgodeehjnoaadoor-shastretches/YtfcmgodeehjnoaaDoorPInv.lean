/- Regions whose order is drawn, by what holds whichever operations are done: the plain twin. -/
import Derived.Test.YtfcmgodeehjnoaaDoorBase
import Derived.Orders
namespace Go.Proofs.YtfcmgodeehjnoaaDoor
open Go.RowKit Go.Sort
theorem cf_set : ∀ (l : List Bool) (i : Nat), l[i]? = some false → (l.set i true).count false + 1 = l.count false
  | [], i, h => by simp at h
  | b :: l, 0, h => by have : b = false := by simpa using h
                       subst this; simp
  | b :: l, i + 1, h => by
    have := cf_set l i (by simpa using h)
    cases b <;> simp_all <;> omega
section
variable {P : Program} {ops : Array Oper}
/-- The plain twin of wpAnyIn_inv, each operation by what it runs to. -/
theorem wp_region_inv {id : Nat} {Q : Exit → Act → World → Prop} {a : Act} {w : World} (I : Array Bool → Act → World → Prop) (hm : P.follows .mixedOrders = true)
    (hstep : ∀ li a w i o, I li a w → li.getD i true = false → ops[i]? = some o → (∀ e ∈ o.after, Region.binds .any e = true → li.getD e.on false = true) → Region.wanted o (yielded ops a.tmps) = true ∧
      ((∃ v w', (execOp a.eval o).run P w = .ok (.value v) w' ∧ I (li.setIfInBounds i true) (a.put o.dst v) w') ∨
       (∃ w', (execOp a.eval o).run P w = .ok .skip w' ∧ I (li.setIfInBounds i true) (a.put o.dst undef) w') ∨
       (∃ f args, (execOp a.eval o).run P w = .ok (.enter f args) w ∧ Calls P f args w fun e w' => ∃ v, e = .returned v ∧ I (li.setIfInBounds i true) (a.put o.dst v) w')))
    (hend : ∀ li a w, I li a w → Region.ready .any ops li = [] → Q .normal a w) (h0 : I (Array.replicate ops.size false) a { w with drawn := w.drawn + 1 }) : (Code.region id ops true).wp P Q a w := by
  refine wp_region_any hm ?_
  have main : ∀ (fuel : Nat) (li : Array Bool) (a : Act) (w : World), li.toList.count false ≤ fuel → I li a w → wpAny P .any ops Q fuel li a w := by
    intro fuel
    induction fuel with
    | zero =>
      intro li a w hc h
      have he : Region.ready .any ops li = [] := by
        cases hr : Region.ready .any ops li with
        | nil => rfl
        | cons j r =>
          have hj := (mem_ready.1 (show j ∈ Region.ready .any ops li from by rw [hr]; exact List.mem_cons_self ..)).1
          exfalso
          have : li.toList[j]? = some false := by
            rw [Array.getD_eq_getD_getElem?] at hj
            rw [Array.getElem?_toList]
            cases hx : li[j]? with
            | none => rw [hx] at hj; cases hj
            | some b => rw [hx] at hj; simpa using hj
          have := List.count_pos_iff.2 (List.mem_of_getElem? this)
          omega
      exact ⟨he, hend li a w h he⟩
    | succ f ih =>
      intro li a w hc h
      refine ⟨fun he => hend li a w h he, fun i hi => ?_⟩
      obtain ⟨hu, o, ho, hd⟩ := mem_ready.1 hi
      obtain ⟨h1, h2⟩ := hstep li a w i o h hu ho hd
      have hcnt : (li.setIfInBounds i true).toList.count false ≤ f := by
        have hl : li.toList[i]? = some false := by
          rw [Array.getD_eq_getD_getElem?] at hu
          rw [Array.getElem?_toList]
          cases hx : li[i]? with
          | none => rw [hx] at hu; cases hu
          | some b => rw [hx] at hu; simpa using hu
        have := cf_set _ _ hl
        rw [Array.toList_setIfInBounds]
        omega
      unfold wpOp
      rw [ho]
      simp only [h1, if_true]
      refine .inl ?_
      unfold Oper.wp
      rcases h2 with ⟨v, w', hr, hI⟩ | ⟨w', hr, hI⟩ | ⟨f', args, hr, hc'⟩
      · rw [hr]; exact ih _ _ _ hcnt hI
      · rw [hr]; exact ih _ _ _ hcnt hI
      · rw [hr]
        exact hc'.mono fun e w'' ⟨v, he, hI⟩ => by subst he; exact ih _ _ _ hcnt hI
  exact main _ _ _ _ (by simp) h0
def backB (ops : Array Oper) : Bool := (List.range ops.size).all fun i => match ops[i]? with | some o => o.after.all (fun e => decide (e.on < i)) | none => true
/-- Where nothing is ready all is done. -/
theorem ready_nil_all {li : Array Bool} (hb : backB ops = true) (hs : li.size = ops.size) (h : Region.ready .any ops li = []) : ∀ (n i : Nat), i ≤ n → i < ops.size → li.getD i false = true := by
  intro n
  induction n with
  | zero =>
    intro i hi hlt
    obtain rfl : i = 0 := by omega
    by_cases hu : li.getD 0 true = false
    · have : 0 ∈ Region.ready .any ops li := mem_ready.2 ⟨hu, ops[0], Array.getElem?_eq_getElem hlt, fun e he hbd => by
        have := List.all_eq_true.1 hb 0 (List.mem_range.2 hlt)
        rw [Array.getElem?_eq_getElem hlt] at this
        have := Array.all_eq_true_iff_forall_mem.1 this e he
        simp at this⟩
      rw [h] at this; cases this
    · have hl : 0 < li.size := by omega
      simp [Array.getD_eq_getD_getElem?, Array.getElem?_eq_getElem hl] at hu ⊢; exact hu
  | succ n ih =>
    intro i hi hlt
    by_cases hu : li.getD i true = false
    · have : i ∈ Region.ready .any ops li := mem_ready.2 ⟨hu, ops[i], Array.getElem?_eq_getElem hlt, fun e he hbd => by
        have := List.all_eq_true.1 hb i (List.mem_range.2 hlt)
        rw [Array.getElem?_eq_getElem hlt] at this
        have hlt' := Array.all_eq_true_iff_forall_mem.1 this e he
        simp at hlt'
        exact ih e.on (by omega) (by omega)⟩
      rw [h] at this; cases this
    · have hl : i < li.size := by omega
      simp [Array.getD_eq_getD_getElem?, Array.getElem?_eq_getElem hl] at hu ⊢; exact hu
end
theorem row_form {w : World} {base e size n : Nat} {v : Value} {xs : List Value} (h : w.ownsRow base e size v n xs) : ∃ sp cap, v = .slice sp n cap := by
  rcases h.2 with ⟨rfl, h0⟩ | ⟨g, cap, _, rfl, _⟩
  · exact ⟨none, 0, by rw [h0]⟩
  · exact ⟨_, _, rfl⟩
theorem row_mono {w : World} {b b' e size n : Nat} {v : Value} {xs : List Value} (h : w.ownsRow b e size v n xs) (hb : b' ≤ b) : w.ownsRow b' e size v n xs := by
  refine ⟨h.1, ?_⟩
  rcases h.2 with h | ⟨g, cap, cur, h1, h2, h3⟩
  · exact .inl h
  · exact .inr ⟨g, cap, cur, h1, Nat.le_trans hb h2, h3⟩
theorem row_same {w w' : World} {b e size n : Nat} {v : Value} {xs : List Value} (h : w.ownsRow b e size v n xs) (hs : ∀ k, v.ownBlock = some k → w'.heap[k]? = w.heap[k]?) : w'.ownsRow b e size v n xs := by
  refine ⟨h.1, ?_⟩
  rcases h.2 with h | ⟨g, cap, cur, h1, h2, h3, h4⟩
  · exact .inl h
  · subst h1
    exact .inr ⟨g, cap, cur, rfl, h2, (hs g rfl).trans h3, h4⟩
theorem heap_ne (w : World) (a : Addr) (v : Value) {k : Nat} (h : k ≠ a.block) : (w.setCell a v).heap[k]? = w.heap[k]? := by
  show (w.heap.modify a.block _)[k]? = _
  rw [Array.getElem?_modify, if_neg (Ne.symm h)]
theorem heap_new (w : World) (o : Obj) : (w.alloc o).heap[w.heap.size]? = some o := by show (w.heap.push o)[w.heap.size]? = _; simp
end Go.Proofs.YtfcmgodeehjnoaaDoor
