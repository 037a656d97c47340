/- The small calls of package kern. -/
import Derived.Test.YtfmeajanbmaimaaGreatKoRTail
import Derived.Orders
import Derived.StillTail
import Derived.Test.YtfmeajanbmaimaaGreatHoTail
import Derived.Test.YtfmeajanbmaimaaGreatHoHas
import Derived.Test.YtfmeajanbmaimaaGreatWaBase
import Derived.Test.YtfmeajanbmaimaaGreatWaWait3
/- Regions whose order is drawn and whose operations keep all that is older: each operation by what its value is like, whichever others are done. -/
namespace Go.Proofs.YtfmeajanbmaimaaGreat.Ko
open Go.RowKit Go.Sort
def dsts (ops : Array Oper) : List Nat := ops.toList.filterMap (·.dst)
def dstB (ops : Array Oper) (n : Nat) : Bool := ops.toList.all (fun o => match o.dst with | some d => decide (d < n) | none => false) && decide (dsts ops).Nodup
section
variable {P : Program} {ops : Array Oper}
theorem dst_of {n : Nat} (h : dstB ops n = true) {i : Nat} {o : Oper} (ho : ops[i]? = some o) : ∃ d, o.dst = some d ∧ d < n := by
  unfold dstB at h
  rw [Bool.and_eq_true, List.all_eq_true] at h
  have hmem : o ∈ ops.toList := by rw [Array.mem_toList_iff]; exact Array.mem_of_getElem? ho
  have := h.1 o hmem
  cases hd : o.dst with
  | none => rw [hd] at this; cases this
  | some d => rw [hd] at this; exact ⟨d, rfl, by simpa using this⟩
theorem mem_dsts {i : Nat} {o : Oper} {d : Nat} (ho : ops[i]? = some o) (hd : o.dst = some d) : d ∈ dsts ops := by
  unfold dsts
  rw [List.mem_filterMap]
  exact ⟨o, by rw [Array.mem_toList_iff]; exact Array.mem_of_getElem? ho, hd⟩
theorem fm_inj {l : List Oper} (h : (l.filterMap (·.dst)).Nodup) : ∀ {i j : Nat} {o o' : Oper} {d : Nat}, l[i]? = some o → l[j]? = some o' → o.dst = some d → o'.dst = some d → i = j := by
  induction l with
  | nil => intro i j o o' d h1; simp at h1
  | cons x l ih =>
    intro i j o o' d h1 h2 d1 d2
    have hl : (l.filterMap (·.dst)).Nodup := by
      rw [List.filterMap_cons] at h
      split at h
      · exact h
      · exact (List.nodup_cons.1 h).2
    cases i with
    | zero =>
      cases j with
      | zero => rfl
      | succ j =>
        simp only [List.getElem?_cons_zero, Option.some.injEq] at h1
        simp only [List.getElem?_cons_succ] at h2
        subst h1
        rw [List.filterMap_cons, d1] at h
        exact absurd (List.mem_filterMap.2 ⟨o', List.mem_of_getElem? h2, d2⟩) (List.nodup_cons.1 h).1
    | succ i =>
      cases j with
      | zero =>
        simp only [List.getElem?_cons_zero, Option.some.injEq] at h2
        simp only [List.getElem?_cons_succ] at h1
        subst h2
        rw [List.filterMap_cons, d2] at h
        exact absurd (List.mem_filterMap.2 ⟨o, List.mem_of_getElem? h1, d1⟩) (List.nodup_cons.1 h).1
      | succ j =>
        simp only [List.getElem?_cons_succ] at h1 h2
        rw [ih hl h1 h2 d1 d2]
theorem dst_inj {n : Nat} (h : dstB ops n = true) {i j : Nat} {o o' : Oper} {d : Nat} (h1 : ops[i]? = some o) (h2 : ops[j]? = some o') (d1 : o.dst = some d) (d2 : o'.dst = some d) : i = j := by
  unfold dstB dsts at h
  rw [Bool.and_eq_true, decide_eq_true_eq] at h
  exact fm_inj h.2 (by rw [Array.getElem?_toList]; exact h1) (by rw [Array.getElem?_toList]; exact h2) d1 d2
theorem put_ne (a : Act) {d k : Nat} (v : Value) (h : k ≠ d) : (a.put (some d) v).eval (.tmp k) = a.eval (.tmp k) := by
  simp only [Act.put, Act.eval, Array.getD_eq_getD_getElem?]
  rw [Array.getElem?_setIfInBounds_ne (Ne.symm h)]
theorem put_eq (a : Act) {d : Nat} (v : Value) (h : d < a.tmps.size) : (a.put (some d) v).eval (.tmp d) = v := by
  simp only [Act.put, Act.eval, Array.getD_eq_getD_getElem?]
  rw [Array.getElem?_setIfInBounds_self_of_lt h]; rfl
theorem cnt_take (l : List Bool) (n i : Nat) (hi : i < n) (h : l[i]? = some false) : ((l.set i true).take n).count false + 1 = (l.take n).count false := by
  rw [List.take_set]
  exact cf_set (l.take n) i (by rw [List.getElem?_take_of_lt hi]; exact h)
/-- The operation i waits for j, over at most f others. -/
def needB (ops : Array Oper) : Nat → Nat → Nat → Bool
  | 0, _, _ => false
  | f + 1, i, j => match ops[i]? with | some o => o.after.any (fun e => Region.binds .any e && (e.on == j || needB ops f e.on j)) | none => false
/-- Whatever a done operation waits for is done. -/
def ClB (ops : Array Oper) (li : Array Bool) : Prop := ∀ i o, ops[i]? = some o → li.getD i false = true → ∀ e ∈ o.after, Region.binds .any e = true → li.getD e.on false = true
theorem need_done {li : Array Bool} (hc : ClB ops li) : ∀ (f i j : Nat) (o : Oper), ops[i]? = some o → (∀ e ∈ o.after, Region.binds .any e = true → li.getD e.on false = true) → needB ops f i j = true → li.getD j false = true
  | 0, _, _, _, _, _, h => by cases h
  | f + 1, i, j, o, ho, hd, h => by
    unfold needB at h
    rw [ho] at h
    simp only [Array.any_eq_true', Bool.and_eq_true, Bool.or_eq_true, beq_iff_eq] at h
    obtain ⟨e, he, hb, hj⟩ := h
    have h1 := hd e he hb
    rcases hj with hj | hj
    · rw [← hj]; exact h1
    · cases hoe : ops[e.on]? with
      | none => cases f <;> simp [needB, hoe] at hj
      | some o' => exact need_done hc f e.on j o' hoe (hc e.on o' hoe h1) hj
theorem getD_set {li : Array Bool} {i j : Nat} (h : li.getD j false = true) : (li.setIfInBounds i true).getD j false = true := by
  rw [Array.getD_eq_getD_getElem?] at h ⊢
  rw [Array.getElem?_setIfInBounds]
  split
  · split
    · rfl
    · rename_i h1 h2; subst h1; rw [Array.getElem?_eq_none (by omega)] at h; exact h
  · exact h
theorem ClB.set {li : Array Bool} (hc : ClB ops li) {i : Nat} {o : Oper} (ho : ops[i]? = some o) (hd : ∀ e ∈ o.after, Region.binds .any e = true → li.getD e.on false = true) : ClB ops (li.setIfInBounds i true) := by
  intro k ok hk hkd e he hb
  by_cases hki : k = i
  · subst hki
    rw [hk] at ho; cases ho
    exact getD_set (hd e he hb)
  · refine getD_set (hc k ok hk ?_ e he hb)
    rw [Array.getD_eq_getD_getElem?, Array.getElem?_setIfInBounds_ne (Ne.symm hki)] at hkd
    rw [Array.getD_eq_getD_getElem?]; exact hkd
/-- Whatever an operation waits for in every order stands ahead of it. -/
def backT (ops : Array Oper) : Bool := (List.range ops.size).all fun i => match ops[i]? with | some o => o.after.all (fun e => !(Region.binds .any e) || decide (e.on < i)) | none => true
theorem backT_lt {ops : Array Oper} (hb : backT ops = true) {i : Nat} {o : Oper} (ho : ops[i]? = some o) {e : _} (he : e ∈ o.after) (hbd : Region.binds .any e = true) : e.on < i := by
  have h1 := List.all_eq_true.1 hb i (List.mem_range.2 (Array.getElem?_eq_some_iff.1 ho).1)
  rw [ho] at h1
  have := Array.all_eq_true_iff_forall_mem.1 h1 e he
  rw [hbd] at this
  simpa using this
/-- Where nothing is ready all is done. -/
theorem ready_nil_allT {ops : Array Oper} {li : Array Bool} (hb : backT ops = true) (hs : li.size = ops.size) (h : Region.ready .any ops li = []) : ∀ (n i : Nat), i ≤ n → i < ops.size → li.getD i false = true := by
  intro n
  induction n with
  | zero =>
    intro i hi hlt
    obtain rfl : i = 0 := by omega
    by_cases hu : li.getD 0 true = false
    · have : 0 ∈ Region.ready .any ops li := mem_ready.2 ⟨hu, ops[0], Array.getElem?_eq_getElem hlt, fun e he hbd => by
        have := backT_lt hb (Array.getElem?_eq_getElem hlt) he hbd
        omega⟩
      rw [h] at this; cases this
    · have hl : 0 < li.size := by omega
      simp [Array.getD_eq_getD_getElem?, Array.getElem?_eq_getElem hl] at hu ⊢; exact hu
  | succ n ih =>
    intro i hi hlt
    by_cases hu : li.getD i true = false
    · have : i ∈ Region.ready .any ops li := mem_ready.2 ⟨hu, ops[i], Array.getElem?_eq_getElem hlt, fun e he hbd => by
        have := backT_lt hb (Array.getElem?_eq_getElem hlt) he hbd
        exact ih e.on (by omega) (by omega)⟩
      rw [h] at this; cases this
    · have hl : i < li.size := by omega
      simp [Array.getD_eq_getD_getElem?, Array.getElem?_eq_getElem hl] at hu ⊢; exact hu
end
/-- An array by its entries. -/
theorem arr_of (tm : Array Value) (l : List Value) (hs : tm.size = l.length) (h : (List.range l.length).map (fun k => tm.getD k undef) = l) : tm = l.toArray := by
  apply Array.ext
  · simpa using hs
  · intro i h1 h2
    have h2' : i < l.length := by simpa using h2
    have e : ((List.range l.length).map (fun k => tm.getD k undef))[i]? = l[i]? := by rw [h]
    rw [List.getElem?_map, List.getElem?_range h2', List.getElem?_eq_getElem h2'] at e
    simp only [Option.map_some, Option.some.injEq] at e
    rw [Array.getD_eq_getD_getElem?, Array.getElem?_eq_getElem h1] at e
    simpa using e
end Go.Proofs.YtfmeajanbmaimaaGreat.Ko
/- Regions whose order is drawn, by what holds whichever operations are done: the plain twin. -/
namespace Go.Proofs.YtfmeajanbmaimaaGreat.Ko
open Go.RowKit Go.Sort
section
variable {P : Program} {ops : Array Oper}
/-- The plain twin of wpAnyIn_inv, each operation by what it runs to. -/
theorem wp_region_inv {id : Nat} {Q : Exit → Act → World → Prop} {a : Act} {w : World} (I : Array Bool → Act → World → Prop) (hm : P.follows .mixedOrders = true)
    (hstep : ∀ li a w i o, I li a w → li.getD i true = false → ops[i]? = some o → (∀ e ∈ o.after, Region.binds .any e = true → li.getD e.on false = true) → Region.wanted o (yielded ops a.tmps) = true ∧
      ((∃ v w', (execOp a.eval o).run P w = .ok (.value v) w' ∧ I (li.setIfInBounds i true) (a.put o.dst v) w') ∨
       (∃ w', (execOp a.eval o).run P w = .ok .skip w' ∧ I (li.setIfInBounds i true) (a.put o.dst undef) w') ∨
       (∃ f args, (execOp a.eval o).run P w = .ok (.enter f args) w ∧ Calls P f args w fun e w' => ∃ v, e = .returned v ∧ I (li.setIfInBounds i true) (a.put o.dst v) w')))
    (hend : ∀ li a w, I li a w → Region.ready .any ops li = [] → Q .normal a w) (h0 : I (Array.replicate ops.size false) a { w with drawn := w.drawn + 1 }) : (Code.region id ops true).wp P Q a w := by
  refine wp_region_any hm ?_
  have main : ∀ (fuel : Nat) (li : Array Bool) (a : Act) (w : World), li.toList.count false ≤ fuel → I li a w → wpAny P .any ops Q fuel li a w := by
    intro fuel
    induction fuel with
    | zero =>
      intro li a w hc h
      have he : Region.ready .any ops li = [] := by
        cases hr : Region.ready .any ops li with
        | nil => rfl
        | cons j r =>
          have hj := (mem_ready.1 (show j ∈ Region.ready .any ops li from by rw [hr]; exact List.mem_cons_self ..)).1
          exfalso
          have : li.toList[j]? = some false := by
            rw [Array.getD_eq_getD_getElem?] at hj
            rw [Array.getElem?_toList]
            cases hx : li[j]? with
            | none => rw [hx] at hj; cases hj
            | some b => rw [hx] at hj; simpa using hj
          have := List.count_pos_iff.2 (List.mem_of_getElem? this)
          omega
      exact ⟨he, hend li a w h he⟩
    | succ f ih =>
      intro li a w hc h
      refine ⟨fun he => hend li a w h he, fun i hi => ?_⟩
      obtain ⟨hu, o, ho, hd⟩ := mem_ready.1 hi
      obtain ⟨h1, h2⟩ := hstep li a w i o h hu ho hd
      have hcnt : (li.setIfInBounds i true).toList.count false ≤ f := by
        have hl : li.toList[i]? = some false := by
          rw [Array.getD_eq_getD_getElem?] at hu
          rw [Array.getElem?_toList]
          cases hx : li[i]? with
          | none => rw [hx] at hu; cases hu
          | some b => rw [hx] at hu; simpa using hu
        have := cf_set _ _ hl
        rw [Array.toList_setIfInBounds]
        omega
      unfold wpOp
      rw [ho]
      simp only [h1, if_true]
      refine .inl ?_
      unfold Oper.wp
      rcases h2 with ⟨v, w', hr, hI⟩ | ⟨w', hr, hI⟩ | ⟨f', args, hr, hc'⟩
      · rw [hr]; exact ih _ _ _ hcnt hI
      · rw [hr]; exact ih _ _ _ hcnt hI
      · rw [hr]
        exact hc'.mono fun e w'' ⟨v, he, hI⟩ => by subst he; exact ih _ _ _ hcnt hI
  exact main _ _ _ _ (by simp) h0
end
end Go.Proofs.YtfmeajanbmaimaaGreat.Ko
/- Regions whose order is drawn, with one store among operations that keep all that is older. -/
namespace Go.Proofs.YtfmeajanbmaimaaGreat.Ko
open Go.RowKit Go.Sort
section
variable {P : Program}
theorem getD_one {li : Array Bool} {i : Nat} (h : li.getD i true = false) : li.getD i false = false := by
  rw [Array.getD_eq_getD_getElem?] at h ⊢
  cases hx : li[i]? with
  | none => rw [hx] at h; cases h
  | some b => rw [hx] at h; simpa using h
theorem getD_oneS {li : Array Bool} {i : Nat} (h : li.getD i true = false) : (li.setIfInBounds i true).getD i false = true := by
  rw [Array.getD_eq_getD_getElem?] at h ⊢
  cases hx : li[i]? with
  | none => rw [hx] at h; cases h
  | some b => rw [Array.getElem?_setIfInBounds_self_of_lt (Array.getElem?_eq_some_iff.1 hx).1]; rfl
theorem getD_oneN {li : Array Bool} {i j : Nat} (h : j ≠ i) : (li.setIfInBounds i true).getD j false = li.getD j false := by
  rw [Array.getD_eq_getD_getElem?, Array.getElem?_setIfInBounds_ne (Ne.symm h), ← Array.getD_eq_getD_getElem?]
end
end Go.Proofs.YtfmeajanbmaimaaGreat.Ko
/- The law of a drawn region that makes blocks and fills maps that it has made: each new block belongs to the slot that it was made for, and a slot's facts speak of its own blocks and of older ones alone. -/
namespace Go.Proofs.YtfmeajanbmaimaaGreat.Ko
open Go.RowKit Go.Sort
section
variable {P : Program}
abbrev Own := Nat → Option Nat
def dstO (ops : Array Oper) (tgt : Nat → Option Nat) (n : Nat) : Bool := ((List.range ops.size).all fun i => match ops[i]? with | some o => (match o.dst with | some d => decide (d < n) && (tgt i).isNone | none => (match tgt i with | some m => o.after.any (fun e => Region.binds .any e && ((ops[e.on]?).bind (·.dst) == some m)) | none => false)) | none => true) && decide (dsts ops).Nodup
theorem dstO_of {ops : Array Oper} {tgt : Nat → Option Nat} {n : Nat} (h : dstO ops tgt n = true) {i : Nat} {o : Oper} (ho : ops[i]? = some o) :
    (∃ d, o.dst = some d ∧ d < n ∧ tgt i = none) ∨ (o.dst = none ∧ ∃ m, tgt i = some m ∧ ∃ e ∈ o.after, Region.binds .any e = true ∧ (ops[e.on]?).bind (·.dst) = some m) := by
  unfold dstO at h
  rw [Bool.and_eq_true, List.all_eq_true] at h
  have := h.1 i (List.mem_range.2 (Array.getElem?_eq_some_iff.1 ho).1)
  rw [ho] at this
  simp only at this
  cases hd : o.dst with
  | some d =>
    rw [hd] at this
    simp only [Bool.and_eq_true, decide_eq_true_eq, Option.isNone_iff_eq_none] at this
    exact .inl ⟨d, rfl, this.1, this.2⟩
  | none =>
    rw [hd] at this
    simp only at this
    cases ht : tgt i with
    | none => rw [ht] at this; cases this
    | some m =>
      rw [ht] at this
      simp only at this
      rw [Array.any_eq_true'] at this
      obtain ⟨e, he, h3⟩ := this
      rw [Bool.and_eq_true] at h3
      exact .inr ⟨rfl, m, rfl, e, he, h3.1, by simpa using h3.2⟩
theorem dstO_inj {ops : Array Oper} {tgt : Nat → Option Nat} {n : Nat} (h : dstO ops tgt n = true) {i j : Nat} {o o' : Oper} {d : Nat} (h1 : ops[i]? = some o) (h2 : ops[j]? = some o') (d1 : o.dst = some d) (d2 : o'.dst = some d) : i = j := by
  unfold dstO dsts at h
  rw [Bool.and_eq_true, decide_eq_true_eq] at h
  exact fm_inj h.2 (by rw [Array.getElem?_toList]; exact h1) (by rw [Array.getElem?_toList]; exact h2) d1 d2
/-- Whose the new blocks are. -/
def ownN (own : Own) (d : Nat) (W W' : World) : Own := fun j => if j < W.heap.size then own j else if j < W'.heap.size then some d else none
/-- What a new slot's facts may lean on. -/
structure Fresh (tgt : Nat → Option Nat) (d : Nat) (v : Value) (a' : Act) (li li' : Array Bool) (W W' : World) (own' : Own) (env' : Nat → Value) : Prop where
  own : ∀ j, W.heap.size ≤ j → j < W'.heap.size → own' j = some d
  val : env' d = v
  env : ∀ k, k ≠ d → env' k = a'.eval (.tmp k)
  done : ∀ j, li.getD j false = true → li'.getD j false = true
  ins : ∀ c, tgt c = some d → li'.getD c false = false
/-- The law. -/
theorem wp_region_own {l : List Oper} {id : Nat} {Q : Exit → Act → World → Prop} {a : Act} {w : World} (tgt : Nat → Option Nat) (G : Nat → Own → (Nat → Value) → Array Bool → World → Prop)
    (hm : P.follows .mixedOrders = true) (hback : backT l.toArray = true) (hdst : dstO l.toArray tgt a.tmps.size = true)
    (hloc : ∀ (d : Nat) (own own' : Own) (env env' : Nat → Value) (li li' : Array Bool) (W W' : World), G d own env li W →
      (∀ j, own j = some d → own' j = some d ∧ W'.heap[j]? = W.heap[j]?) → W.heap.size ≤ W'.heap.size → Below w.heap.size w W → Below w.heap.size w W' → env' d = env d →
      (∀ i k, li.getD i false = true → (l[i]?).bind (·.dst) = some k → env' k = env k) → (∀ i, li.getD i false = true → li'.getD i false = true) → (∀ c, tgt c = some d → li'.getD c false = li.getD c false) → G d own' env' li' W')
    (hstep : ∀ (a' : Act) (W : World) (own : Own) (li : Array Bool), Below w.heap.size w W → a'.tmps.size = a.tmps.size → (∀ k, (dsts l.toArray).contains k = false → a'.eval (.tmp k) = a.eval (.tmp k)) → (∀ j, own j ≠ none → w.heap.size ≤ j ∧ j < W.heap.size) →
      ∀ (i : Nat) (o : Oper) (d : Nat), l[i]? = some o → o.dst = some d → (∀ e ∈ o.after, Region.binds .any e = true → li.getD e.on false = true) →
      (∀ j dj, li.getD j false = true → (l[j]?).bind (·.dst) = some dj → G dj own (fun k => a'.eval (.tmp k)) li W) →
      Region.wanted o (yielded l.toArray a'.tmps) = true ∧ ((∃ v W', (execOp a'.eval o).run P W = .ok (.value v) W' ∧ Below W.heap.size W W' ∧ ∀ own' env' li', Fresh tgt d v a' li li' W W' own' env' → G d own' env' li' W') ∨
        (∃ f args, (execOp a'.eval o).run P W = .ok (.enter f args) W ∧ Calls P f args W fun e W' => ∃ v, e = .returned v ∧ Below W.heap.size W W' ∧ ∀ own' env' li', Fresh tgt d v a' li li' W W' own' env' → G d own' env' li' W')))
    (hst : ∀ (a' : Act) (W : World) (own : Own) (li : Array Bool), Below w.heap.size w W → (∀ k, (dsts l.toArray).contains k = false → a'.eval (.tmp k) = a.eval (.tmp k)) → (∀ j, own j ≠ none → w.heap.size ≤ j ∧ j < W.heap.size) →
      ∀ (c : Nat) (o : Oper) (m : Nat), l[c]? = some o → tgt c = some m → li.getD c false = false → (∀ e ∈ o.after, Region.binds .any e = true → li.getD e.on false = true) →
      (∀ j dj, li.getD j false = true → (l[j]?).bind (·.dst) = some dj → G dj own (fun k => a'.eval (.tmp k)) li W) →
      Region.wanted o (yielded l.toArray a'.tmps) = true ∧ ∃ W', (execOp a'.eval o).run P W = .ok .skip W' ∧ W.heap.size ≤ W'.heap.size ∧ Below w.heap.size w W' ∧ (∀ j, j < W.heap.size → own j ≠ some m → W'.heap[j]? = W.heap[j]?) ∧ ∀ li', (∀ j, li.getD j false = true → li'.getD j false = true) → li'.getD c false = true → (∀ j, j ≠ c → li'.getD j false = li.getD j false) → G m own (fun k => a'.eval (.tmp k)) li' W')
    (hend : ∀ a' W own li, Below w.heap.size w W → a'.tmps.size = a.tmps.size → a'.defers = a.defers → (∀ k, (dsts l.toArray).contains k = false → a'.eval (.tmp k) = a.eval (.tmp k)) → (∀ j, own j ≠ none → w.heap.size ≤ j ∧ j < W.heap.size) → (∀ j, j < l.length → li.getD j false = true) →
      (∀ (i d : Nat), i < l.length → (l[i]?).bind (·.dst) = some d → G d own (fun k => a'.eval (.tmp k)) li W) → Q .normal a' W) : (Code.region id l.toArray true).wp P Q a w := by
  refine wp_region_inv (fun li a' W => ClB l.toArray li ∧ li.size = l.length ∧ a'.tmps.size = a.tmps.size ∧ a'.defers = a.defers ∧ (∀ k, (dsts l.toArray).contains k = false → a'.eval (.tmp k) = a.eval (.tmp k)) ∧ Below w.heap.size w W ∧ ∃ own : Own, (∀ j, own j ≠ none → w.heap.size ≤ j ∧ j < W.heap.size) ∧ (∀ (i d : Nat), li.getD i false = true → (l[i]?).bind (·.dst) = some d → G d own (fun k => a'.eval (.tmp k)) li W)) hm ?_ ?_ ?_
  · rintro li a' W i o ⟨hcb, hsz, hs, hdf, hk, hB, own, hown, hG⟩ hu ho hd
    have hlo : l[i]? = some o := by simpa using ho
    have huf := getD_one hu
    have hset : ∀ j, li.getD j false = true → (li.setIfInBounds i true).getD j false = true := fun j hj => getD_set hj
    have hiT : (li.setIfInBounds i true).getD i false = true := getD_oneS hu
    rcases dstO_of hdst ho with ⟨d, hdo, hdn, htg⟩ | ⟨hdo, m, htg, em, hem, hbm, hdm⟩
    · obtain ⟨hw, h2⟩ := hstep a' W own li hB hs hk hown i o d hlo hdo hd hG
      have next : ∀ (v : Value) (W' : World), Below W.heap.size W W' → (∀ own' env' li', Fresh tgt d v a' li li' W W' own' env' → G d own' env' li' W') →
          ClB l.toArray (li.setIfInBounds i true) ∧ (li.setIfInBounds i true).size = l.length ∧ (a'.put o.dst v).tmps.size = a.tmps.size ∧ (a'.put o.dst v).defers = a.defers ∧ (∀ k, (dsts l.toArray).contains k = false → (a'.put o.dst v).eval (.tmp k) = a.eval (.tmp k)) ∧ Below w.heap.size w W' ∧ ∃ own' : Own, (∀ j, own' j ≠ none → w.heap.size ≤ j ∧ j < W'.heap.size) ∧ (∀ (j dj : Nat), (li.setIfInBounds i true).getD j false = true → (l[j]?).bind (·.dst) = some dj → G dj own' (fun k => (a'.put o.dst v).eval (.tmp k)) (li.setIfInBounds i true) W') := by
        intro v W' hb hv
        rw [hdo]
        have hBW' : Below w.heap.size w W' := hB.trans (hb.mono hB.size)
        refine ⟨hcb.set ho hd, by rw [Array.size_setIfInBounds]; exact hsz, by simp only [Act.put]; rw [Array.size_setIfInBounds]; exact hs, by simp only [Act.put]; exact hdf, ?_, hBW', ownN own d W W', ?_, ?_⟩
        · intro k hkn
          rw [put_ne a' v (fun e => by rw [e, List.contains_iff_mem.2 (mem_dsts ho hdo)] at hkn; cases hkn)]
          exact hk k hkn
        · intro j hj
          unfold ownN at hj
          have hz := hB.size
          split at hj
          · exact ⟨(hown j hj).1, Nat.lt_of_lt_of_le (hown j hj).2 hb.size⟩
          · rename_i h1
            split at hj
            · rename_i h3; exact ⟨by omega, h3⟩
            · exact absurd rfl hj
        · intro j dj hj hdj
          by_cases hij : j = i
          · subst hij
            rw [hlo] at hdj
            have : d = dj := Option.some.inj (hdo.symm.trans hdj)
            subst this
            refine hv _ _ _ ⟨fun q h1 h2 => ?_, put_eq a' v (by rw [hs]; exact hdn), fun k hne => put_ne a' v hne, hset, fun c hc => ?_⟩
            · unfold ownN
              rw [if_neg (by omega), if_pos h2]
            · have hcj : c ≠ j := fun e => by subst e; rw [htg] at hc; cases hc
              rw [getD_oneN hcj]
              cases hx : li.getD c false with
              | false => rfl
              | true =>
                exfalso
                cases hoc : l.toArray[c]? with
                | none =>
                  have h5 : ¬ c < l.length := fun hlt => by simp [hlt] at hoc
                  rw [Array.getD_eq_getD_getElem?, Array.getElem?_eq_none (by omega)] at hx
                  cases hx
                | some oc =>
                  rcases dstO_of hdst hoc with ⟨_, _, _, h6⟩ | ⟨_, m', h6, e6, he6, hb6, hd6⟩
                  · rw [hc] at h6; cases h6
                  · rw [hc] at h6
                    obtain rfl := Option.some.inj h6
                    have h7 := hcb c oc hoc hx e6 he6 hb6
                    cases ho6 : l.toArray[e6.on]? with
                    | none => rw [ho6] at hd6; cases hd6
                    | some o6 =>
                      rw [ho6] at hd6
                      have : e6.on = j := dstO_inj hdst ho6 ho hd6 hdo
                      rw [this, huf] at h7
                      cases h7
          · rw [getD_oneN hij] at hj
            have hne : dj ≠ d := by
              intro e
              subst e
              cases hoj : l[j]? with
              | none => rw [hoj] at hdj; cases hdj
              | some o' =>
                rw [hoj] at hdj
                exact hij (dstO_inj hdst (show l.toArray[j]? = some o' from by simpa using hoj) ho hdj hdo)
            refine hloc dj own _ _ _ li _ W W' (hG j dj hj hdj) (fun q hq => ?_) hb.size hB hBW' (put_ne a' v hne) (fun j2 k h3 h4 => ?_) hset (fun c hc => ?_)
            · have h9 := hown q (by rw [hq]; simp)
              refine ⟨?_, hb.block q h9.2⟩
              unfold ownN
              rw [if_pos h9.2]; exact hq
            · refine put_ne a' v (fun e => ?_)
              subst e
              cases hoj : l[j2]? with
              | none => rw [hoj] at h4; cases h4
              | some o' =>
                rw [hoj] at h4
                have : j2 = i := dstO_inj hdst (show l.toArray[j2]? = some o' from by simpa using hoj) ho h4 hdo
                rw [this, huf] at h3
                cases h3
            · exact getD_oneN (fun e => by subst e; rw [htg] at hc; cases hc)
      refine ⟨hw, ?_⟩
      rcases h2 with ⟨v, W', hr, hb, hv⟩ | ⟨f', args, hr, hc⟩
      · exact .inl ⟨v, W', hr, next v W' hb hv⟩
      · exact .inr (.inr ⟨f', args, hr, hc.mono fun e W' ⟨v, he, hb, hv⟩ => ⟨v, he, next v W' hb hv⟩⟩)
    · obtain ⟨hw, W', hr, hz, hBW', hsame, hGm⟩ := hst a' W own li hB hk hown i o m hlo htg huf hd hG
      have hput : a'.put o.dst undef = a' := by rw [hdo]; rfl
      refine ⟨hw, .inr (.inl ⟨W', hr, hcb.set ho hd, by rw [Array.size_setIfInBounds]; exact hsz, by rw [hput]; exact hs, by rw [hput]; exact hdf, by rw [hput]; exact hk, hBW', own, fun j hj => ⟨(hown j hj).1, Nat.lt_of_lt_of_le (hown j hj).2 hz⟩, ?_⟩)⟩
      intro j dj hj hdj
      rw [hput]
      by_cases hdm' : dj = m
      · subst hdm'
        exact hGm _ hset hiT (fun q hq => getD_oneN hq)
      · have hij : j ≠ i := fun e => by subst e; rw [hlo] at hdj; rw [show (some o).bind (·.dst) = o.dst from rfl, hdo] at hdj; cases hdj
        rw [getD_oneN hij] at hj
        refine hloc dj own own _ _ li _ W W' (hG j dj hj hdj) (fun q hq => ⟨hq, hsame q (hown q (by rw [hq]; simp)).2 (by rw [hq]; intro e; exact hdm' (Option.some.inj e))⟩) hz hB hBW' rfl (fun _ _ _ _ => rfl) hset (fun c hc => ?_)
        exact getD_oneN (fun e => by subst e; rw [htg] at hc; exact hdm' (Option.some.inj hc).symm)
  · rintro li a' W ⟨hcb, hsz, hs, hdf, hk, hB, own, hown, hG⟩ he
    have hall : ∀ j, j < l.length → li.getD j false = true := fun j hj => ready_nil_allT hback (by simpa using hsz) he j j (Nat.le_refl _) (by simpa using hj)
    exact hend a' W own li hB hs hdf hk hown hall (fun i d hi hd => hG i d (hall i hi) hd)
  · have h0 : ∀ i, (Array.replicate l.toArray.size false).getD i false = false := fun i => by
      rw [Array.getD_eq_getD_getElem?, Array.getElem?_replicate]; split <;> rfl
    refine ⟨?_, by simp, rfl, rfl, fun _ _ => rfl, (Below.refl w.heap.size w).drew, fun _ => none, fun j hj => absurd rfl hj, ?_⟩
    · intro i o _ hi; rw [h0] at hi; cases hi
    · intro i d hi; rw [h0] at hi; cases hi
end
end Go.Proofs.YtfmeajanbmaimaaGreat.Ko
namespace Go.Proofs.YtfmeajanbmaimaaGreat
open Go.RowKit Go.Sort
theorem isNumber_any (n : Int) (w : World) : Calls Tryz.prog 113 #[.int .i64 n] w fun e w' => e = .returned (.bool (Ho.isCt n)) ∧ w' = w := by
  by_cases h1 : 1 ≤ n <;> by_cases h2 : n ≤ 2305843009213693951 <;>
  · go_enter Tryz.func113, Tryz.ntmps113
    go_wp2
    go_ret
    exact ⟨by simp [Ho.isCt, h1, h2], rfl⟩
set_option maxRecDepth 100000 in
theorem canBoot_yes (r c t : Int) (w : World) (hr : Ho.isCt r = true) (hc : Ho.isCt c = true) (ht : Ho.isCt t = true) (h1 : r ≠ c) (h2 : r ≠ t) (h3 : c ≠ t) :
    Calls Tryz.prog 49 #[.agg #[.int .i64 r, .int .i64 c, .int .i64 t]] w fun e w' => e = .returned (.bool true) ∧ Below w.heap.size w w' := by
  have HN := Lib.hid isNumber_any
  have b1 : (r != c) = true := by simpa using h1
  have b2 : (r != t) = true := by simpa using h2
  have b3 : (c != t) = true := by simpa using h3
  go_enter Tryz.func49, Tryz.ntmps49
  go_wp2_with (go_at_call 113; refine (HN.out _ _).mono ?_; rintro e w2 ⟨rfl, hw2⟩; rw [hw2]; clear hw2 w2)
  go_ret
  exact ⟨rfl, (Below.refl _ _).alloc (Nat.le_refl _) _⟩
end Go.Proofs.YtfmeajanbmaimaaGreat
