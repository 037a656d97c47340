/- Regions whose order is drawn, with one store among operations that keep all that is older. -/
import Derived.Test.YtmgfakfiiaeofaaGreatKoRTail
import Derived.Orders
import Derived.StillTail
/- Regions whose order is drawn and whose operations keep all that is older: each operation by what its value is like, whichever others are done. -/
namespace Go.Proofs.YtmgfakfiiaeofaaGreat.Ko
open Go.RowKit Go.Sort
def dsts (ops : Array Oper) : List Nat := ops.toList.filterMap (·.dst)
def dstB (ops : Array Oper) (n : Nat) : Bool := ops.toList.all (fun o => match o.dst with | some d => decide (d < n) | none => false) && decide (dsts ops).Nodup
section
variable {P : Program} {ops : Array Oper}
theorem dst_of {n : Nat} (h : dstB ops n = true) {i : Nat} {o : Oper} (ho : ops[i]? = some o) : ∃ d, o.dst = some d /\ d < n := by
 unfold dstB at h
 rw [Bool.and_eq_true, List.all_eq_true] at h
 have hmem : o ∈ ops.toList := by rw [Array.mem_toList_iff]; exact Array.mem_of_getElem? ho
 have := h.1 o hmem
 cases hd : o.dst with
 | none => rw [hd] at this; cases this
 | some d => rw [hd] at this; exact ⟨d, rfl, by simpa using this⟩
theorem mem_dsts {i : Nat} {o : Oper} {d : Nat} (ho : ops[i]? = some o) (hd : o.dst = some d) : d ∈ dsts ops := by
 unfold dsts
 rw [List.mem_filterMap]
 exact ⟨o, by rw [Array.mem_toList_iff]; exact Array.mem_of_getElem? ho, hd⟩
theorem fm_inj {l : List Oper} (h : (l.filterMap (·.dst)).Nodup) : ∀ {i j : Nat} {o o' : Oper} {d : Nat}, l[i]? = some o -> l[j]? = some o' -> o.dst = some d -> o'.dst = some d -> i = j := by
 induction l with
 | nil => intro i j o o' d h1; simp at h1
 | cons x l ih =>
  intro i j o o' d h1 h2 d1 d2
  have hl : (l.filterMap (·.dst)).Nodup := by
   rw [List.filterMap_cons] at h
   split at h
   · exact h
   · exact (List.nodup_cons.1 h).2
  cases i with
  | zero =>
   cases j with
   | zero => rfl
   | succ j =>
    simp only [List.getElem?_cons_zero, Option.some.injEq] at h1
    simp only [List.getElem?_cons_succ] at h2
    subst h1
    rw [List.filterMap_cons, d1] at h
    exact absurd (List.mem_filterMap.2 ⟨o', List.mem_of_getElem? h2, d2⟩) (List.nodup_cons.1 h).1
  | succ i =>
   cases j with
   | zero =>
    simp only [List.getElem?_cons_zero, Option.some.injEq] at h2
    simp only [List.getElem?_cons_succ] at h1
    subst h2
    rw [List.filterMap_cons, d2] at h
    exact absurd (List.mem_filterMap.2 ⟨o, List.mem_of_getElem? h1, d1⟩) (List.nodup_cons.1 h).1
   | succ j =>
    simp only [List.getElem?_cons_succ] at h1 h2
    rw [ih hl h1 h2 d1 d2]
theorem dst_inj {n : Nat} (h : dstB ops n = true) {i j : Nat} {o o' : Oper} {d : Nat} (h1 : ops[i]? = some o) (h2 : ops[j]? = some o') (d1 : o.dst = some d) (d2 : o'.dst = some d) : i = j := by
 unfold dstB dsts at h
 rw [Bool.and_eq_true, decide_eq_true_eq] at h
 exact fm_inj h.2 (by rw [Array.getElem?_toList]; exact h1) (by rw [Array.getElem?_toList]; exact h2) d1 d2
theorem put_ne (a : Act) {d k : Nat} (v : Value) (h : k ≠ d) : (a.put (some d) v).eval (.tmp k) = a.eval (.tmp k) := by
 simp only [Act.put, Act.eval, Array.getD_eq_getD_getElem?]
 rw [Array.getElem?_setIfInBounds_ne (Ne.symm h)]
theorem put_eq (a : Act) {d : Nat} (v : Value) (h : d < a.tmps.size) : (a.put (some d) v).eval (.tmp d) = v := by
 simp only [Act.put, Act.eval, Array.getD_eq_getD_getElem?]
 rw [Array.getElem?_setIfInBounds_self_of_lt h]; rfl
theorem cnt_take (l : List Bool) (n i : Nat) (hi : i < n) (h : l[i]? = some false) : ((l.set i true).take n).count false + 1 = (l.take n).count false := by
 rw [List.take_set]
 exact cf_set (l.take n) i (by rw [List.getElem?_take_of_lt hi]; exact h)
def needB (ops : Array Oper) : Nat -> Nat -> Nat -> Bool
 | 0, _, _ => false
 | f + 1, i, j => match ops[i]? with | some o => o.after.any (fun e => Region.binds .any e && (e.on == j || needB ops f e.on j)) | none => false
def tailT (ops : Array Oper) (f n : Nat) : Bool := (List.range ops.size).all fun i => decide (i < n) || (List.range n).all (fun j => needB ops f i j)
def ClB (ops : Array Oper) (li : Array Bool) : Prop := ∀ i o, ops[i]? = some o -> li.getD i false = true -> ∀ e ∈ o.after, Region.binds .any e = true -> li.getD e.on false = true
theorem need_done {li : Array Bool} (hc : ClB ops li) : ∀ (f i j : Nat) (o : Oper), ops[i]? = some o -> (∀ e ∈ o.after, Region.binds .any e = true -> li.getD e.on false = true) -> needB ops f i j = true -> li.getD j false = true
 | 0, _, _, _, _, _, h => by cases h
 | f + 1, i, j, o, ho, hd, h => by
  unfold needB at h
  rw [ho] at h
  simp only [Array.any_eq_true', Bool.and_eq_true, Bool.or_eq_true, beq_iff_eq] at h
  obtain ⟨e, he, hb, hj⟩ := h
  have h1 := hd e he hb
  rcases hj with hj | hj
  · rw [<- hj]; exact h1
  · cases hoe : ops[e.on]? with
    | none => cases f <;> simp [needB, hoe] at hj
    | some o' => exact need_done hc f e.on j o' hoe (hc e.on o' hoe h1) hj
theorem tail_allT {f n : Nat} (h : tailT ops f n = true) {i : Nat} {o : Oper} (ho : ops[i]? = some o) (hi : n <= i) {li : Array Bool} (hc : ClB ops li) (hd : ∀ e ∈ o.after, Region.binds .any e = true -> li.getD e.on false = true) : ∀ j, j < n -> li.getD j false = true := by
 intro j hj
 have hlt : i < ops.size := (Array.getElem?_eq_some_iff.1 ho).1
 have h1 := List.all_eq_true.1 h i (List.mem_range.2 hlt)
 simp only [Bool.or_eq_true, decide_eq_true_eq, List.all_eq_true, List.mem_range] at h1
 rcases h1 with h1 | h1
 · omega
 · exact need_done hc f i j o ho hd (h1 j hj)
theorem getD_set {li : Array Bool} {i j : Nat} (h : li.getD j false = true) : (li.setIfInBounds i true).getD j false = true := by
 rw [Array.getD_eq_getD_getElem?] at h |-
 rw [Array.getElem?_setIfInBounds]
 split
 · split
   · rfl
   · rename_i h1 h2; subst h1; rw [Array.getElem?_eq_none (by omega)] at h; exact h
 · exact h
theorem ClB.set {li : Array Bool} (hc : ClB ops li) {i : Nat} {o : Oper} (ho : ops[i]? = some o) (hd : ∀ e ∈ o.after, Region.binds .any e = true -> li.getD e.on false = true) : ClB ops (li.setIfInBounds i true) := by
 intro k ok hk hkd e he hb
 by_cases hki : k = i
 · subst hki
   rw [hk] at ho; cases ho
   exact getD_set (hd e he hb)
 · refine getD_set (hc k ok hk ?_ e he hb)
   rw [Array.getD_eq_getD_getElem?, Array.getElem?_setIfInBounds_ne (Ne.symm hki)] at hkd
   rw [Array.getD_eq_getD_getElem?]; exact hkd
def backT (ops : Array Oper) : Bool := (List.range ops.size).all fun i => match ops[i]? with | some o => o.after.all (fun e => !(Region.binds .any e) || decide (e.on < i)) | none => true
theorem backT_lt {ops : Array Oper} (hb : backT ops = true) {i : Nat} {o : Oper} (ho : ops[i]? = some o) {e : _} (he : e ∈ o.after) (hbd : Region.binds .any e = true) : e.on < i := by
 have h1 := List.all_eq_true.1 hb i (List.mem_range.2 (Array.getElem?_eq_some_iff.1 ho).1)
 rw [ho] at h1
 have := Array.all_eq_true_iff_forall_mem.1 h1 e he
 rw [hbd] at this
 simpa using this
theorem ready_nil_allT {ops : Array Oper} {li : Array Bool} (hb : backT ops = true) (hs : li.size = ops.size) (h : Region.ready .any ops li = []) : ∀ (n i : Nat), i <= n -> i < ops.size -> li.getD i false = true := by
 intro n
 induction n with
 | zero =>
  intro i hi hlt
  obtain rfl : i = 0 := by omega
  by_cases hu : li.getD 0 true = false
  · have : 0 ∈ Region.ready .any ops li := mem_ready.2 ⟨hu, ops[0], Array.getElem?_eq_getElem hlt, fun e he hbd => by
     have := backT_lt hb (Array.getElem?_eq_getElem hlt) he hbd
     omega⟩
    rw [h] at this; cases this
  · have hl : 0 < li.size := by omega
    simp [Array.getD_eq_getD_getElem?, Array.getElem?_eq_getElem hl] at hu |-; exact hu
 | succ n ih =>
  intro i hi hlt
  by_cases hu : li.getD i true = false
  · have : i ∈ Region.ready .any ops li := mem_ready.2 ⟨hu, ops[i], Array.getElem?_eq_getElem hlt, fun e he hbd => by
     have := backT_lt hb (Array.getElem?_eq_getElem hlt) he hbd
     exact ih e.on (by omega) (by omega)⟩
    rw [h] at this; cases this
  · have hl : i < li.size := by omega
    simp [Array.getD_eq_getD_getElem?, Array.getElem?_eq_getElem hl] at hu |-; exact hu
theorem wp_region_monoT {l : List Oper} {id : Nat} {Q : Exit -> Act -> World -> Prop} {a : Act} {w : World} (f n : Nat) (G : Nat -> Value -> World -> Prop)
 (hm : P.follows .mixedOrders = true) (hback : backT l.toArray = true) (hdst : dstB (l.take n).toArray a.tmps.size = true) (htail : tailT l.toArray f n = true) (hn : n <= l.length)
 (hseq : Region.seqB .any l.toArray (l.length - n) n (List.replicate n true ++ List.replicate (l.length - n) false).toArray = true)
 (hmono : ∀ k v W W', G k v W -> Below W.heap.size W W' -> G k v W')
 (hstep : ∀ (a' : Act) (W : World), Below w.heap.size w W -> a'.tmps.size = a.tmps.size -> (∀ k, (dsts (l.take n).toArray).contains k = false -> a'.eval (.tmp k) = a.eval (.tmp k)) ->
  ∀ (i : Nat) (o : Oper) (d : Nat), (l.take n)[i]? = some o -> o.dst = some d ->
  (∀ e ∈ o.after, Region.binds .any e = true -> ∀ d', (l[e.on]?).bind (·.dst) = some d' -> G d' (a'.eval (.tmp d')) W) ->
  (Region.wanted o (yielded l.toArray a'.tmps) = false /\ G d undef W) ∨
  (Region.wanted o (yielded l.toArray a'.tmps) = true /\ ((∃ v W', (execOp a'.eval o).run P W = .ok (.value v) W' /\ Below W.heap.size W W' /\ G d v W') ∨
   (∃ f args, (execOp a'.eval o).run P W = .ok (.enter f args) W /\ Calls P f args W fun e W' => ∃ v, e = .returned v /\ Below W.heap.size W W' /\ G d v W'))))
 (hend : ∀ a' W, Below w.heap.size w W -> a'.tmps.size = a.tmps.size -> a'.defers = a.defers -> (∀ k, (dsts (l.take n).toArray).contains k = false -> a'.eval (.tmp k) = a.eval (.tmp k)) ->
  (∀ (i d : Nat), i < n -> (l[i]?).bind (·.dst) = some d -> G d (a'.eval (.tmp d)) W) -> wpList P l.toArray Q (l.drop n) a' W) : (Code.region id l.toArray true).wp P Q a w := by
 refine wp_region_any hm ?_
 have main : ∀ (f : Nat) (li : Array Bool) (a' : Act) (W : World), ClB l.toArray li -> (li.toList.take n).count false = f -> li.size = l.length -> li.toList.drop n = List.replicate (l.length - n) false -> Below w.heap.size w W -> a'.tmps.size = a.tmps.size -> a'.defers = a.defers -> (∀ k, (dsts (l.take n).toArray).contains k = false -> a'.eval (.tmp k) = a.eval (.tmp k)) ->
  (∀ (i d : Nat), i < n -> li.getD i false = true -> (l[i]?).bind (·.dst) = some d -> G d (a'.eval (.tmp d)) W) -> wpAny P .any l.toArray Q (f + (l.length - n)) li a' W := by
  intro f
  induction f with
  | zero =>
   intro li a' W hcl hc hsz ht hB hs hdf hk hG
   have hall : ∀ i, i < n -> li.getD i false = true := fun i hi => by
    have hlt : i < li.toList.length := by simp; omega
    have h1 : ¬ false ∈ li.toList.take n := by rw [<- List.count_pos_iff]; omega
    have h2 : li.toList[i] ∈ li.toList.take n := List.mem_take_iff_getElem.2 ⟨i, by omega, rfl⟩
    have h3 : li.toList[i] = true := by
     cases hx : li.toList[i] with
     | true => rfl
     | false => rw [hx] at h2; exact absurd h2 h1
    rw [Array.getD_eq_getD_getElem?, <- Array.getElem?_toList, List.getElem?_eq_getElem hlt, h3]; rfl
   have hli : li = (List.replicate n true ++ List.replicate (l.length - n) false).toArray := by
    apply Array.toList_inj.1
    rw [<- List.take_append_drop n li.toList, ht]
    congr 1
    apply List.ext_getElem (by simp; omega)
    intro i h1 h2
    simp only [List.getElem_take, List.getElem_replicate]
    have hi : i < n := by simp at h2; exact h2
    have := hall i hi
    have hlt : i < li.size := by omega
    rw [Array.getD_eq_getD_getElem?, Array.getElem?_eq_getElem hlt] at this
    simpa using this
   have hw := hend a' W hB hs hdf hk fun i d hi hd => hG i d hi (hall i hi) hd
   have := wpAny_of_seq (P := P) (ops := l.toArray) (md := .any) (Q' := Q) (l.drop n) n li a' W (fun j => by simp [List.getElem?_drop]) (by rw [hli, List.length_drop]; exact hseq) hw
   rw [List.length_drop] at this
   rw [Nat.zero_add]
   exact this
  | succ f ih =>
   intro li a' W hcl hc hsz ht hB hs hdf hk hG
   rw [Nat.succ_add]
   have hnot : ¬ ∀ j, j < n -> li.getD j false = true := by
    intro hall
    have hp : 0 < (li.toList.take n).count false := by omega
    have h2 := List.count_pos_iff.1 hp
    obtain ⟨i, hi, he⟩ := List.mem_take_iff_getElem.1 h2
    have hin : i < n := by omega
    have hil : i < li.toList.length := by omega
    have := hall i hin
    rw [Array.getD_eq_getD_getElem?, <- Array.getElem?_toList, List.getElem?_eq_getElem hil, he] at this
    cases this
   refine ⟨fun he => ?_, fun i hi => ?_⟩
   · exact absurd (fun j hj => ready_nil_allT hback (by simpa using hsz) he j j (Nat.le_refl _) (by simp; omega)) hnot
   · obtain ⟨hu, o, ho, hd⟩ := mem_ready.1 hi
     have hin : i < n := Nat.lt_of_not_le fun h => hnot (tail_allT htail ho h hcl hd)
     have ho' : (l.take n)[i]? = some o := by rw [List.getElem?_take_of_lt hin]; simpa using ho
     have hoa : (l.take n).toArray[i]? = some o := by simpa using ho'
     obtain ⟨d, hdo, hdn⟩ := dst_of hdst hoa
     have hl : li.toList[i]? = some false := by
      rw [Array.getD_eq_getD_getElem?] at hu
      rw [Array.getElem?_toList]
      cases hx : li[i]? with
      | none => rw [hx] at hu; cases hu
      | some b => rw [hx] at hu; simpa using hu
     have next : ∀ (v : Value) (W' : World), Below W.heap.size W W' -> G d v W' -> wpAny P .any l.toArray Q (f + (l.length - n)) (li.setIfInBounds i true) (a'.put o.dst v) W' := by
      intro v W' hb hv
      rw [hdo]
      refine ih _ _ _ (hcl.set ho hd) ?_ (by rw [Array.size_setIfInBounds]; exact hsz) ?_ (hB.trans (hb.mono hB.size)) (by simp only [Act.put]; rw [Array.size_setIfInBounds]; exact hs) (by simp only [Act.put]; exact hdf) ?_ ?_
      · have := cnt_take li.toList n i hin hl
        rw [Array.toList_setIfInBounds]; omega
      · rw [Array.toList_setIfInBounds, List.drop_set_of_lt hin]; exact ht
      · intro k hkn
        rw [put_ne a' v (fun e => by rw [e, List.contains_iff_mem.2 (mem_dsts hoa hdo)] at hkn; cases hkn)]
        exact hk k hkn
      · intro j dj hjn hj hdj
        by_cases hij : j = i
        · subst hij
          rw [show l[j]? = some o from by simpa using ho] at hdj
          have : d = dj := Option.some.inj (hdo.symm.trans hdj)
          subst this
          rw [put_eq a' v (by rw [hs]; exact hdn)]
          exact hv
        · have hj' : li.getD j false = true := by
           rw [Array.getD_eq_getD_getElem?, Array.getElem?_setIfInBounds_ne (Ne.symm hij)] at hj
           rw [Array.getD_eq_getD_getElem?]; exact hj
          have hne : dj ≠ d := by
           intro e
           subst e
           cases hoj : l[j]? with
           | none => rw [hoj] at hdj; cases hdj
           | some o' =>
            rw [hoj] at hdj
            exact hij (dst_inj hdst (show (l.take n).toArray[j]? = some o' from by simp [List.getElem?_take_of_lt hjn, hoj]) hoa hdj hdo)
          rw [put_ne a' v hne]
          exact hmono _ _ _ _ (hG j dj hjn hj' hdj) hb
     unfold wpOp
     rw [ho]
     simp only
     have hdeps : ∀ e ∈ o.after, Region.binds .any e = true -> ∀ d', (l[e.on]?).bind (·.dst) = some d' -> G d' (a'.eval (.tmp d')) W := by
      intro e he hbd d' hd'
      have hlt : e.on < i := backT_lt hback ho he hbd
      exact hG e.on d' (by omega) (hd e he hbd) hd'
     rcases hstep a' W hB hs hk i o d ho' hdo hdeps with ⟨hw, hg⟩ | ⟨hw, h2⟩
     · simp only [hw, Bool.false_eq_true, if_false]
       exact next undef W (Below.refl _ _) hg
     · simp only [hw, if_true]
       refine .inl ?_
       unfold Oper.wp
       rcases h2 with ⟨v, w', hr, hb, hI⟩ | ⟨f', args, hr, hc'⟩
       · rw [hr]; exact next v w' hb hI
       · rw [hr]
         exact hc'.mono fun e w'' ⟨v, he, hb, hI⟩ => by subst he; exact next v w'' hb hI
 have h0 : ((Array.replicate l.toArray.size false).toList.take n).count false = n := by simp [List.take_replicate]; omega
 have := main n (Array.replicate l.toArray.size false) a { w with drawn := w.drawn + 1 } (fun i o _ hi => by rw [Array.getD_eq_getD_getElem?, Array.getElem?_replicate] at hi; split at hi <;> simp at hi) h0 (by simp) (by simp) ((Below.refl w.heap.size w).drew) rfl rfl (fun _ _ => rfl) (by
  intro i d _ hi
  rw [Array.getD_eq_getD_getElem?, Array.getElem?_replicate] at hi
  split at hi <;> simp at hi)
 rw [show n + (l.length - n) = l.toArray.size from by simp; omega] at this
 exact this
end
theorem arr_of (tm : Array Value) (l : List Value) (hs : tm.size = l.length) (h : (List.range l.length).map (fun k => tm.getD k undef) = l) : tm = l.toArray := by
 apply Array.ext
 · simpa using hs
 · intro i h1 h2
   have h2' : i < l.length := by simpa using h2
   have e : ((List.range l.length).map (fun k => tm.getD k undef))[i]? = l[i]? := by rw [h]
   rw [List.getElem?_map, List.getElem?_range h2', List.getElem?_eq_getElem h2'] at e
   simp only [Option.map_some, Option.some.injEq] at e
   rw [Array.getD_eq_getD_getElem?, Array.getElem?_eq_getElem h1] at e
   simpa using e
section
variable {P : Program} {ops : Array Oper}
theorem wp_region_inv {id : Nat} {Q : Exit -> Act -> World -> Prop} {a : Act} {w : World} (I : Array Bool -> Act -> World -> Prop) (hm : P.follows .mixedOrders = true)
 (hstep : ∀ li a w i o, I li a w -> li.getD i true = false -> ops[i]? = some o -> (∀ e ∈ o.after, Region.binds .any e = true -> li.getD e.on false = true) -> Region.wanted o (yielded ops a.tmps) = true /\
  ((∃ v w', (execOp a.eval o).run P w = .ok (.value v) w' /\ I (li.setIfInBounds i true) (a.put o.dst v) w') ∨
   (∃ w', (execOp a.eval o).run P w = .ok .skip w' /\ I (li.setIfInBounds i true) (a.put o.dst undef) w') ∨
   (∃ f args, (execOp a.eval o).run P w = .ok (.enter f args) w /\ Calls P f args w fun e w' => ∃ v, e = .returned v /\ I (li.setIfInBounds i true) (a.put o.dst v) w')))
 (hend : ∀ li a w, I li a w -> Region.ready .any ops li = [] -> Q .normal a w) (h0 : I (Array.replicate ops.size false) a { w with drawn := w.drawn + 1 }) : (Code.region id ops true).wp P Q a w := by
 refine wp_region_any hm ?_
 have main : ∀ (fuel : Nat) (li : Array Bool) (a : Act) (w : World), li.toList.count false <= fuel -> I li a w -> wpAny P .any ops Q fuel li a w := by
  intro fuel
  induction fuel with
  | zero =>
   intro li a w hc h
   have he : Region.ready .any ops li = [] := by
    cases hr : Region.ready .any ops li with
    | nil => rfl
    | cons j r =>
     have hj := (mem_ready.1 (show j ∈ Region.ready .any ops li from by rw [hr]; exact List.mem_cons_self ..)).1
     exfalso
     have : li.toList[j]? = some false := by
      rw [Array.getD_eq_getD_getElem?] at hj
      rw [Array.getElem?_toList]
      cases hx : li[j]? with
      | none => rw [hx] at hj; cases hj
      | some b => rw [hx] at hj; simpa using hj
     have := List.count_pos_iff.2 (List.mem_of_getElem? this)
     omega
   exact ⟨he, hend li a w h he⟩
  | succ f ih =>
   intro li a w hc h
   refine ⟨fun he => hend li a w h he, fun i hi => ?_⟩
   obtain ⟨hu, o, ho, hd⟩ := mem_ready.1 hi
   obtain ⟨h1, h2⟩ := hstep li a w i o h hu ho hd
   have hcnt : (li.setIfInBounds i true).toList.count false <= f := by
    have hl : li.toList[i]? = some false := by
     rw [Array.getD_eq_getD_getElem?] at hu
     rw [Array.getElem?_toList]
     cases hx : li[i]? with
     | none => rw [hx] at hu; cases hu
     | some b => rw [hx] at hu; simpa using hu
    have := cf_set _ _ hl
    rw [Array.toList_setIfInBounds]
    omega
   unfold wpOp
   rw [ho]
   simp only [h1, if_true]
   refine .inl ?_
   unfold Oper.wp
   rcases h2 with ⟨v, w', hr, hI⟩ | ⟨w', hr, hI⟩ | ⟨f', args, hr, hc'⟩
   · rw [hr]; exact ih _ _ _ hcnt hI
   · rw [hr]; exact ih _ _ _ hcnt hI
   · rw [hr]
     exact hc'.mono fun e w'' ⟨v, he, hI⟩ => by subst he; exact ih _ _ _ hcnt hI
 exact main _ _ _ _ (by simp) h0
end
section
variable {P : Program}
theorem getD_one {li : Array Bool} {i : Nat} (h : li.getD i true = false) : li.getD i false = false := by
 rw [Array.getD_eq_getD_getElem?] at h |-
 cases hx : li[i]? with
 | none => rw [hx] at h; cases h
 | some b => rw [hx] at h; simpa using h
theorem getD_oneS {li : Array Bool} {i : Nat} (h : li.getD i true = false) : (li.setIfInBounds i true).getD i false = true := by
 rw [Array.getD_eq_getD_getElem?] at h |-
 cases hx : li[i]? with
 | none => rw [hx] at h; cases h
 | some b => rw [Array.getElem?_setIfInBounds_self_of_lt (Array.getElem?_eq_some_iff.1 hx).1]; rfl
theorem getD_oneN {li : Array Bool} {i j : Nat} (h : j ≠ i) : (li.setIfInBounds i true).getD j false = li.getD j false := by
 rw [Array.getD_eq_getD_getElem?, Array.getElem?_setIfInBounds_ne (Ne.symm h), <- Array.getD_eq_getD_getElem?]
end
end Go.Proofs.YtmgfakfiiaeofaaGreat.Ko
