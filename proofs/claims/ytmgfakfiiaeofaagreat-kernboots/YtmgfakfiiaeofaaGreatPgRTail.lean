/- The same as Tail, within a round of a range over a function. -/
import Derived.StillTail
import Derived.Deep.Quiet
import Derived.WalkKit
import Derived.Handy
import Derived.BigQuiet
import Derived.Shelf.SlSortCmp.QuietGrown
import Derived.OrdersIn
import Derived.TacticsIn
import Derived.RangeFuncCalls
/- Regions that draw their order, whose first operations leave the world within a class and whose last ones come in one order only: one walk serves every order. -/
namespace Go.Proofs.YtmgfakfiiaeofaaGreat.Pg
open Go.RowKit Go.Sort

section
variable {P : Program} {ops : Array Oper} {md : Region.Mode} {C : World -> Prop} {n : Nat} {L : Array Bool -> Act -> Prop}

def anyHd (P : Program) (md : Region.Mode) (ops : Array Oper) (C : World -> Prop) (n : Nat) (L : Array Bool -> Act -> Prop) : Nat -> Array Bool -> Act -> Prop
 | 0, li, a => L li a
 | f + 1, li, a => (∃ i, i ∈ Region.ready md ops li) /\ ∀ i ∈ Region.ready md ops li, i < n /\ qOp P ops C i (anyHd P md ops C n L f (li.setIfInBounds i true)) a

theorem head_lt {li : Array Bool} {i j : Nat} (hs : Region.sinkB md ops n = true) (hc : Region.chainB md ops n = true) (hn : n < ops.size) (inv : HeadInv md ops n li) (hi : i < n) (hu : li.getD i true = false) (hj : j ∈ Region.ready md ops li) : j < n :=
 Nat.lt_of_not_le fun h => tail_waits hs hc hn inv _ i rfl hi hu j h hj

theorem anyHd_take {i : Nat} {o : Oper} {v : Value} (ho : ops[i]? = some o) (hsel : ∀ (j : Nat) (o : Oper) cs b, ops[j]? = some o -> o.op ≠ .select cs b)
 (hs : Region.sinkB md ops n = true) (hc : Region.chainB md ops n = true) (hn : n < ops.size) (hi : i < n) (hend : ∀ li a, L li a -> ∀ j ∈ Region.ready md ops li, n <= j) (f : Nat) :
 ∀ (li : Array Bool) (a : Act), HeadInv md ops n li -> (∀ j oj, ops[j]? = some oj -> j ≠ i -> li.getD j true = false -> (∀ e ∈ oj.after, Region.binds md e = true -> e.on ≠ i) -> o.apart ops oj = true) ->
  i ∈ Region.ready md ops li -> YieldsIn P ops C o v a -> anyHd P md ops C n L f (li.setIfInBounds i true) (a.put o.dst v) -> anyHd P md ops C n L (f + 1) li a := by
 induction f with
 | zero =>
  intro li a inv _ hr hy H
  refine ⟨⟨i, hr⟩, fun j hj => ?_⟩
  have hjn := head_lt hs hc hn inv hi (mem_ready.1 hr).1 hj
  by_cases e : j = i
  · subst e; exact ⟨hjn, hy.qOp ho H⟩
  · exact absurd (hend _ _ H j (ready_mono hj e)) (Nat.not_le.2 hjn)
 | succ f ih =>
  intro li a inv hap hr hy H
  refine ⟨⟨i, hr⟩, fun j hj => ?_⟩
  have hu := (mem_ready.1 hr).1
  have hjn := head_lt hs hc hn inv hi hu hj
  refine ⟨hjn, ?_⟩
  by_cases e : j = i
  · subst e; exact hy.qOp ho H
  obtain ⟨hju, oj, hoj, hdep⟩ := mem_ready.1 hj
  have hno : ∀ x ∈ oj.after, Region.binds md x = true -> x.on ≠ i := by
   intro x hx hb hxi
   have h1 := hdep x hx hb
   rw [hxi, getD_both hu] at h1
   exact absurd h1 (by simp)
  refine qOp_mono (fun a' h => ?_) (qOp_put hoj (hap j oj hoj e hju hno) (fun cs b => hsel i o cs b ho) (fun cs b => hsel j oj cs b hoj) hy (H.2 j (ready_mono hj e)).2)
  refine ih (li.setIfInBounds j true) a' (inv.set hj hjn) (fun k ok hk hki hku => hap k ok hk hki ?_) (ready_mono hr (Ne.symm e)) h.1 ?_
  · by_cases ejk : j = k
    · subst ejk; exact hju
    · rwa [getD_set_ne true ejk] at hku
  · rw [Array.setIfInBounds_comm _ _ e]; exact h.2

theorem anyHd_lex {g : Nat} {R : Act -> Prop} (hsel : Region.noSelect ops = true) (hs : Region.sinkB md ops n = true) (hc : Region.chainB md ops n = true) (hn : n < ops.size) (l : List Oper) :
 ∀ (k : Nat) (li : Array Bool) (a : Act), (∀ j, j < l.length -> l[j]? = ops[k + j]?) -> k + l.length = n -> HeadInv md ops n li -> Region.lexHead md ops g l.length k li = true -> wpQuiet P ops C R l a ->
  anyHd P md ops C n (fun li' a' => Region.seqB md ops g n li' = true /\ R a') l.length li a := by
 induction l with
 | nil =>
  intro k li a _ hk _ hB h
  simp only [List.length_nil, Nat.add_zero] at hk
  subst hk
  exact ⟨hB, h⟩
 | cons o l ih =>
  intro k li a hl hk inv hB h
  have h0 : ops[k]? = some o := by simpa using (hl 0 (by simp)).symm
  rw [List.length_cons] at hk hB
  rw [Region.lexHead, Bool.and_eq_true, Bool.and_eq_true] at hB
  have hr : k ∈ Region.ready md ops li := by simpa using hB.1.1
  have hq : qOp P ops C k (wpQuiet P ops C R l) a := by unfold qOp; rw [h0]; exact h
  obtain ⟨v, hy, hK⟩ := yieldsIn_of_qOp h0 hq
  refine anyHd_take h0 (Region.noSelect_spec hsel) hs hc hn (by omega) (fun _ _ hL => seqB_ready hL.1) l.length li a inv (Region.free_spec h0 hB.1.2) hr hy ?_
  refine ih (k + 1) _ _ (fun j hj => ?_) (by omega) (inv.set hr (by omega)) hB.2 hK
  have := hl (j + 1) (by simp; omega)
  rw [Nat.add_assoc, Nat.add_comm 1 j, <- this]; simp

end

section
variable {P : Program} {ops : Array Oper} {md : Region.Mode} {C : World -> Prop} {n m l : Nat} {L : Array Bool -> Act -> Prop}
def noDefer (ops : List Oper) : Bool := ops.all fun o => match o.op with | .defer _ => false | _ => true
theorem noDefer_spec {ops : Array Oper} (h : noDefer ops.toList = true) {i : Nat} {o : Oper} (ho : ops[i]? = some o) : ∀ c, o.op ≠ .defer c := fun c e => by
 have := List.all_eq_true.1 h o (by have := Array.mem_of_getElem? ho; simpa using this)
 simp [e] at this
theorem wpIn_of_quiet {o : Oper} {a : Act} {K : Act -> Prop} {K' : Act -> World -> Prop} {Q' : Exit -> Act -> World -> Prop} {w : World} (hnd : ∀ c, o.op ≠ .defer c) (hw : C w) (h : ∀ a w', C w' -> K a -> K' a w') (hh : o.quiet P a C K) : o.wpIn (Fence.wide.inRound l) m P a w K' Q' := by
 obtain ⟨v, h1, h2⟩ := hh
 have h3 := h1 w hw
 unfold Oper.quietAt at h3
 refine ⟨fun _ _ => trivial, ?_⟩
 rw [Oper.semAt_eq _ _ _ hnd]
 generalize (execOp a.eval o).run P w = r at *
 cases r with
 | ok n w' =>
  cases n <;> simp only [Oper.quietUpon] at h3 <;> simp only [Oper.uponIn]
  case value u =>
   obtain ⟨e1, e2⟩ := h3
   rw [e1, e2]
   exact h _ _ hw h2
  case skip =>
   obtain ⟨e1, e2⟩ := h3
   rw [e1, <- e2]
   exact h _ _ hw h2
  case enter f args =>
   obtain ⟨e1, hc⟩ := h3
   rw [e1]
   refine ⟨(fun h => by cases h), ?_⟩
   exact (CallsIn.inRound l (callsIn_wide.2 hc)).mono fun e w'' ⟨he, hw''⟩ => by subst he; exact h _ _ hw'' h2
 | halt x w' => simp only [Oper.quietUpon] at h3
theorem wpOpIn_of_qOp (hnd : noDefer ops.toList = true) {i : Nat} {a : Act} {K : Act -> Prop} {K' : Act -> World -> Prop} {Q' : Exit -> Act -> World -> Prop} {w : World} (hC : C w) (h : ∀ a w', C w' -> K a -> K' a w') (hh : qOp P ops C i K a) : wpOpIn (Fence.wide.inRound l) m P ops Q' i K' a w := by
 unfold qOp at hh
 unfold wpOpIn
 split
 · rename_i ho; simp only [ho] at hh; exact h _ _ hC hh
 · rename_i o ho
   simp only [ho] at hh
   split
   · rename_i hw; simp only [hw, if_true] at hh; exact wpIn_of_quiet (noDefer_spec hnd ho) hC h hh
   · rename_i hw; simp only [hw] at hh; exact ⟨fun _ _ => trivial, h _ _ hC hh⟩
theorem anyHd_wpIn (hnd : noDefer ops.toList = true) {g : Nat} {Q : Exit -> Act -> World -> Prop} (hL : ∀ li a w, C w -> L li a -> wpAnyIn (Fence.wide.inRound l) m P md ops Q g li a w) (f : Nat) :
 ∀ li a w, C w -> anyHd P md ops C n L f li a -> wpAnyIn (Fence.wide.inRound l) m P md ops Q (f + g) li a w := by
 induction f with
 | zero => intro li a w hw h; rw [Nat.zero_add]; exact hL li a w hw h
 | succ f ih =>
  intro li a w hw h
  obtain ⟨⟨i0, hi0⟩, h⟩ := h
  rw [Nat.succ_add]
  exact ⟨fun e => (by rw [e] at hi0; cases hi0), fun i hi => wpOpIn_of_qOp hnd hw (fun a' w' hw' h' => ih _ a' w' hw' h') (h i hi).2⟩
theorem wpAnyIn_of_seq {F : Fence} {Q' : Exit -> Act -> World -> Prop} : ∀ (l : List Oper) (k : Nat) (listed : Array Bool) (a : Act) (w : World), (∀ j, l[j]? = ops[k + j]?) ->
 Region.seqB md ops l.length k listed = true -> wpListIn F m P ops Q' l a w -> wpAnyIn F m P md ops Q' l.length listed a w
 | [], _, _, _, _, _, hB, h => ⟨by simpa [Region.seqB] using hB, h⟩
 | o :: l, k, listed, a, w, hl, hB, h => by
  have h0 : ops[k]? = some o := by simpa using (hl 0).symm
  simp only [List.length_cons, Region.seqB, Bool.and_eq_true, decide_eq_true_eq] at hB
  refine ⟨fun h1 => (by rw [hB.1] at h1; cases h1), fun i hi => ?_⟩
  rw [hB.1] at hi
  have hik : i = k := by simpa using hi
  subst hik
  have hw : wpOpIn F m P ops Q' i (wpListIn F m P ops Q' l) a w := by unfold wpOpIn; simp only [h0]; exact h
  exact wpOpIn_mono (fun a' w' h' => wpAnyIn_of_seq l (i + 1) _ a' w' (fun j => by have := hl (j + 1); rw [Nat.add_assoc, Nat.add_comm 1 j, <- this]; simp) hB.2 h') hw
theorem wpIn_region_quiet_tail {id : Nat} {Q : Exit -> Act -> World -> Prop} {a : Act} {w : World} {ol : List Oper} (k : Nat) (hm : P.follows .mixedOrders = true) (hnd : noDefer ol = true) (hB : Region.lexTailB .any ol.toArray k = true) (hC : C { w with drawn := w.drawn + 1 })
 (h : wpQuiet P ol.toArray C (fun a' => ∀ w', C w' -> wpListIn (Fence.wide.inRound l) m P ol.toArray Q (ol.drop k) a' w') (ol.take k) a) : (Code.region id ol.toArray true).wpIn (Fence.wide.inRound l) m P Q a w := by
 simp only [Region.lexTailB, Bool.and_eq_true, decide_eq_true_eq] at hB
 obtain ⟨⟨⟨⟨h1, h2⟩, h3⟩, h4⟩, h5⟩ := hB
 have hn : k < ol.length := by simpa using h2
 have e1 : (ol.take k).length = k := by rw [List.length_take]; omega
 have e2 : (ol.drop k).length = ol.toArray.size - k := by simp
 have inv : HeadInv .any ol.toArray k (Array.replicate ol.toArray.size false) :=
  ⟨by simp, fun j oj _ hl => (by rw [getD_replicate_false] at hl; cases hl), fun t _ ht => getD_in (by simpa using ht) (getD_replicate_false _ _)⟩
 have H := anyHd_lex (C := C) (md := .any) (g := ol.toArray.size - k) h1 h3 h4 h2 (ol.take k) 0 _ a (fun j hj => by rw [e1] at hj; simp [hj]) (by rw [e1, Nat.zero_add]) inv (by rw [e1]; exact h5) h
 refine wpIn_region_any hm ?_
 have G := anyHd_wpIn (l := l) (m := m) (g := ol.toArray.size - k) (Q := Q) (by simpa using hnd) (fun li a' w' hw' hL => by
  have := wpAnyIn_of_seq (md := .any) (Q' := Q) (ol.drop k) k li a' w' (fun j => by simp [List.getElem?_drop]) (by rw [e2]; exact hL.1) (hL.2 w' hw')
  rwa [e2] at this) _ _ _ _ hC H
 rw [e1, show k + (ol.toArray.size - k) = ol.toArray.size from by simp at h2 |-; omega] at G
 exact G
theorem cf_set : ∀ (l : List Bool) (i : Nat), l[i]? = some false -> (l.set i true).count false + 1 = l.count false
 | [], i, h => by simp at h
 | b :: l, 0, h => by have : b = false := by simpa using h
                      subst this; simp
 | b :: l, i + 1, h => by
  have := cf_set l i (by simpa using h)
  cases b <;> simp_all <;> omega
theorem wpAnyIn_inv {F : Fence} {Q : Exit -> Act -> World -> Prop} (I : Array Bool -> Act -> World -> Prop)
 (hstep : ∀ li a w i o, I li a w -> li.getD i true = false -> ops[i]? = some o -> (∀ e ∈ o.after, Region.binds md e = true -> li.getD e.on false = true) -> Region.wanted o (yielded ops a.tmps) = true /\ o.wpIn F m P a w (I (li.setIfInBounds i true)) Q)
 (hend : ∀ li a w, I li a w -> Region.ready md ops li = [] -> Q .normal a w) :
 ∀ (fuel : Nat) (li : Array Bool) (a : Act) (w : World), li.toList.count false <= fuel -> I li a w -> wpAnyIn F m P md ops Q fuel li a w := by
 intro fuel
 induction fuel with
 | zero =>
  intro li a w hc h
  have he : Region.ready md ops li = [] := by
   cases hr : Region.ready md ops li with
   | nil => rfl
   | cons j r =>
    have hj := (mem_ready.1 (show j ∈ Region.ready md ops li from by rw [hr]; exact List.mem_cons_self ..)).1
    exfalso
    have : li.toList[j]? = some false := by
     rw [Array.getD_eq_getD_getElem?] at hj
     rw [Array.getElem?_toList]
     cases hx : li[j]? with
     | none => rw [hx] at hj; cases hj
     | some b => rw [hx] at hj; simpa using hj
    have := List.count_pos_iff.2 (List.mem_of_getElem? this)
    omega
  exact ⟨he, hend li a w h he⟩
 | succ f ih =>
  intro li a w hc h
  refine ⟨fun he => hend li a w h he, fun i hi => ?_⟩
  obtain ⟨hu, o, ho, hd⟩ := mem_ready.1 hi
  obtain ⟨h1, h2⟩ := hstep li a w i o h hu ho hd
  unfold wpOpIn
  rw [ho]
  simp only [h1, if_true]
  refine Oper.wpIn_mono (fun a' w' h' => ih _ a' w' ?_ h') h2
  have hl : li.toList[i]? = some false := by
   rw [Array.getD_eq_getD_getElem?] at hu
   rw [Array.getElem?_toList]
   cases hx : li[i]? with
   | none => rw [hx] at hu; cases hu
   | some b => rw [hx] at hu; simpa using hu
  have := cf_set _ _ hl
  rw [Array.toList_setIfInBounds]
  omega
def backB (ops : Array Oper) : Bool := (List.range ops.size).all fun i => match ops[i]? with | some o => o.after.all (fun e => decide (e.on < i)) | none => true
theorem ready_nil_all {li : Array Bool} (hb : backB ops = true) (hs : li.size = ops.size) (h : Region.ready md ops li = []) : ∀ (n i : Nat), i <= n -> i < ops.size -> li.getD i false = true := by
 intro n
 induction n with
 | zero =>
  intro i hi hlt
  obtain rfl : i = 0 := by omega
  by_cases hu : li.getD 0 true = false
  · have : 0 ∈ Region.ready md ops li := mem_ready.2 ⟨hu, ops[0], Array.getElem?_eq_getElem hlt, fun e he hbd => by
     have := List.all_eq_true.1 hb 0 (List.mem_range.2 hlt)
     rw [Array.getElem?_eq_getElem hlt] at this
     have := Array.all_eq_true_iff_forall_mem.1 this e he
     simp at this⟩
    rw [h] at this; cases this
  · have hl : 0 < li.size := by omega
    simp [Array.getD_eq_getD_getElem?, Array.getElem?_eq_getElem hl] at hu |-; exact hu
 | succ n ih =>
  intro i hi hlt
  by_cases hu : li.getD i true = false
  · have : i ∈ Region.ready md ops li := mem_ready.2 ⟨hu, ops[i], Array.getElem?_eq_getElem hlt, fun e he hbd => by
     have := List.all_eq_true.1 hb i (List.mem_range.2 hlt)
     rw [Array.getElem?_eq_getElem hlt] at this
     have hlt' := Array.all_eq_true_iff_forall_mem.1 this e he
     simp at hlt'
     exact ih e.on (by omega) (by omega)⟩
    rw [h] at this; cases this
  · have hl : i < li.size := by omega
    simp [Array.getD_eq_getD_getElem?, Array.getElem?_eq_getElem hl] at hu |-; exact hu
theorem wpIn_region_inv {id : Nat} {Q : Exit -> Act -> World -> Prop} {a : Act} {w : World} (I : Array Bool -> Act -> World -> Prop) (hm : P.follows .mixedOrders = true) (hnd : noDefer ops.toList = true)
 (hstep : ∀ li a w i o, I li a w -> li.getD i true = false -> ops[i]? = some o -> (∀ e ∈ o.after, Region.binds .any e = true -> li.getD e.on false = true) -> Region.wanted o (yielded ops a.tmps) = true /\
  ((∃ v w', (execOp a.eval o).run P w = .ok (.value v) w' /\ I (li.setIfInBounds i true) (a.put o.dst v) w') ∨
   (∃ f args, (execOp a.eval o).run P w = .ok (.enter f args) w /\ Calls P f args w fun e w' => ∃ v, e = .returned v /\ I (li.setIfInBounds i true) (a.put o.dst v) w')))
 (hend : ∀ li a w, I li a w -> Region.ready .any ops li = [] -> Q .normal a w) (h0 : I (Array.replicate ops.size false) a { w with drawn := w.drawn + 1 }) : (Code.region id ops true).wpIn (Fence.wide.inRound l) m P Q a w := by
 refine wpIn_region_any hm (wpAnyIn_inv I (fun li a w i o h hu ho hd => ?_) hend _ _ _ _ (by simp) h0)
 obtain ⟨h1, h2⟩ := hstep li a w i o h hu ho hd
 refine ⟨h1, fun _ _ => trivial, ?_⟩
 rw [Oper.semAt_eq _ _ _ (noDefer_spec hnd ho)]
 rcases h2 with ⟨v, w', hr, hI⟩ | ⟨f, args, hr, hc⟩
 · rw [hr]; exact hI
 · rw [hr]
   refine ⟨(fun h => by cases h), ?_⟩
   exact (CallsIn.inRound l (callsIn_wide.2 hc)).mono fun e w'' ⟨v, he, hI⟩ => by subst he; exact hI
end
end Go.Proofs.YtmgfakfiiaeofaaGreat.Pg
