/- What slices.Concat makes of rows of numbers. -/
import Derived.Test.YtmgfakfiiaeofaaGreatPaNamed
import Derived.Orders
import Derived.StillTail
import Derived.Laws.OwnMore
import Derived.Laws.AppendOwnNone
import Derived.Lib.AppendZeros
/- Regions whose order is drawn and whose operations keep all that is older: each operation by what its value is like, whichever others are done. -/
namespace Go.Proofs.YtmgfakfiiaeofaaGreat.Pa
open Go.RowKit Go.Sort
theorem cf_set : ∀ (l : List Bool) (i : Nat), l[i]? = some false -> (l.set i true).count false + 1 = l.count false
 | [], i, h => by simp at h
 | b :: l, 0, h => by have : b = false := by simpa using h
                      subst this; simp
 | b :: l, i + 1, h => by
  have := cf_set l i (by simpa using h)
  cases b <;> simp_all <;> omega
def dsts (ops : Array Oper) : List Nat := ops.toList.filterMap (·.dst)
def dstB (ops : Array Oper) (n : Nat) : Bool := ops.toList.all (fun o => match o.dst with | some d => decide (d < n) | none => false) && decide (dsts ops).Nodup
def backB (ops : Array Oper) : Bool := (List.range ops.size).all fun i => match ops[i]? with | some o => o.after.all (fun e => decide (e.on < i)) | none => true
section
variable {P : Program} {ops : Array Oper}
theorem ready_nil_all {li : Array Bool} (hb : backB ops = true) (hs : li.size = ops.size) (h : Region.ready .any ops li = []) : ∀ (n i : Nat), i <= n -> i < ops.size -> li.getD i false = true := by
 intro n
 induction n with
 | zero =>
  intro i hi hlt
  obtain rfl : i = 0 := by omega
  by_cases hu : li.getD 0 true = false
  · have : 0 ∈ Region.ready .any ops li := mem_ready.2 ⟨hu, ops[0], Array.getElem?_eq_getElem hlt, fun e he hbd => by
     have := List.all_eq_true.1 hb 0 (List.mem_range.2 hlt)
     rw [Array.getElem?_eq_getElem hlt] at this
     have := Array.all_eq_true_iff_forall_mem.1 this e he
     simp at this⟩
    rw [h] at this; cases this
  · have hl : 0 < li.size := by omega
    simp [Array.getD_eq_getD_getElem?, Array.getElem?_eq_getElem hl] at hu |-; exact hu
 | succ n ih =>
  intro i hi hlt
  by_cases hu : li.getD i true = false
  · have : i ∈ Region.ready .any ops li := mem_ready.2 ⟨hu, ops[i], Array.getElem?_eq_getElem hlt, fun e he hbd => by
     have := List.all_eq_true.1 hb i (List.mem_range.2 hlt)
     rw [Array.getElem?_eq_getElem hlt] at this
     have hlt' := Array.all_eq_true_iff_forall_mem.1 this e he
     simp at hlt'
     exact ih e.on (by omega) (by omega)⟩
    rw [h] at this; cases this
  · have hl : i < li.size := by omega
    simp [Array.getD_eq_getD_getElem?, Array.getElem?_eq_getElem hl] at hu |-; exact hu
theorem dst_of {n : Nat} (h : dstB ops n = true) {i : Nat} {o : Oper} (ho : ops[i]? = some o) : ∃ d, o.dst = some d /\ d < n := by
 unfold dstB at h
 rw [Bool.and_eq_true, List.all_eq_true] at h
 have hmem : o ∈ ops.toList := by rw [Array.mem_toList_iff]; exact Array.mem_of_getElem? ho
 have := h.1 o hmem
 cases hd : o.dst with
 | none => rw [hd] at this; cases this
 | some d => rw [hd] at this; exact ⟨d, rfl, by simpa using this⟩
theorem mem_dsts {i : Nat} {o : Oper} {d : Nat} (ho : ops[i]? = some o) (hd : o.dst = some d) : d ∈ dsts ops := by
 unfold dsts
 rw [List.mem_filterMap]
 exact ⟨o, by rw [Array.mem_toList_iff]; exact Array.mem_of_getElem? ho, hd⟩
theorem fm_inj {l : List Oper} (h : (l.filterMap (·.dst)).Nodup) : ∀ {i j : Nat} {o o' : Oper} {d : Nat}, l[i]? = some o -> l[j]? = some o' -> o.dst = some d -> o'.dst = some d -> i = j := by
 induction l with
 | nil => intro i j o o' d h1; simp at h1
 | cons x l ih =>
  intro i j o o' d h1 h2 d1 d2
  have hl : (l.filterMap (·.dst)).Nodup := by
   rw [List.filterMap_cons] at h
   split at h
   · exact h
   · exact (List.nodup_cons.1 h).2
  cases i with
  | zero =>
   cases j with
   | zero => rfl
   | succ j =>
    simp only [List.getElem?_cons_zero, Option.some.injEq] at h1
    simp only [List.getElem?_cons_succ] at h2
    subst h1
    rw [List.filterMap_cons, d1] at h
    exact absurd (List.mem_filterMap.2 ⟨o', List.mem_of_getElem? h2, d2⟩) (List.nodup_cons.1 h).1
  | succ i =>
   cases j with
   | zero =>
    simp only [List.getElem?_cons_zero, Option.some.injEq] at h2
    simp only [List.getElem?_cons_succ] at h1
    subst h2
    rw [List.filterMap_cons, d2] at h
    exact absurd (List.mem_filterMap.2 ⟨o, List.mem_of_getElem? h1, d1⟩) (List.nodup_cons.1 h).1
   | succ j =>
    simp only [List.getElem?_cons_succ] at h1 h2
    rw [ih hl h1 h2 d1 d2]
theorem dst_inj {n : Nat} (h : dstB ops n = true) {i j : Nat} {o o' : Oper} {d : Nat} (h1 : ops[i]? = some o) (h2 : ops[j]? = some o') (d1 : o.dst = some d) (d2 : o'.dst = some d) : i = j := by
 unfold dstB dsts at h
 rw [Bool.and_eq_true, decide_eq_true_eq] at h
 exact fm_inj h.2 (by rw [Array.getElem?_toList]; exact h1) (by rw [Array.getElem?_toList]; exact h2) d1 d2
theorem put_ne (a : Act) {d k : Nat} (v : Value) (h : k ≠ d) : (a.put (some d) v).eval (.tmp k) = a.eval (.tmp k) := by
 simp only [Act.put, Act.eval, Array.getD_eq_getD_getElem?]
 rw [Array.getElem?_setIfInBounds_ne (Ne.symm h)]
theorem put_eq (a : Act) {d : Nat} (v : Value) (h : d < a.tmps.size) : (a.put (some d) v).eval (.tmp d) = v := by
 simp only [Act.put, Act.eval, Array.getD_eq_getD_getElem?]
 rw [Array.getElem?_setIfInBounds_self_of_lt h]; rfl
theorem cnt_take (l : List Bool) (n i : Nat) (hi : i < n) (h : l[i]? = some false) : ((l.set i true).take n).count false + 1 = (l.take n).count false := by
 rw [List.take_set]
 exact cf_set (l.take n) i (by rw [List.getElem?_take_of_lt hi]; exact h)
def tailB (ops : Array Oper) (n : Nat) : Bool := (List.range ops.size).all fun i => decide (i < n) || match ops[i]? with | some o => (List.range n).all (fun j => o.after.any fun e => e.on == j && Region.binds .any e) | none => true
theorem tail_all {n : Nat} (h : tailB ops n = true) {i : Nat} {o : Oper} (ho : ops[i]? = some o) (hi : n <= i) {li : Array Bool} (hd : ∀ e ∈ o.after, Region.binds .any e = true -> li.getD e.on false = true) : ∀ j, j < n -> li.getD j false = true := by
 intro j hj
 have hlt : i < ops.size := (Array.getElem?_eq_some_iff.1 ho).1
 have h1 := List.all_eq_true.1 h i (List.mem_range.2 hlt)
 rw [ho] at h1
 simp only [Bool.or_eq_true, decide_eq_true_eq, List.all_eq_true, List.mem_range] at h1
 rcases h1 with h1 | h1
 · omega
 · have h2 := h1 j hj
   rw [Array.any_eq_true'] at h2
   obtain ⟨e, he, h3⟩ := h2
   simp only [Bool.and_eq_true, beq_iff_eq] at h3
   rw [<- h3.1]
   exact hd e he h3.2
theorem wp_region_mono {l : List Oper} {id : Nat} {Q : Exit -> Act -> World -> Prop} {a : Act} {w : World} (n : Nat) (G : Nat -> Value -> World -> Prop)
 (hm : P.follows .mixedOrders = true) (hback : backB l.toArray = true) (hdst : dstB (l.take n).toArray a.tmps.size = true) (htail : tailB l.toArray n = true) (hn : n <= l.length)
 (hseq : Region.seqB .any l.toArray (l.length - n) n (List.replicate n true ++ List.replicate (l.length - n) false).toArray = true)
 (hmono : ∀ k v W W', G k v W -> Below W.heap.size W W' -> G k v W')
 (hstep : ∀ (a' : Act) (W : World), Below w.heap.size w W -> a'.tmps.size = a.tmps.size -> (∀ k, (dsts (l.take n).toArray).contains k = false -> a'.eval (.tmp k) = a.eval (.tmp k)) ->
  ∀ (i : Nat) (o : Oper) (d : Nat), (l.take n)[i]? = some o -> o.dst = some d ->
  (∀ e ∈ o.after, Region.binds .any e = true -> ∀ d', (l[e.on]?).bind (·.dst) = some d' -> G d' (a'.eval (.tmp d')) W) ->
  (Region.wanted o (yielded l.toArray a'.tmps) = false /\ G d undef W) ∨
  (Region.wanted o (yielded l.toArray a'.tmps) = true /\ ((∃ v W', (execOp a'.eval o).run P W = .ok (.value v) W' /\ Below W.heap.size W W' /\ G d v W') ∨
   (∃ f args, (execOp a'.eval o).run P W = .ok (.enter f args) W /\ Calls P f args W fun e W' => ∃ v, e = .returned v /\ Below W.heap.size W W' /\ G d v W'))))
 (hend : ∀ a' W, Below w.heap.size w W -> a'.tmps.size = a.tmps.size -> a'.defers = a.defers -> (∀ k, (dsts (l.take n).toArray).contains k = false -> a'.eval (.tmp k) = a.eval (.tmp k)) ->
  (∀ (i d : Nat), i < n -> (l[i]?).bind (·.dst) = some d -> G d (a'.eval (.tmp d)) W) -> wpList P l.toArray Q (l.drop n) a' W) : (Code.region id l.toArray true).wp P Q a w := by
 refine wp_region_any hm ?_
 have main : ∀ (f : Nat) (li : Array Bool) (a' : Act) (W : World), (li.toList.take n).count false = f -> li.size = l.length -> li.toList.drop n = List.replicate (l.length - n) false -> Below w.heap.size w W -> a'.tmps.size = a.tmps.size -> a'.defers = a.defers -> (∀ k, (dsts (l.take n).toArray).contains k = false -> a'.eval (.tmp k) = a.eval (.tmp k)) ->
  (∀ (i d : Nat), i < n -> li.getD i false = true -> (l[i]?).bind (·.dst) = some d -> G d (a'.eval (.tmp d)) W) -> wpAny P .any l.toArray Q (f + (l.length - n)) li a' W := by
  intro f
  induction f with
  | zero =>
   intro li a' W hc hsz ht hB hs hdf hk hG
   have hall : ∀ i, i < n -> li.getD i false = true := fun i hi => by
    have hlt : i < li.toList.length := by simp; omega
    have h1 : ¬ false ∈ li.toList.take n := by rw [<- List.count_pos_iff]; omega
    have h2 : li.toList[i] ∈ li.toList.take n := List.mem_take_iff_getElem.2 ⟨i, by omega, rfl⟩
    have h3 : li.toList[i] = true := by
     cases hx : li.toList[i] with
     | true => rfl
     | false => rw [hx] at h2; exact absurd h2 h1
    rw [Array.getD_eq_getD_getElem?, <- Array.getElem?_toList, List.getElem?_eq_getElem hlt, h3]; rfl
   have hli : li = (List.replicate n true ++ List.replicate (l.length - n) false).toArray := by
    apply Array.toList_inj.1
    rw [<- List.take_append_drop n li.toList, ht]
    congr 1
    apply List.ext_getElem (by simp; omega)
    intro i h1 h2
    simp only [List.getElem_take, List.getElem_replicate]
    have hi : i < n := by simp at h2; exact h2
    have := hall i hi
    have hlt : i < li.size := by omega
    rw [Array.getD_eq_getD_getElem?, Array.getElem?_eq_getElem hlt] at this
    simpa using this
   have hw := hend a' W hB hs hdf hk fun i d hi hd => hG i d hi (hall i hi) hd
   have := wpAny_of_seq (P := P) (ops := l.toArray) (md := .any) (Q' := Q) (l.drop n) n li a' W (fun j => by simp [List.getElem?_drop]) (by rw [hli, List.length_drop]; exact hseq) hw
   rw [List.length_drop] at this
   rw [Nat.zero_add]
   exact this
  | succ f ih =>
   intro li a' W hc hsz ht hB hs hdf hk hG
   rw [Nat.succ_add]
   have hnot : ¬ ∀ j, j < n -> li.getD j false = true := by
    intro hall
    have hp : 0 < (li.toList.take n).count false := by omega
    have h2 := List.count_pos_iff.1 hp
    obtain ⟨i, hi, he⟩ := List.mem_take_iff_getElem.1 h2
    have hin : i < n := by omega
    have hil : i < li.toList.length := by omega
    have := hall i hin
    rw [Array.getD_eq_getD_getElem?, <- Array.getElem?_toList, List.getElem?_eq_getElem hil, he] at this
    cases this
   refine ⟨fun he => ?_, fun i hi => ?_⟩
   · exact absurd (fun j hj => ready_nil_all hback (by simpa using hsz) he j j (Nat.le_refl _) (by simp; omega)) hnot
   · obtain ⟨hu, o, ho, hd⟩ := mem_ready.1 hi
     have hin : i < n := Nat.lt_of_not_le fun h => hnot (tail_all htail ho h hd)
     have ho' : (l.take n)[i]? = some o := by rw [List.getElem?_take_of_lt hin]; simpa using ho
     have hoa : (l.take n).toArray[i]? = some o := by simpa using ho'
     obtain ⟨d, hdo, hdn⟩ := dst_of hdst hoa
     have hl : li.toList[i]? = some false := by
      rw [Array.getD_eq_getD_getElem?] at hu
      rw [Array.getElem?_toList]
      cases hx : li[i]? with
      | none => rw [hx] at hu; cases hu
      | some b => rw [hx] at hu; simpa using hu
     have next : ∀ (v : Value) (W' : World), Below W.heap.size W W' -> G d v W' -> wpAny P .any l.toArray Q (f + (l.length - n)) (li.setIfInBounds i true) (a'.put o.dst v) W' := by
      intro v W' hb hv
      rw [hdo]
      refine ih _ _ _ ?_ (by rw [Array.size_setIfInBounds]; exact hsz) ?_ (hB.trans (hb.mono hB.size)) (by simp only [Act.put]; rw [Array.size_setIfInBounds]; exact hs) (by simp only [Act.put]; exact hdf) ?_ ?_
      · have := cnt_take li.toList n i hin hl
        rw [Array.toList_setIfInBounds]; omega
      · rw [Array.toList_setIfInBounds, List.drop_set_of_lt hin]; exact ht
      · intro k hkn
        rw [put_ne a' v (fun e => by rw [e, List.contains_iff_mem.2 (mem_dsts hoa hdo)] at hkn; cases hkn)]
        exact hk k hkn
      · intro j dj hjn hj hdj
        by_cases hij : j = i
        · subst hij
          rw [show l[j]? = some o from by simpa using ho] at hdj
          have : d = dj := Option.some.inj (hdo.symm.trans hdj)
          subst this
          rw [put_eq a' v (by rw [hs]; exact hdn)]
          exact hv
        · have hj' : li.getD j false = true := by
           rw [Array.getD_eq_getD_getElem?, Array.getElem?_setIfInBounds_ne (Ne.symm hij)] at hj
           rw [Array.getD_eq_getD_getElem?]; exact hj
          have hne : dj ≠ d := by
           intro e
           subst e
           cases hoj : l[j]? with
           | none => rw [hoj] at hdj; cases hdj
           | some o' =>
            rw [hoj] at hdj
            exact hij (dst_inj hdst (show (l.take n).toArray[j]? = some o' from by simp [List.getElem?_take_of_lt hjn, hoj]) hoa hdj hdo)
          rw [put_ne a' v hne]
          exact hmono _ _ _ _ (hG j dj hjn hj' hdj) hb
     unfold wpOp
     rw [ho]
     simp only
     have hdeps : ∀ e ∈ o.after, Region.binds .any e = true -> ∀ d', (l[e.on]?).bind (·.dst) = some d' -> G d' (a'.eval (.tmp d')) W := by
      intro e he hbd d' hd'
      have hlt : e.on < i := by
       have h1 := List.all_eq_true.1 hback i (List.mem_range.2 (Array.getElem?_eq_some_iff.1 ho).1)
       rw [ho] at h1
       have := Array.all_eq_true_iff_forall_mem.1 h1 e he
       simpa using this
      exact hG e.on d' (by omega) (hd e he hbd) hd'
     rcases hstep a' W hB hs hk i o d ho' hdo hdeps with ⟨hw, hg⟩ | ⟨hw, h2⟩
     · simp only [hw, Bool.false_eq_true, if_false]
       exact next undef W (Below.refl _ _) hg
     · simp only [hw, if_true]
       refine .inl ?_
       unfold Oper.wp
       rcases h2 with ⟨v, w', hr, hb, hI⟩ | ⟨f', args, hr, hc'⟩
       · rw [hr]; exact next v w' hb hI
       · rw [hr]
         exact hc'.mono fun e w'' ⟨v, he, hb, hI⟩ => by subst he; exact next v w'' hb hI
 have h0 : ((Array.replicate l.toArray.size false).toList.take n).count false = n := by simp [List.take_replicate]; omega
 have := main n (Array.replicate l.toArray.size false) a { w with drawn := w.drawn + 1 } h0 (by simp) (by simp) ((Below.refl w.heap.size w).drew) rfl rfl (fun _ _ => rfl) (by
  intro i d _ hi
  rw [Array.getD_eq_getD_getElem?, Array.getElem?_replicate] at hi
  split at hi <;> simp at hi)
 rw [show n + (l.length - n) = l.toArray.size from by simp; omega] at this
 exact this
end
theorem arr_of (tm : Array Value) (l : List Value) (hs : tm.size = l.length) (h : (List.range l.length).map (fun k => tm.getD k undef) = l) : tm = l.toArray := by
 apply Array.ext
 · simpa using hs
 · intro i h1 h2
   have h2' : i < l.length := by simpa using h2
   have e : ((List.range l.length).map (fun k => tm.getD k undef))[i]? = l[i]? := by rw [h]
   rw [List.getElem?_map, List.getElem?_range h2', List.getElem?_eq_getElem h2'] at e
   simp only [Option.map_some, Option.some.injEq] at e
   rw [Array.getD_eq_getD_getElem?, Array.getElem?_eq_getElem h1] at e
   simpa using e
theorem ic_length (l : List Int) : (icells l).length = l.length * 1 := by simp [icells]
def Src (w : World) (v : Value) (l : List Int) : Prop :=
 (v = .slice none 0 0 /\ l = []) ∨ ∃ a cap, v = .slice (some a) l.length cap /\ ∀ j u, (icells l)[j]? = some u -> w.cell? (a.add j) = some u
set_option maxRecDepth 100000 in
set_option maxHeartbeats 1000000 in
theorem Grow_nil (n : Nat) (w : World) (hn : n < 1000000) : Calls Tryz.prog 266 #[.slice none 0 0, .int .i64 n] w fun e w' => ∃ v, e = .returned v /\ w'.ownsRow w.heap.size 3 1 v 0 [] /\ Below w.heap.size w w' := by
 obtain ⟨i0, hi, hz0, hz1, hz2⟩ := info_parts info3
 by_cases h0 : 0 < n
 · have hrz := fun ty => Lib.run_append_nil_zeros w 37 3 ty 3 i0 _ .i64 .i64 Tryz.underlying37 Tryz.underlying3 hi hz0 n h0 (by omega) (by omega) (by rw [hz2]; omega)
   obtain ⟨G, hG⟩ : ∃ G, G = grownCap w n 0 3 := ⟨_, rfl⟩
   have hG63 : G <= maxLen := by rw [hG]; exact grownCap_le_maxLen w n 0 3 (by unfold maxLen; omega)
   have hGn : n <= G := by rw [hG]; exact grownCap_ge w _ _ _
   rw [<- hG] at hrz
   have HS := Lib.hid (World.ownsRow_made (base := w.heap.size) (e := 3) (size := 1) w.drew (Builtin.zeroCells (Value.int .i64 0).cells n ++ Builtin.zeroCells (Value.int .i64 0).cells (G - n)) G (Nat.le_refl _) hG63 (by simp [Builtin.zeroCells, Value.cells]; omega))
   have HB := Lib.hid (((Below.refl w.heap.size w).drew).alloc (Nat.le_refl _) (.cells (Builtin.zeroCells (Value.int .i64 0).cells n ++ Builtin.zeroCells (Value.int .i64 0).cells (G - n)) 3))
   unfold maxLen at hG63
   have HZ := Lib.hid hrz
   clear hrz hG
   have h0i : (0 : Int) < (n : Int) := by omega
   go_enter Tryz.func266, Tryz.ntmps266
   go_wp2_with (at_builtin; refine Lib.wpList_append_run _ rfl _ _ _ _ rfl _ _ rfl rfl _ _ (HZ.out _) ?_)
   all_goals (go_ret; exact ⟨_, rfl, HS.out, HB.out⟩)
 · obtain rfl : n = 0 := by omega
   go_enter Tryz.func266, Tryz.ntmps266
   go_wp2
   go_ret
   exact ⟨_, rfl, World.ownsRow_nil _ _ _ _, Below.refl _ _⟩
theorem own_src {w : World} {base n : Nat} {v : Value} {l : List Int} (h : w.ownsRow base 3 1 v n (icells l)) : n = l.length /\ Src w v l := by
 have hn : n = l.length := by have := h.1; rw [ic_length] at this; omega
 subst hn
 refine ⟨rfl, ?_⟩
 have hc := fun g hg => h.cells (g := g) hg
 rcases h.2 with ⟨rfl, h0⟩ | ⟨g, cap, cur, rfl, _⟩
 · exact .inl ⟨rfl, List.length_eq_zero_iff.1 h0⟩
 · exact .inr ⟨_, cap, rfl, hc g rfl⟩
theorem Src.below {w w' : World} {v : Value} {l : List Int} (h : Src w v l) (hb : Below w.heap.size w w') : Src w' v l := by
 rcases h with h | ⟨a, cap, rfl, hc⟩
 · exact .inl h
 · refine .inr ⟨a, cap, rfl, fun j u hu => ?_⟩
   have h1 := hc j u hu
   exact (hb.cell (p := a.add j) (World.block_lt_of_cell? w _ h1)).trans h1
def cat (ps : List (Value × List Int)) : List Int := ps.flatMap (·.2)
theorem cat_take (ps : List (Value × List Int)) (k : Nat) (h : k < ps.length) : cat (ps.take (k + 1)) = cat (ps.take k) ++ ps[k].2 := by
 unfold cat; rw [List.take_succ_eq_append_getElem h, List.flatMap_append]; simp
theorem cat_le (ps : List (Value × List Int)) (k : Nat) : (cat (ps.take k)).length <= (cat ps).length := by
 have : cat ps = cat (ps.take k) ++ cat (ps.drop k) := by unfold cat; rw [<- List.flatMap_append, List.take_append_drop]
 rw [this, List.length_append]; omega
theorem Src.len {w : World} {v : Value} {l : List Int} (h : Src w v l) : ∃ p cap, v = .slice p l.length cap := by
 rcases h with ⟨rfl, rfl⟩ | ⟨a, cap, rfl, _⟩
 · exact ⟨_, _, rfl⟩
 · exact ⟨_, _, rfl⟩
set_option maxRecDepth 100000 in
set_option maxHeartbeats 2000000 in
theorem Concat_any (b cap : Nat) (ps : List (Value × List Int)) (w : World) (hn : (cat ps).length < 1000000) (hp : ps.length < 1000) (hb : b < w.heap.size) (hc : ∀ k (h : k < ps.length), w.cell? ⟨b, k, none⟩ = some ps[k].1) (hs : ∀ x ∈ ps, Src w x.1 x.2) :
 Calls Tryz.prog 221 #[.slice (some ⟨b, 0, none⟩) ps.length cap] w fun e w' => ∃ v, e = .returned v /\ w'.ownsRow w.heap.size 3 1 v (cat ps).length (icells (cat ps)) /\ Below w.heap.size w w' := by
 obtain ⟨i0, hi, hz0, hz1, hz2⟩ := info_parts info3
 go_enter Tryz.func221, Tryz.ntmps221
 go_wp2_with fail
 go_loopw [3, 11] (fun s i wr => ∃ k : Nat, k <= ps.length /\ s = .int .i64 ((cat (ps.take k)).length : Nat) /\ i = .int .i64 k /\ w = wr) (fun _ i _ => ps.length - (intOf i).toNat)
 case atStart => exact ⟨0, Nat.zero_le _, by simp [cat], rfl, rfl⟩
 case round =>
  obtain ⟨k, hk, rfl, rfl, rfl⟩ := hrel
  by_cases hlt : k < ps.length
  · have hki : (k : Int) < (ps.length : Int) := by omega
    obtain ⟨p, cp, hv⟩ := (hs _ (List.getElem_mem hlt)).len
    have c0 := hc k hlt
    rw [hv] at c0
    have h1 := cat_le ps k
    have h2 := cat_le ps (k + 1)
    have HT := Lib.hid (congrArg List.length (cat_take ps k hlt))
    have h3 : (cat (ps.take k)).length + ps[k].2.length < 1000000 := by have := HT.out; rw [List.length_append] at this; omega
    have hneg : ¬ ((cat (ps.take k)).length : Int) + (ps[k].2.length : Int) < 0 := by omega
    clear hs hc
    go_wp2
    go_roundw
    case rel => exact ⟨k + 1, by omega, by rw [HT.out, List.length_append]; go_num, by go_num, trivial⟩
    case measure => simp [intOf]; omega
  · obtain rfl : k = ps.length := by omega
    have hkk : ¬ (ps.length : Int) < (ps.length : Int) := by omega
    rw [List.take_length] at *
    have HG := Lib.hid (Grow_nil (cat ps).length w hn)
    go_wp2_with (first | (go_at_call 266; refine HG.out.mono ?_; rintro e w1 ⟨v1, rfl, ho1, hb1⟩))
    have HC : Hid (∀ wr, Below w.heap.size w wr -> ∀ k (h : k < ps.length), wr.cell? ⟨b, k, none⟩ = some ps[k].1 /\ Src wr ps[k].1 ps[k].2) := fun wr hwr k h => ⟨(hwr.cell (p := ⟨b, k, none⟩) hb).trans (hc k h), (hs _ (List.getElem_mem h)).below hwr⟩
    clear hc hs hkk hk hlt
    go_loopw [6, 27] (fun v i wr => ∃ k : Nat, k <= ps.length /\ i = .int .i64 k /\ wr.ownsRow w.heap.size 3 1 v (cat (ps.take k)).length (icells (cat (ps.take k))) /\ Below w.heap.size w wr) (fun _ i _ => ps.length - (intOf i).toNat)
    case atStart => exact ⟨0, Nat.zero_le _, rfl, by simpa [cat, icells] using ho1, hb1⟩
    case round =>
     obtain ⟨k, hk, rfl, hown, hbr⟩ := hrel
     by_cases hlt : k < ps.length
     · have hki : (k : Int) < (ps.length : Int) := by omega
       obtain ⟨c0, hsrc⟩ := HC.out _ hbr k hlt
       have h1 := cat_le ps k
       have h2 := cat_le ps (k + 1)
       have HT := Lib.hid (cat_take ps k hlt)
       have h3 : (cat (ps.take k)).length + ps[k].2.length < 1000000 := by have := congrArg List.length HT.out; rw [List.length_append] at this; omega
       have hbw : b < wr.heap.size := Nat.lt_of_lt_of_le hb hbr.size
       have HL := Lib.hid hown.lt
       obtain ⟨T, hT⟩ : ∃ T, (cat (ps.take k)).length = T := ⟨_, rfl⟩
       rw [hT] at h1 h3 hown
       rcases hsrc with ⟨hv, hx⟩ | ⟨a, cp, hv, hcell⟩
       · rw [hv] at c0
         clear hT
         go_wp2_with (at_builtin; refine wpList_append_own_none rfl _ _ 37 rfl w.heap.size 3 i0 1 Tryz.underlying37 hi _ _ _ rfl hown rfl ?_)
         go_roundw
         case rel => exact ⟨k + 1, by omega, by go_num, by rw [HT.out, hx, List.append_nil]; exact (own_src hown).1 ▸ hown, hbr⟩
         case measure => simp [intOf]; omega
       · rw [hv] at c0
         have hbs := hbr.size
         have HCell := Lib.hid hcell
         clear hcell hT
         have h63 : T + ps[k].2.length <= maxLen := by unfold maxLen; omega
         have hby : (T + ps[k].2.length) * 8 <= 140737488355328 := by omega
         go_wp2_with (at_builtin; refine wpList_append_own _ rfl _ _ 37 rfl w.heap.size 3 i0 (.int .i64 0) 1 8 Tryz.underlying37 hi hz0 hz1 hz2 rfl (by decide) _ _ _ rfl hown a _ cp (icells ps[k].2) rfl (ic_length _) HCell.out (icells_one _) h63 hby hbs ?_; intro v' w3 hown' hgrow3 hnil3; have HO := Lib.hid hown'; have HGW := Lib.hid hgrow3; clear hown' hgrow3 hnil3)
         go_roundw
         case rel =>
          refine ⟨k + 1, by omega, by go_num, ?_, Below.grown hbr HGW.out hbs (fun j hj => (HL.out j hj).1)⟩
          have h := HO.out
          rw [<- icells_append, <- HT.out] at h
          rw [(own_src h).1] at h
          exact h
         case measure => simp [intOf]; omega
     · obtain rfl : k = ps.length := by omega
       have hkk : ¬ (ps.length : Int) < (ps.length : Int) := by omega
       rw [List.take_length] at hown
       go_wp2
       go_ret
       exact ⟨_, rfl, hown, hbr⟩
end Go.Proofs.YtmgfakfiiaeofaaGreat.Pa
