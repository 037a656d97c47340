/- How the reference's table is changed in memory. -/
import Derived.Test.YtmgfakfiiaeofaaGreatHoMonoT
import Derived.Maps.AppendAt
import Derived.Laws.OwnMore
import Derived.Laws.Rows
/- A law for a region that draws its order, in which one operation may change what is there. -/
namespace Go.Proofs.YtmgfakfiiaeofaaGreat.Ho
open Go.RowKit Go.Sort
section
variable {P : Program} {ops : Array Oper}
theorem wp_region_monoC {l : List Oper} {id : Nat} {Q : Exit -> Act -> World -> Prop} {a : Act} {w : World} (f0 n c : Nat) (R : World -> Prop) (G : Bool -> Nat -> Value -> World -> Prop)
 (hm : P.follows .mixedOrders = true) (hback : backB l.toArray = true) (hdst : dstB (l.take n).toArray a.tmps.size = true) (htail : tailT l.toArray f0 n = true) (hn : n <= l.length)
 (hseq : Region.seqB .any l.toArray (l.length - n) n (List.replicate n true ++ List.replicate (l.length - n) false).toArray = true)
 (hcn : c < n) (hRb : ∀ A B, R A -> Below A.heap.size A B -> R B) (hR0 : R { w with drawn := w.drawn + 1 })
 (hmono : ∀ b k v W W', G b k v W -> Below W.heap.size W W' -> G b k v W')
 (hstep : ∀ (a' : Act) (W : World) (b : Bool), R W -> a'.tmps.size = a.tmps.size -> (∀ k, (dsts (l.take n).toArray).contains k = false -> a'.eval (.tmp k) = a.eval (.tmp k)) ->
  ∀ (i : Nat) (o : Oper) (d : Nat), (l.take n)[i]? = some o -> o.dst = some d -> (i = c ∨ needB l.toArray f0 c i = true -> b = false) ->
  (∀ e ∈ o.after, Region.binds .any e = true -> ∀ d', (l[e.on]?).bind (·.dst) = some d' -> G b d' (a'.eval (.tmp d')) W) ->
  (Region.wanted o (yielded l.toArray a'.tmps) = false /\ i ≠ c /\ G b d undef W) ∨
  (Region.wanted o (yielded l.toArray a'.tmps) = true /\ ((∃ v W', (execOp a'.eval o).run P W = .ok (.value v) W' /\ ((i ≠ c /\ Below W.heap.size W W' /\ G b d v W') ∨ (i = c /\ R W' /\ G true d v W' /\ ∀ k u, k ≠ d -> G false k u W -> G true k u W'))) ∨
   (∃ f args, (execOp a'.eval o).run P W = .ok (.enter f args) W /\ Calls P f args W fun e W' => ∃ v, e = .returned v /\ i ≠ c /\ Below W.heap.size W W' /\ G b d v W'))))
 (hend : ∀ a' W, R W -> a'.tmps.size = a.tmps.size -> a'.defers = a.defers -> (∀ k, (dsts (l.take n).toArray).contains k = false -> a'.eval (.tmp k) = a.eval (.tmp k)) ->
  (∀ (i d : Nat), i < n -> (l[i]?).bind (·.dst) = some d -> G true d (a'.eval (.tmp d)) W) -> wpList P l.toArray Q (l.drop n) a' W) : (Code.region id l.toArray true).wp P Q a w := by
 refine wp_region_any hm ?_
 have main : ∀ (f : Nat) (li : Array Bool) (a' : Act) (W : World), ClB l.toArray li -> (li.toList.take n).count false = f -> li.size = l.length -> li.toList.drop n = List.replicate (l.length - n) false -> R W -> a'.tmps.size = a.tmps.size -> a'.defers = a.defers -> (∀ k, (dsts (l.take n).toArray).contains k = false -> a'.eval (.tmp k) = a.eval (.tmp k)) ->
  (∀ (i d : Nat), i < n -> li.getD i false = true -> (l[i]?).bind (·.dst) = some d -> G (li.getD c false) d (a'.eval (.tmp d)) W) -> wpAny P .any l.toArray Q (f + (l.length - n)) li a' W := by
  intro f
  induction f with
  | zero =>
   intro li a' W hcl hc hsz ht hB hs hdf hk hG
   have hall : ∀ i, i < n -> li.getD i false = true := fun i hi => by
    have hlt : i < li.toList.length := by simp; omega
    have h1 : ¬ false ∈ li.toList.take n := by rw [<- List.count_pos_iff]; omega
    have h2 : li.toList[i] ∈ li.toList.take n := List.mem_take_iff_getElem.2 ⟨i, by omega, rfl⟩
    have h3 : li.toList[i] = true := by
     cases hx : li.toList[i] with
     | true => rfl
     | false => rw [hx] at h2; exact absurd h2 h1
    rw [Array.getD_eq_getD_getElem?, <- Array.getElem?_toList, List.getElem?_eq_getElem hlt, h3]; rfl
   have hli : li = (List.replicate n true ++ List.replicate (l.length - n) false).toArray := by
    apply Array.toList_inj.1
    rw [<- List.take_append_drop n li.toList, ht]
    congr 1
    apply List.ext_getElem (by simp; omega)
    intro i h1 h2
    simp only [List.getElem_take, List.getElem_replicate]
    have hi : i < n := by simp at h2; exact h2
    have := hall i hi
    have hlt : i < li.size := by omega
    rw [Array.getD_eq_getD_getElem?, Array.getElem?_eq_getElem hlt] at this
    simpa using this
   have hcc := hall c hcn
   rw [hcc] at hG
   have hw := hend a' W hB hs hdf hk fun i d hi hd => hG i d hi (hall i hi) hd
   have := wpAny_of_seq (P := P) (ops := l.toArray) (md := .any) (Q' := Q) (l.drop n) n li a' W (fun j => by simp [List.getElem?_drop]) (by rw [hli, List.length_drop]; exact hseq) hw
   rw [List.length_drop] at this
   rw [Nat.zero_add]
   exact this
  | succ f ih =>
   intro li a' W hcl hc hsz ht hB hs hdf hk hG
   rw [Nat.succ_add]
   have hnot : ¬ ∀ j, j < n -> li.getD j false = true := by
    intro hall
    have hp : 0 < (li.toList.take n).count false := by omega
    have h2 := List.count_pos_iff.1 hp
    obtain ⟨i, hi, he⟩ := List.mem_take_iff_getElem.1 h2
    have hin : i < n := by omega
    have hil : i < li.toList.length := by omega
    have := hall i hin
    rw [Array.getD_eq_getD_getElem?, <- Array.getElem?_toList, List.getElem?_eq_getElem hil, he] at this
    cases this
   refine ⟨fun he => ?_, fun i hi => ?_⟩
   · exact absurd (fun j hj => ready_nil_all hback (by simpa using hsz) he j j (Nat.le_refl _) (by simp; omega)) hnot
   · obtain ⟨hu, o, ho, hd⟩ := mem_ready.1 hi
     have hin : i < n := Nat.lt_of_not_le fun h => hnot (tail_allT htail ho h hcl hd)
     have ho' : (l.take n)[i]? = some o := by rw [List.getElem?_take_of_lt hin]; simpa using ho
     have hoa : (l.take n).toArray[i]? = some o := by simpa using ho'
     obtain ⟨d, hdo, hdn⟩ := dst_of hdst hoa
     have hl : li.toList[i]? = some false := by
      rw [Array.getD_eq_getD_getElem?] at hu
      rw [Array.getElem?_toList]
      cases hx : li[i]? with
      | none => rw [hx] at hu; cases hu
      | some b => rw [hx] at hu; simpa using hu
     have hci : i = c -> li.getD c false = false := fun e => by
      subst e
      rw [Array.getD_eq_getD_getElem?, <- Array.getElem?_toList, hl]; rfl
     have hcj : i = c ∨ needB l.toArray f0 c i = true -> li.getD c false = false := fun e => by
      rcases e with e | e
      · exact hci e
      · cases hx : li.getD c false with
        | false => rfl
        | true =>
         have hoc : ∃ oc, l.toArray[c]? = some oc := ⟨l[c]'(by omega), by simp⟩
         obtain ⟨oc, hoc⟩ := hoc
         have := need_done hcl f0 c i oc hoc (hcl c oc hoc hx) e
         rw [Array.getD_eq_getD_getElem?, <- Array.getElem?_toList, hl] at this
         cases this
     have next : ∀ (v : Value) (W' : World) (b' : Bool), (li.setIfInBounds i true).getD c false = b' -> R W' -> (∀ k u, k ≠ d -> G (li.getD c false) k u W -> G b' k u W') -> G b' d v W' -> wpAny P .any l.toArray Q (f + (l.length - n)) (li.setIfInBounds i true) (a'.put o.dst v) W' := by
      intro v W' b' hb' hRW hcv hv
      rw [hdo]
      refine ih _ _ _ (hcl.set ho hd) ?_ (by rw [Array.size_setIfInBounds]; exact hsz) ?_ hRW (by simp only [Act.put]; rw [Array.size_setIfInBounds]; exact hs) (by simp only [Act.put]; exact hdf) ?_ ?_
      · have := cnt_take li.toList n i hin hl
        rw [Array.toList_setIfInBounds]; omega
      · rw [Array.toList_setIfInBounds, List.drop_set_of_lt hin]; exact ht
      · intro k hkn
        rw [put_ne a' v (fun e => by rw [e, List.contains_iff_mem.2 (mem_dsts hoa hdo)] at hkn; cases hkn)]
        exact hk k hkn
      · intro j dj hjn hj hdj
        rw [hb']
        by_cases hij : j = i
        · subst hij
          rw [show l[j]? = some o from by simpa using ho] at hdj
          have : d = dj := Option.some.inj (hdo.symm.trans hdj)
          subst this
          rw [put_eq a' v (by rw [hs]; exact hdn)]
          exact hv
        · have hj' : li.getD j false = true := by
           rw [Array.getD_eq_getD_getElem?, Array.getElem?_setIfInBounds_ne (Ne.symm hij)] at hj
           rw [Array.getD_eq_getD_getElem?]; exact hj
          have hne : dj ≠ d := by
           intro e
           subst e
           cases hoj : l[j]? with
           | none => rw [hoj] at hdj; cases hdj
           | some o' =>
            rw [hoj] at hdj
            exact hij (dst_inj hdst (show (l.take n).toArray[j]? = some o' from by simp [List.getElem?_take_of_lt hjn, hoj]) hoa hdj hdo)
          rw [put_ne a' v hne]
          exact hcv _ _ hne (hG j dj hjn hj' hdj)
     have keepB : i ≠ c -> (li.setIfInBounds i true).getD c false = li.getD c false := fun hne => by
      rw [Array.getD_eq_getD_getElem?, Array.getElem?_setIfInBounds_ne hne, <- Array.getD_eq_getD_getElem?]
     have setB : i = c -> (li.setIfInBounds i true).getD c false = true := fun e => by
      subst e
      have hlt : i < li.size := by have := (Array.getElem?_eq_some_iff.1 ho).1; simp at this; omega
      rw [Array.getD_eq_getD_getElem?, Array.getElem?_setIfInBounds_self_of_lt hlt]; rfl
     unfold wpOp
     rw [ho]
     simp only
     have hdeps : ∀ e ∈ o.after, Region.binds .any e = true -> ∀ d', (l[e.on]?).bind (·.dst) = some d' -> G (li.getD c false) d' (a'.eval (.tmp d')) W := by
      intro e he hbd d' hd'
      have hlt : e.on < i := by
       have h1 := List.all_eq_true.1 hback i (List.mem_range.2 (Array.getElem?_eq_some_iff.1 ho).1)
       rw [ho] at h1
       have := Array.all_eq_true_iff_forall_mem.1 h1 e he
       simpa using this
      exact hG e.on d' (by omega) (hd e he hbd) hd'
     rcases hstep a' W _ hB hs hk i o d ho' hdo hcj hdeps with ⟨hw, hne, hg⟩ | ⟨hw, h2⟩
     · simp only [hw, Bool.false_eq_true, if_false]
       exact next undef W _ (keepB hne) hB (fun _ _ _ h => h) hg
     · simp only [hw, if_true]
       refine .inl ?_
       unfold Oper.wp
       rcases h2 with ⟨v, w', hr, hb⟩ | ⟨f', args, hr, hc'⟩
       · rw [hr]
         rcases hb with ⟨hne, hb, hI⟩ | ⟨he, hRW, hI, hcv⟩
         · exact next v w' _ (keepB hne) (hRb _ _ hB hb) (fun k u _ h => hmono _ k u _ _ h hb) hI
         · exact next v w' true (setB he) hRW (fun k u hne h => hcv k u hne (by rw [hci he] at h; exact h)) hI
       · rw [hr]
         exact hc'.mono fun e w'' ⟨v, he, hne, hb, hI⟩ => by subst he; exact next v w'' _ (keepB hne) (hRb _ _ hB hb) (fun k u _ h => hmono _ k u _ _ h hb) hI
 have h0 : ((Array.replicate l.toArray.size false).toList.take n).count false = n := by simp [List.take_replicate]; omega
 have := main n (Array.replicate l.toArray.size false) a { w with drawn := w.drawn + 1 } (fun i o _ hi => by rw [Array.getD_eq_getD_getElem?, Array.getElem?_replicate] at hi; split at hi <;> simp at hi) h0 (by simp) (by simp) hR0 rfl rfl (fun _ _ => rfl) (by
  intro i d _ hi
  rw [Array.getD_eq_getD_getElem?, Array.getElem?_replicate] at hi
  split at hi <;> simp at hi)
 rw [show n + (l.length - n) = l.toArray.size from by simp; omega] at this
 exact this
end
theorem heap_lt {w : World} {k : Nat} {o : Obj} (h : w.heap[k]? = some o) : k < w.heap.size := (Array.getElem?_eq_some_iff.1 h).1
theorem exec_app {o : Oper} {ev : Operand -> Value} {x y : Operand} {t : TypeId} {w w' : World} {v' vs vx : Value} (ho : o.op = .call { callee := .builtin .append, args := #[x, y], argTypes := #[t, t] }) (hx : ev x = vs) (hy : ev y = vx) (hr : (Builtin.append_ #[t, t] o.type #[vs, vx]).run Tryz.prog w = .ok v' w') : (execOp ev o).run Tryz.prog w = .ok (.value v') w' := by
 unfold execOp
 simp only [ho, resolve, invoke, builtin, Sem.run_bind, Sem.run_pure, Result.andThen_ok, List.map_toArray, List.map_cons, List.map_nil, hx, hy, hr]
theorem thInfo : (Tryz.prog.info? 130).map (fun i => (i.zero, i.size, i.bytes)) = some (some (.agg #[.int .i64 0, .int .i64 0, .int .i64 0, .int .i64 0, .slice none 0 0, .slice none 0 0]), 6, 80) := by kernel_rfl
theorem ivs_app (a b : List Int) : ivs (a ++ b) = ivs a ++ ivs b := by unfold ivs; rw [List.map_append]
theorem ivs_one (l : List Int) : ∀ u ∈ ivs l, u.oneCell' = true := fun u hu => by
 unfold ivs at hu; obtain ⟨x, _, rfl⟩ := List.mem_map.1 hu; rfl
def SrcI (X : World) (q : Option Addr) (l : List Int) : Prop := (q = none /\ l = []) ∨ ∃ a : Addr, q = some a /\ ∀ j u, (ivs l)[j]? = some u -> X.cell? (a.add j) = some u
def SrcT (X : World) (q : Option Addr) (l : List Th) : Prop := (q = none /\ l = []) ∨ ∃ a : Addr, q = some a /\ ∀ j u, (thsC l)[j]? = some u -> X.cell? (a.add j) = some u
theorem SrcI.of {X : World} {q : Option Addr} {l : List Int} (h : IntsAt X q l) : SrcI X q l := by
 cases q with
 | none =>
  refine .inl ⟨rfl, ?_⟩
  cases l with
  | nil => rfl
  | cons x l => obtain ⟨b, o, e, _⟩ := h 0 (by simp); cases e
 | some a =>
  refine .inr ⟨a, rfl, fun j u hu => ?_⟩
  have hj : j < l.length := by have := (List.getElem?_eq_some_iff.1 hu).1; simpa [ivs] using this
  obtain ⟨b, o, e, _, hc⟩ := h j hj
  cases e
  have hu' : u = .int .i64 l[j] := by
   unfold ivs at hu
   rw [List.getElem?_map, List.getElem?_eq_getElem hj] at hu
   simpa using hu.symm
  rw [addr_plus, hu']; exact hc

theorem appI {X : World} {B : Nat} {v : Value} {l l' : List Int} {q : Option Addr} {c : Nat} (hown : X.ownsRow B 3 1 v l.length (ivs l)) (hs : SrcI X q l') (hl : l.length + l'.length < 1000000) (hB : B <= X.heap.size) (ty : TypeId) :
 ∃ v' X', (Builtin.append_ #[37, 37] ty #[v, .slice q l'.length c]).run Tryz.prog X = .ok v' X' /\ X'.ownsRow B 3 1 v' (l ++ l').length (ivs (l ++ l')) /\ X.grownBy X' v.ownBlock := by
 obtain ⟨i0, hi, hz0, hz1, hz2⟩ := info_parts intInfo
 have hT : Tryz.prog.underlying 37 = some (.slice 3) := by kernel_rfl
 rcases hs with ⟨rfl, rfl⟩ | ⟨a, rfl, hc⟩
 · rw [List.append_nil]
   exact ⟨_, X, run_append_owned_none (P := Tryz.prog) X B 37 ty 3 i0 1 hT hi _ _ _ hown, hown, ⟨rfl, rfl, rfl, Nat.le_refl _, fun _ _ _ => rfl⟩⟩
 · obtain ⟨v', w', hr, ho', hgw, _, _⟩ := run_append_own_at (P := Tryz.prog) X B 37 ty 3 i0 (.int .i64 0) 1 8 hT hi hz0 hz1 hz2 rfl (by decide) v l.length (ivs l) hown a l'.length c (ivs l') (ivs_len _) hc (ivs_one _) (by unfold maxLen; omega) (by omega) hB
   exact ⟨v', w', hr, by rw [List.length_append, ivs_app]; exact ho', hgw⟩
def EI (B : Nat) (v : Value) (X : World) : Prop := ∃ g, v = .slice (some ⟨g, 0, none⟩) 0 0 /\ B <= g /\ X.heap[g]? = some (.cells #[] 3 (0, 0))
theorem EI.below {B : Nat} {v : Value} {X X' : World} (h : EI B v X) (hb : Below X.heap.size X X') : EI B v X' := by
 obtain ⟨g, h1, h2, h3⟩ := h
 exact ⟨g, h1, h2, (hb.block g (heap_lt h3)).trans h3⟩
theorem appI_fresh {X : World} {B : Nat} {v : Value} {l : List Int} {q : Option Addr} {c : Nat} (hv : EI B v X) (hs : SrcI X q l) (hl : l.length < 1000000) (ty : TypeId) :
 ∃ v' X', (Builtin.append_ #[37, 37] ty #[v, .slice q l.length c]).run Tryz.prog X = .ok v' X' /\ X'.ownsRow B 3 1 v' l.length (ivs l) /\ Below X.heap.size X X' := by
 obtain ⟨g, rfl, hB, hg⟩ := hv
 obtain ⟨i0, hi, hz0, hz1, hz2⟩ := info_parts intInfo
 have hT : Tryz.prog.underlying 37 = some (.slice 3) := by kernel_rfl
 have hgl := heap_lt hg
 have hown : X.ownsRow B 3 1 (.slice (some ⟨g, 0, none⟩) 0 0) ([] : List Int).length (ivs []) := ⟨rfl, .inr ⟨g, 0, #[], rfl, hB, hg, Nat.le_refl _, by unfold maxLen; omega, rfl, rfl⟩⟩
 obtain ⟨v', w', hr, ho', hgw⟩ := appI (l' := l) (c := c) hown hs (by simpa using hl) (by omega) ty
 rw [List.nil_append] at ho'
 refine ⟨v', w', hr, ho', hgw.os, hgw.tape, hgw.output, hgw.size, fun k hk => ?_⟩
 by_cases e : k = g
 · subst e
   rcases hs with ⟨rfl, rfl⟩ | ⟨a, rfl, hc⟩
   · have h5 := run_append_owned_none (P := Tryz.prog) X B 37 ty 3 i0 1 hT hi _ _ _ hown
     have h6 := hr.symm.trans h5
     simp only [Result.ok.injEq] at h6
     rw [h6.2]
   · by_cases e : l = []
     · subst e
       have h5 := run_append_room (P := Tryz.prog) X 37 ty 3 i0 hT hi k 0 0 #[] hg a 0 c [] (by simp) (fun j w hj => by simp at hj) (fun u hu => by simp at hu) (Nat.le_refl _) (by simp)
       have h6 := hr.symm.trans h5
       simp only [Result.ok.injEq] at h6
       rw [h6.2, setRow_heap X k #[] _ 3 _ hg, hg]; simp
     · have hp : 0 < l.length := List.length_pos_iff.2 e
       have h5 := run_append_grow (P := Tryz.prog) X 37 ty 3 i0 (.int .i64 0) hT hi hz0 ⟨k, 0, none⟩ 0 0 [] (by simp) (fun j w hj => by simp at hj) a l.length c (ivs l) (by rw [hz1]; exact ivs_len _) hc (by omega) (by omega) (growslice_fits (by omega) (by rw [hz2]; omega))
       rw [hr] at h5
       simp only [Result.ok.injEq] at h5
       rw [h5.2]
       exact Below.heap_alloc X.drew _ k hgl
 · exact hgw.block k hk (fun h => e (by simpa [Value.ownBlock] using h))

def ET (B : Nat) (v : Value) (X : World) : Prop := ∃ g, v = .slice (some ⟨g, 0, none⟩) 0 0 /\ B <= g /\ X.heap[g]? = some (.cells #[] 130 (0, 0))
theorem ET.below {B : Nat} {v : Value} {X X' : World} (h : ET B v X) (hb : Below X.heap.size X X') : ET B v X' := by
 obtain ⟨g, h1, h2, h3⟩ := h
 exact ⟨g, h1, h2, (hb.block g (heap_lt h3)).trans h3⟩
section
variable {w W : World} {rb g cap : Nat} {cs : Array Value} {root : Int} {L : List Th} {F : Nat -> Prop}
def Lies (W : World) (rb g g' : Nat) (F : Nat -> Prop) (t : Th) : Prop := CatsAt W t.cp t.cats /\ IntsAt W t.lp t.ents /\ Off (fun b => b = rb ∨ b = g ∨ b = g' ∨ F b) t.cp t.cats.length /\ Off (fun b => b = rb ∨ b = g ∨ b = g' ∨ F b) t.lp t.ents.length
theorem RS.put {W' : World} {cs' : Array Value} {g' cap' : Nat} {L' : List Th} (h : RS w rb g cap cs root L F) (hb : Below w.heap.size w W)
 (tab' : W'.heap[rb]? = some (.cells #[.int .i64 root, .slice (some ⟨g', 0, none⟩) L'.length cap'] 133 (0, 0))) (blk' : W'.heap[g']? = some (.cells cs' 130 (0, 0)))
 (sz' : cs'.size = cap' * 6) (le' : L'.length <= cap') (cel' : ∀ (j : Nat) (u : Value), (thsC L')[j]? = some u -> cs'[j]? = some u) (nd' : (L'.map (·.id)).Nodup) (lim' : L'.length <= 4096 /\ ∀ t ∈ L', t.cats.length < 1000000 /\ t.ents.length < 1000000) (cpl' : cap' <= maxLen)
 (os' : W'.os = W.os /\ W'.tape = W.tape /\ W'.output = W.output) (size' : W.heap.size <= W'.heap.size) (same' : ∀ k, k < W.heap.size -> k ≠ rb -> k ≠ g -> k ≠ g' -> W'.heap[k]? = W.heap[k]?) (hg' : g' = g ∨ w.heap.size <= g')
 (lies' : ∀ t ∈ L', Lies W rb g g' F t) : RS W' rb g' cap' cs' root L' F /\ Fm w W' (fun k => k = rb ∨ k = g) (fun k => k = rb ∨ k = g') := by
 have hk : ∀ k, k < W.heap.size -> ¬ (k = rb ∨ k = g ∨ k = g' ∨ F k) -> W'.heap[k]? = W.heap[k]? := fun k hl hn => same' k hl (fun e => hn (.inl e)) (fun e => hn (.inr (.inl e))) (fun e => hn (.inr (.inr (.inl e))))
 have hzw := hb.size
 refine ⟨⟨tab', blk', sz', le', cel', fun t ht => ?_, fun t ht => ?_, h.frb, ?_, nd', lim', cpl', fun k hf => ?_⟩, ⟨os'.1.trans hb.os, os'.2.1.trans hb.tape, os'.2.2.trans hb.output, Nat.le_trans hb.size size', fun k hl hn => ?_, fun k hf => ?_⟩⟩
 · obtain ⟨c1, c2, o1, o2⟩ := lies' t ht
   exact ⟨cats_keep c1 o1 hk size', ints_keep c2 o2 hk size'⟩
 · obtain ⟨c1, c2, o1, o2⟩ := lies' t ht
   refine ⟨fun hn a ha hb' => o1 hn a ha ?_, fun hn a ha hb' => o2 hn a ha ?_⟩
   · rcases hb' with e | e | e
     · exact .inl e
     · exact .inr (.inr (.inl e))
     · exact .inr (.inr (.inr e))
   · rcases hb' with e | e | e
     · exact .inl e
     · exact .inr (.inr (.inl e))
     · exact .inr (.inr (.inr e))
 · rcases hg' with e | e
   · rw [e]; exact h.frg
   · intro hf; have := h.fl _ hf; omega
 · have := h.fl k hf; omega
 · have hne : k ≠ g' := fun e => by
    rcases hg' with e2 | e2
    · exact hn (.inr (e.trans e2))
    · omega
   exact (same' k (by omega) (fun e => hn (.inl e)) (fun e => hn (.inr e)) hne).trans (hb.block k hl)
 · rcases hf with e | e
   · exact .inl (.inl e)
   · rcases hg' with e2 | e2
     · exact .inl (.inr (e.trans e2))
     · exact .inr (by omega)
theorem RS.old (h : RS w rb g cap cs root L F) (hb : Below w.heap.size w W) {g' : Nat} (hg' : g' = g ∨ w.heap.size <= g') {t : Th} (ht : t ∈ L) : Lies W rb g g' F t := by
 obtain ⟨c1, c2⟩ := h.cat t ht
 obtain ⟨o1, o2⟩ := h.out t ht
 refine ⟨c1.below hb, c2.below hb, fun hn a ha hx => ?_, fun hn a ha hx => ?_⟩
 · rcases hx with e | e | e | e
   · exact o1 hn a ha (.inl e)
   · exact o1 hn a ha (.inr (.inl e))
   · rcases hg' with e2 | e2
     · exact o1 hn a ha (.inr (.inl (e.trans e2)))
     · obtain ⟨b, off, hp, hbl, _⟩ := c1 0 hn
       rw [ha] at hp; cases hp; simp at e; omega
   · exact o1 hn a ha (.inr (.inr e))
 · rcases hx with e | e | e | e
   · exact o2 hn a ha (.inl e)
   · exact o2 hn a ha (.inr (.inl e))
   · rcases hg' with e2 | e2
     · exact o2 hn a ha (.inr (.inl (e.trans e2)))
     · obtain ⟨b, off, hp, hbl, _⟩ := c2 0 hn
       rw [ha] at hp; cases hp; simp at e; omega
   · exact o2 hn a ha (.inr (.inr e))
theorem off_new {g' : Nat} (h : RS w rb g cap cs root L F) {p : Option Addr} {n : Nat} (hp : ∀ a, p = some a -> w.heap.size <= a.block /\ a.block ≠ g') : Off (fun b => b = rb ∨ b = g ∨ b = g' ∨ F b) p n := fun _ a ha hx => by
 obtain ⟨h1, h2⟩ := hp a ha
 have hr := h.rl
 rcases hx with e | e | e | e
 · omega
 · omega
 · exact h2 e
 · have := h.fl _ e; omega
theorem thsC_set {L : List Th} {i : Nat} (hi : i < L.length) (t : Th) (j : Nat) : (thsC (L.set i t))[j]? = if j / 6 = i then (thC t)[j % 6]? else (thsC L)[j]? := by
 by_cases hj : j / 6 < L.length
 · have h6 : j % 6 < 6 := Nat.mod_lt _ (by omega)
   have e : j = (j / 6) * 6 + j % 6 := by omega
   have h1 := thsC_at (L.set i t) (j / 6) (by simpa using hj) (j % 6) h6
   have h2 := thsC_at L (j / 6) hj (j % 6) h6
   rw [<- e] at h1 h2
   rw [h1, h2]
   by_cases hi' : j / 6 = i
   · rw [if_pos hi']; simp [hi']
   · rw [if_neg hi', List.getElem_set_ne (fun e => hi' e.symm)]
 · rw [if_neg (by omega), List.getElem?_eq_none (by rw [thsC_len]; simp; omega), List.getElem?_eq_none (by rw [thsC_len]; omega)]
theorem RS.set1 (h : RS w rb g cap cs root L F) (hb : Below w.heap.size w W) {i : Nat} (hi : i < L.length) (f : Nat) (hf : f < 6) (v : Value) (t : Th) (ht : thC t = (thC L[i]).set f v) (hid : t.id = L[i].id) (hl : Lies W rb g g F t) (hlim : t.cats.length < 1000000 /\ t.ents.length < 1000000) :
 RS (W.setCell ⟨g, i * 6 + f, none⟩ v) rb g cap (cs.setIfInBounds (i * 6 + f) v) root (L.set i t) F /\ Fm w (W.setCell ⟨g, i * 6 + f, none⟩ v) (fun k => k = rb ∨ k = g) (fun k => k = rb ∨ k = g) := by
 have hr := h.rl
 have hW := h.below hb
 refine h.put hb (W' := W.setCell ⟨g, i * 6 + f, none⟩ v) (cs' := cs.setIfInBounds (i * 6 + f) v) (g' := g) (cap' := cap) (L' := L.set i t) ?_ ?_ (by simp [h.sz]) (by simpa using h.le) (fun j u hu => ?_) (by rw [ids_set hi hid]; exact h.nd) ⟨by simpa using h.lim.1, fun u hu => ?_⟩ h.cpl ⟨rfl, rfl, rfl⟩ (by simp) (fun k hk h1 h2 h3 => heap_ne _ _ _ h2) (.inl rfl) (fun u hu => ?_)
 · rw [heap_ne _ _ _ (by show rb ≠ g; exact h.ne), hW.tab]; simp
 · exact heap_setCell_same W g (i * 6 + f) cs _ v hW.blk
 · rw [thsC_set hi] at hu
   have hsz := h.sz
   have hle := h.le
   by_cases e : j / 6 = i
   · rw [if_pos e, ht] at hu
     by_cases e2 : j % 6 = f
     · have ej : i * 6 + f = j := by omega
       rw [ej, Array.getElem?_setIfInBounds_self_of_lt (by omega)]
       rw [e2, List.getElem?_set_self (by simpa [thC] using hf)] at hu
       exact hu
     · rw [List.getElem?_set_ne (fun e => e2 e.symm)] at hu
       rw [Array.getElem?_setIfInBounds_ne (by omega)]
       have := thsC_at L i hi (j % 6) (Nat.mod_lt _ (by omega))
       rw [hu, show i * 6 + j % 6 = j from by omega] at this
       exact h.cel j u this
   · rw [if_neg e] at hu
     rw [Array.getElem?_setIfInBounds_ne (by omega)]
     exact h.cel j u hu
 · rcases mem_set' hu with rfl | ⟨j, hj, _, rfl⟩
   · exact hlim
   · exact h.lim.2 _ (List.getElem_mem hj)
 · rcases mem_set' hu with rfl | ⟨j, hj, _, rfl⟩
   · exact hl
   · exact h.old hb (.inl rfl) (List.getElem_mem hj)
theorem RS.setE (h : RS w rb g cap cs root L F) (hb : Below w.heap.size w W) {i : Nat} (hi : i < L.length) (p : Option Addr) (c : Nat) (l : List Int) (hI : IntsAt W p l) (hp : ∀ a, p = some a -> w.heap.size <= a.block) (hl : l.length < 1000000) :
 RS (W.setCell ⟨g, i * 6 + 5, none⟩ (.slice p l.length c)) rb g cap (cs.setIfInBounds (i * 6 + 5) (.slice p l.length c)) root (L.set i { L[i] with lp := p, lc := c, ents := l }) F /\ Fm w (W.setCell ⟨g, i * 6 + 5, none⟩ (.slice p l.length c)) (fun k => k = rb ∨ k = g) (fun k => k = rb ∨ k = g) := by
 have ho := h.old hb (g' := g) (.inl rfl) (List.getElem_mem hi)
 have hr := h.rl
 exact h.set1 hb hi 5 (by omega) _ { L[i] with lp := p, lc := c, ents := l } rfl rfl ⟨ho.1, hI, ho.2.2.1, off_new h (fun a ha => ⟨hp a ha, by have := hp a ha; omega⟩)⟩ ⟨(h.lim.2 _ (List.getElem_mem hi)).1, hl⟩
end
end Go.Proofs.YtmgfakfiiaeofaaGreat.Ho
