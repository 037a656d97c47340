/- What New of package kern makes, slot by slot. -/
import Derived.Test.YtmgfakfiiaeofaaGreatKoPhase6
import Derived.Test.YtmgfakfiiaeofaaGreatHoCont
import Derived.Test.YtmgfakfiiaeofaaGreatHoCut
import Derived.Test.YtmgfakfiiaeofaaGreatWaAlertF
import Derived.Test.YtmgfakfiiaeofaaGreatKoRTail
import Derived.Shelf.Abstract
/- The law of a drawn region that makes blocks and fills maps that it has made: each new block belongs to the slot that it was made for, and a slot's facts speak of its own blocks and of older ones alone. -/
namespace Go.Proofs.YtmgfakfiiaeofaaGreat.Ko
open Go.RowKit Go.Sort
section
variable {P : Program}
abbrev Own := Nat -> Option Nat
def dstO (ops : Array Oper) (tgt : Nat -> Option Nat) (n : Nat) : Bool := ((List.range ops.size).all fun i => match ops[i]? with | some o => (match o.dst with | some d => decide (d < n) && (tgt i).isNone | none => (match tgt i with | some m => o.after.any (fun e => Region.binds .any e && ((ops[e.on]?).bind (·.dst) == some m)) | none => false)) | none => true) && decide (dsts ops).Nodup
theorem dstO_of {ops : Array Oper} {tgt : Nat -> Option Nat} {n : Nat} (h : dstO ops tgt n = true) {i : Nat} {o : Oper} (ho : ops[i]? = some o) :
 (∃ d, o.dst = some d /\ d < n /\ tgt i = none) ∨ (o.dst = none /\ ∃ m, tgt i = some m /\ ∃ e ∈ o.after, Region.binds .any e = true /\ (ops[e.on]?).bind (·.dst) = some m) := by
 unfold dstO at h
 rw [Bool.and_eq_true, List.all_eq_true] at h
 have := h.1 i (List.mem_range.2 (Array.getElem?_eq_some_iff.1 ho).1)
 rw [ho] at this
 simp only at this
 cases hd : o.dst with
 | some d =>
  rw [hd] at this
  simp only [Bool.and_eq_true, decide_eq_true_eq, Option.isNone_iff_eq_none] at this
  exact .inl ⟨d, rfl, this.1, this.2⟩
 | none =>
  rw [hd] at this
  simp only at this
  cases ht : tgt i with
  | none => rw [ht] at this; cases this
  | some m =>
   rw [ht] at this
   simp only at this
   rw [Array.any_eq_true'] at this
   obtain ⟨e, he, h3⟩ := this
   rw [Bool.and_eq_true] at h3
   exact .inr ⟨rfl, m, rfl, e, he, h3.1, by simpa using h3.2⟩
theorem dstO_inj {ops : Array Oper} {tgt : Nat -> Option Nat} {n : Nat} (h : dstO ops tgt n = true) {i j : Nat} {o o' : Oper} {d : Nat} (h1 : ops[i]? = some o) (h2 : ops[j]? = some o') (d1 : o.dst = some d) (d2 : o'.dst = some d) : i = j := by
 unfold dstO dsts at h
 rw [Bool.and_eq_true, decide_eq_true_eq] at h
 exact fm_inj h.2 (by rw [Array.getElem?_toList]; exact h1) (by rw [Array.getElem?_toList]; exact h2) d1 d2
def ownN (own : Own) (d : Nat) (W W' : World) : Own := fun j => if j < W.heap.size then own j else if j < W'.heap.size then some d else none
structure Fresh (tgt : Nat -> Option Nat) (d : Nat) (v : Value) (a' : Act) (li li' : Array Bool) (W W' : World) (own' : Own) (env' : Nat -> Value) : Prop where
 own : ∀ j, W.heap.size <= j -> j < W'.heap.size -> own' j = some d
 val : env' d = v
 env : ∀ k, k ≠ d -> env' k = a'.eval (.tmp k)
 done : ∀ j, li.getD j false = true -> li'.getD j false = true
 ins : ∀ c, tgt c = some d -> li'.getD c false = false
theorem wp_region_own {l : List Oper} {id : Nat} {Q : Exit -> Act -> World -> Prop} {a : Act} {w : World} (tgt : Nat -> Option Nat) (G : Nat -> Own -> (Nat -> Value) -> Array Bool -> World -> Prop)
 (hm : P.follows .mixedOrders = true) (hback : backT l.toArray = true) (hdst : dstO l.toArray tgt a.tmps.size = true)
 (hloc : ∀ (d : Nat) (own own' : Own) (env env' : Nat -> Value) (li li' : Array Bool) (W W' : World), G d own env li W ->
  (∀ j, own j = some d -> own' j = some d /\ W'.heap[j]? = W.heap[j]?) -> W.heap.size <= W'.heap.size -> Below w.heap.size w W -> Below w.heap.size w W' -> env' d = env d ->
  (∀ i k, li.getD i false = true -> (l[i]?).bind (·.dst) = some k -> env' k = env k) -> (∀ i, li.getD i false = true -> li'.getD i false = true) -> (∀ c, tgt c = some d -> li'.getD c false = li.getD c false) -> G d own' env' li' W')
 (hstep : ∀ (a' : Act) (W : World) (own : Own) (li : Array Bool), Below w.heap.size w W -> a'.tmps.size = a.tmps.size -> (∀ k, (dsts l.toArray).contains k = false -> a'.eval (.tmp k) = a.eval (.tmp k)) -> (∀ j, own j ≠ none -> w.heap.size <= j /\ j < W.heap.size) ->
  ∀ (i : Nat) (o : Oper) (d : Nat), l[i]? = some o -> o.dst = some d -> (∀ e ∈ o.after, Region.binds .any e = true -> li.getD e.on false = true) ->
  (∀ j dj, li.getD j false = true -> (l[j]?).bind (·.dst) = some dj -> G dj own (fun k => a'.eval (.tmp k)) li W) ->
  Region.wanted o (yielded l.toArray a'.tmps) = true /\ ((∃ v W', (execOp a'.eval o).run P W = .ok (.value v) W' /\ Below W.heap.size W W' /\ ∀ own' env' li', Fresh tgt d v a' li li' W W' own' env' -> G d own' env' li' W') ∨
   (∃ f args, (execOp a'.eval o).run P W = .ok (.enter f args) W /\ Calls P f args W fun e W' => ∃ v, e = .returned v /\ Below W.heap.size W W' /\ ∀ own' env' li', Fresh tgt d v a' li li' W W' own' env' -> G d own' env' li' W')))
 (hst : ∀ (a' : Act) (W : World) (own : Own) (li : Array Bool), Below w.heap.size w W -> (∀ k, (dsts l.toArray).contains k = false -> a'.eval (.tmp k) = a.eval (.tmp k)) -> (∀ j, own j ≠ none -> w.heap.size <= j /\ j < W.heap.size) ->
  ∀ (c : Nat) (o : Oper) (m : Nat), l[c]? = some o -> tgt c = some m -> li.getD c false = false -> (∀ e ∈ o.after, Region.binds .any e = true -> li.getD e.on false = true) ->
  (∀ j dj, li.getD j false = true -> (l[j]?).bind (·.dst) = some dj -> G dj own (fun k => a'.eval (.tmp k)) li W) ->
  Region.wanted o (yielded l.toArray a'.tmps) = true /\ ∃ W', (execOp a'.eval o).run P W = .ok .skip W' /\ W.heap.size <= W'.heap.size /\ Below w.heap.size w W' /\ (∀ j, j < W.heap.size -> own j ≠ some m -> W'.heap[j]? = W.heap[j]?) /\ ∀ li', (∀ j, li.getD j false = true -> li'.getD j false = true) -> li'.getD c false = true -> (∀ j, j ≠ c -> li'.getD j false = li.getD j false) -> G m own (fun k => a'.eval (.tmp k)) li' W')
 (hend : ∀ a' W own li, Below w.heap.size w W -> a'.tmps.size = a.tmps.size -> a'.defers = a.defers -> (∀ k, (dsts l.toArray).contains k = false -> a'.eval (.tmp k) = a.eval (.tmp k)) -> (∀ j, own j ≠ none -> w.heap.size <= j /\ j < W.heap.size) -> (∀ j, j < l.length -> li.getD j false = true) ->
  (∀ (i d : Nat), i < l.length -> (l[i]?).bind (·.dst) = some d -> G d own (fun k => a'.eval (.tmp k)) li W) -> Q .normal a' W) : (Code.region id l.toArray true).wp P Q a w := by
 refine wp_region_inv (fun li a' W => ClB l.toArray li /\ li.size = l.length /\ a'.tmps.size = a.tmps.size /\ a'.defers = a.defers /\ (∀ k, (dsts l.toArray).contains k = false -> a'.eval (.tmp k) = a.eval (.tmp k)) /\ Below w.heap.size w W /\ ∃ own : Own, (∀ j, own j ≠ none -> w.heap.size <= j /\ j < W.heap.size) /\ (∀ (i d : Nat), li.getD i false = true -> (l[i]?).bind (·.dst) = some d -> G d own (fun k => a'.eval (.tmp k)) li W)) hm ?_ ?_ ?_
 · rintro li a' W i o ⟨hcb, hsz, hs, hdf, hk, hB, own, hown, hG⟩ hu ho hd
   have hlo : l[i]? = some o := by simpa using ho
   have huf := getD_one hu
   have hset : ∀ j, li.getD j false = true -> (li.setIfInBounds i true).getD j false = true := fun j hj => getD_set hj
   have hiT : (li.setIfInBounds i true).getD i false = true := getD_oneS hu
   rcases dstO_of hdst ho with ⟨d, hdo, hdn, htg⟩ | ⟨hdo, m, htg, em, hem, hbm, hdm⟩
   · obtain ⟨hw, h2⟩ := hstep a' W own li hB hs hk hown i o d hlo hdo hd hG
     have next : ∀ (v : Value) (W' : World), Below W.heap.size W W' -> (∀ own' env' li', Fresh tgt d v a' li li' W W' own' env' -> G d own' env' li' W') ->
      ClB l.toArray (li.setIfInBounds i true) /\ (li.setIfInBounds i true).size = l.length /\ (a'.put o.dst v).tmps.size = a.tmps.size /\ (a'.put o.dst v).defers = a.defers /\ (∀ k, (dsts l.toArray).contains k = false -> (a'.put o.dst v).eval (.tmp k) = a.eval (.tmp k)) /\ Below w.heap.size w W' /\ ∃ own' : Own, (∀ j, own' j ≠ none -> w.heap.size <= j /\ j < W'.heap.size) /\ (∀ (j dj : Nat), (li.setIfInBounds i true).getD j false = true -> (l[j]?).bind (·.dst) = some dj -> G dj own' (fun k => (a'.put o.dst v).eval (.tmp k)) (li.setIfInBounds i true) W') := by
      intro v W' hb hv
      rw [hdo]
      have hBW' : Below w.heap.size w W' := hB.trans (hb.mono hB.size)
      refine ⟨hcb.set ho hd, by rw [Array.size_setIfInBounds]; exact hsz, by simp only [Act.put]; rw [Array.size_setIfInBounds]; exact hs, by simp only [Act.put]; exact hdf, ?_, hBW', ownN own d W W', ?_, ?_⟩
      · intro k hkn
        rw [put_ne a' v (fun e => by rw [e, List.contains_iff_mem.2 (mem_dsts ho hdo)] at hkn; cases hkn)]
        exact hk k hkn
      · intro j hj
        unfold ownN at hj
        have hz := hB.size
        split at hj
        · exact ⟨(hown j hj).1, Nat.lt_of_lt_of_le (hown j hj).2 hb.size⟩
        · rename_i h1
          split at hj
          · rename_i h3; exact ⟨by omega, h3⟩
          · exact absurd rfl hj
      · intro j dj hj hdj
        by_cases hij : j = i
        · subst hij
          rw [hlo] at hdj
          have : d = dj := Option.some.inj (hdo.symm.trans hdj)
          subst this
          refine hv _ _ _ ⟨fun q h1 h2 => ?_, put_eq a' v (by rw [hs]; exact hdn), fun k hne => put_ne a' v hne, hset, fun c hc => ?_⟩
          · unfold ownN
            rw [if_neg (by omega), if_pos h2]
          · have hcj : c ≠ j := fun e => by subst e; rw [htg] at hc; cases hc
            rw [getD_oneN hcj]
            cases hx : li.getD c false with
            | false => rfl
            | true =>
             exfalso
             cases hoc : l.toArray[c]? with
             | none =>
              have h5 : ¬ c < l.length := fun hlt => by simp [hlt] at hoc
              rw [Array.getD_eq_getD_getElem?, Array.getElem?_eq_none (by omega)] at hx
              cases hx
             | some oc =>
              rcases dstO_of hdst hoc with ⟨_, _, _, h6⟩ | ⟨_, m', h6, e6, he6, hb6, hd6⟩
              · rw [hc] at h6; cases h6
              · rw [hc] at h6
                obtain rfl := Option.some.inj h6
                have h7 := hcb c oc hoc hx e6 he6 hb6
                cases ho6 : l.toArray[e6.on]? with
                | none => rw [ho6] at hd6; cases hd6
                | some o6 =>
                 rw [ho6] at hd6
                 have : e6.on = j := dstO_inj hdst ho6 ho hd6 hdo
                 rw [this, huf] at h7
                 cases h7
        · rw [getD_oneN hij] at hj
          have hne : dj ≠ d := by
           intro e
           subst e
           cases hoj : l[j]? with
           | none => rw [hoj] at hdj; cases hdj
           | some o' =>
            rw [hoj] at hdj
            exact hij (dstO_inj hdst (show l.toArray[j]? = some o' from by simpa using hoj) ho hdj hdo)
          refine hloc dj own _ _ _ li _ W W' (hG j dj hj hdj) (fun q hq => ?_) hb.size hB hBW' (put_ne a' v hne) (fun j2 k h3 h4 => ?_) hset (fun c hc => ?_)
          · have h9 := hown q (by rw [hq]; simp)
            refine ⟨?_, hb.block q h9.2⟩
            unfold ownN
            rw [if_pos h9.2]; exact hq
          · refine put_ne a' v (fun e => ?_)
            subst e
            cases hoj : l[j2]? with
            | none => rw [hoj] at h4; cases h4
            | some o' =>
             rw [hoj] at h4
             have : j2 = i := dstO_inj hdst (show l.toArray[j2]? = some o' from by simpa using hoj) ho h4 hdo
             rw [this, huf] at h3
             cases h3
          · exact getD_oneN (fun e => by subst e; rw [htg] at hc; cases hc)
     refine ⟨hw, ?_⟩
     rcases h2 with ⟨v, W', hr, hb, hv⟩ | ⟨f', args, hr, hc⟩
     · exact .inl ⟨v, W', hr, next v W' hb hv⟩
     · exact .inr (.inr ⟨f', args, hr, hc.mono fun e W' ⟨v, he, hb, hv⟩ => ⟨v, he, next v W' hb hv⟩⟩)
   · obtain ⟨hw, W', hr, hz, hBW', hsame, hGm⟩ := hst a' W own li hB hk hown i o m hlo htg huf hd hG
     have hput : a'.put o.dst undef = a' := by rw [hdo]; rfl
     refine ⟨hw, .inr (.inl ⟨W', hr, hcb.set ho hd, by rw [Array.size_setIfInBounds]; exact hsz, by rw [hput]; exact hs, by rw [hput]; exact hdf, by rw [hput]; exact hk, hBW', own, fun j hj => ⟨(hown j hj).1, Nat.lt_of_lt_of_le (hown j hj).2 hz⟩, ?_⟩)⟩
     intro j dj hj hdj
     rw [hput]
     by_cases hdm' : dj = m
     · subst hdm'
       exact hGm _ hset hiT (fun q hq => getD_oneN hq)
     · have hij : j ≠ i := fun e => by subst e; rw [hlo] at hdj; rw [show (some o).bind (·.dst) = o.dst from rfl, hdo] at hdj; cases hdj
       rw [getD_oneN hij] at hj
       refine hloc dj own own _ _ li _ W W' (hG j dj hj hdj) (fun q hq => ⟨hq, hsame q (hown q (by rw [hq]; simp)).2 (by rw [hq]; intro e; exact hdm' (Option.some.inj e))⟩) hz hB hBW' rfl (fun _ _ _ _ => rfl) hset (fun c hc => ?_)
       exact getD_oneN (fun e => by subst e; rw [htg] at hc; exact hdm' (Option.some.inj hc).symm)
 · rintro li a' W ⟨hcb, hsz, hs, hdf, hk, hB, own, hown, hG⟩ he
   have hall : ∀ j, j < l.length -> li.getD j false = true := fun j hj => ready_nil_allT hback (by simpa using hsz) he j j (Nat.le_refl _) (by simpa using hj)
   exact hend a' W own li hB hs hdf hk hown hall (fun i d hi hd => hG i d (hall i hi) hd)
 · have h0 : ∀ i, (Array.replicate l.toArray.size false).getD i false = false := fun i => by
    rw [Array.getD_eq_getD_getElem?, Array.getElem?_replicate]; split <;> rfl
   refine ⟨?_, by simp, rfl, rfl, fun _ _ => rfl, (Below.refl w.heap.size w).drew, fun _ => none, fun j hj => absurd rfl hj, ?_⟩
   · intro i o _ hi; rw [h0] at hi; cases hi
   · intro i d hi; rw [h0] at hi; cases hi
end
end Go.Proofs.YtmgfakfiiaeofaaGreat.Ko
/- The small calls of package kern. -/
namespace Go.Proofs.YtmgfakfiiaeofaaGreat
open Go.RowKit Go.Sort
theorem isNumber_any (n : Int) (w : World) : Calls Tryz.prog 30 #[.int .i64 n] w fun e w' => e = .returned (.bool (Ho.isCt n)) /\ w' = w := by
 by_cases h1 : 1 <= n <;> by_cases h2 : n <= 2305843009213693951 <;>
 · go_enter Tryz.func30, Tryz.ntmps30
   go_wp2
   go_ret
   exact ⟨by simp [Ho.isCt, h1, h2], rfl⟩
set_option maxRecDepth 100000 in
theorem canBoot_yes (r c t : Int) (w : World) (hr : Ho.isCt r = true) (hc : Ho.isCt c = true) (ht : Ho.isCt t = true) (h1 : r ≠ c) (h2 : r ≠ t) (h3 : c ≠ t) :
 Calls Tryz.prog 13 #[.agg #[.int .i64 r, .int .i64 c, .int .i64 t]] w fun e w' => e = .returned (.bool true) /\ Below w.heap.size w w' := by
 have HN := Lib.hid isNumber_any
 have b1 : (r != c) = true := by simpa using h1
 have b2 : (r != t) = true := by simpa using h2
 have b3 : (c != t) = true := by simpa using h3
 go_enter Tryz.func13, Tryz.ntmps13
 go_wp2_with (go_at_call 30; refine (HN.out _ _).mono ?_; rintro e w2 ⟨rfl, hw2⟩; rw [hw2]; clear hw2 w2)
 go_ret
 exact ⟨rfl, (Below.refl _ _).alloc (Nat.le_refl _) _⟩
open Go.Maps (Keyed)
abbrev uv : Value := .agg #[]
def unitE : Value -> Option (DataW Unit × List MemPlace)
 | .agg cs => if cs.size = 0 then some (.agg [], []) else none
 | _ => none
def SAt (w : World) (m n : Nat) (S : Int -> Bool) : Prop := ∃ D : DataW Unit, w.ownsMap Tryz.prog 3 unitE m n D /\ Maps.size D = n /\ ∀ k, Maps.has D (Wa.ky k) = S k
theorem keyedI : Keyed Tryz.prog 3 := Maps.int_keyed (show Tryz.prog.underlying 3 = some (.int .i64) by kernel_rfl)
theorem umU : Tryz.prog.underlying 79 = some (.map 3 78) := by kernel_rfl
theorem SAt.lt {w : World} {m n : Nat} {S : Int -> Bool} (h : SAt w m n S) : m < w.heap.size := by obtain ⟨D, h, _⟩ := h; exact h.lt
theorem SAt.same {w w' : World} {m n : Nat} {S : Int -> Bool} (h : SAt w m n S) (hs : w'.heap[m]? = w.heap[m]?) : SAt w' m n S := by
 obtain ⟨D, ⟨es, clock, hb, r⟩, r2⟩ := h
 exact ⟨D, ⟨es, clock, hs.trans hb, r⟩, r2⟩
theorem SAt.made {w : World} {m : Nat} (h : w.heap[m]? = some (.map #[] 0)) : SAt w m 0 (fun _ => false) := by
 have h1 := World.ownsMap_made (H := Unit) w Tryz.prog 3 unitE
 obtain ⟨es, clock, hb, r⟩ := h1
 have he : (w.alloc (.map #[] 0)).heap[w.heap.size]? = some (.map #[] 0) := (MapKept.heap_alloc w _).1
 rw [he] at hb
 cases hb
 exact ⟨.map [], ⟨_, _, h, r⟩, rfl, fun k => rfl⟩
theorem MAt.madeAt {w : World} {m : Nat} (h : w.heap[m]? = some (.map #[] 0)) (t : TypeId) : Wa.MAt w t m 0 (fun _ => none) := by
 have h1 := World.ownsMap_made (H := Unit) w Tryz.prog t Wa.ptrE
 obtain ⟨es, clock, hb, r⟩ := h1
 have he : (w.alloc (.map #[] 0)).heap[w.heap.size]? = some (.map #[] 0) := (MapKept.heap_alloc w _).1
 rw [he] at hb
 cases hb
 exact ⟨.map [], ⟨_, _, h, r⟩, rfl, fun k hk => ⟨rfl, fun B hB => by cases hB⟩⟩
theorem SAt.put {w : World} {m n : Nat} {S : Int -> Bool} (h : SAt w m n S) (hn : n < 1000000) (x : Int) (hx : Wa.i64 x) :
 ∃ w', (Instr.mapUpdate 79 (.map (some m)) (.int .i64 x) uv).run Tryz.prog w = .ok () w' /\ SAt w' m (if S x then n else n + 1) (fun k => k == x || S k) /\ w.grownBy w' (some m) /\ w'.heap.size = w.heap.size := by
 obtain ⟨D, h1, h2, h3⟩ := h
 have hkey := Wa.keyI hx
 obtain ⟨w', hrun, hm, hg⟩ := h1.store keyedI umU (by unfold maxLen; omega) hkey (val := uv) (d := .agg []) (ps := []) rfl
 have hkl := keyedI.key hkey
 have hsz : Maps.size (D.put (Wa.ky x) (.agg [])) = if S x then n else n + 1 := by
  rw [Maps.size_put (h1.tidy keyedI), h3, h2]
  try rfl
 have hs : w'.heap.size = w.heap.size := by
  obtain ⟨_, _, _, _, _, rfl⟩ := hg
  unfold ChangeMaps.setBlock; simp
 refine ⟨w', hrun, ⟨_, ?_, hsz, ?_⟩, hg.grown, hs⟩
 · obtain ⟨es, clock, hb, F, hle, hD⟩ := hm
   refine ⟨es, clock, hb, F, ?_, hD⟩
   have : Maps.size (D.put (Wa.ky x) (.agg [])) = es.size := by rw [hD]; simp [Maps.size, length_sorted]
   omega
 · intro k
   by_cases hkk : k = x
   · subst hkk
     rw [Maps.has_put_same h1.isMap hkl]; simp
   · rw [Maps.has_put_other (by simpa using hkk), h3]; simp [hkk]
section
theorem exec_call0 {o : Oper} {ev : Operand -> Value} {f : Nat} {ts : Array TypeId} {w : World} (ho : o.op = .call { callee := .value (.func f), args := #[], argTypes := ts }) (hf : ev (.func f) = .func (.func f) #[] #[]) (eg : ∀ args w, (callFunc f args).run Tryz.prog w = .ok (.enter f args) w) : (execOp ev o).run Tryz.prog w = .ok (.enter f #[]) w := by
 unfold execOp
 simp [ho, resolve, invoke, hf, eg, go_sem]
theorem exec_call2 {o : Oper} {ev : Operand -> Value} {f : Nat} {x0 x1 : Operand} {ts : Array TypeId} {v0 v1 : Value} {w : World} (ho : o.op = .call { callee := .value (.func f), args := #[x0, x1], argTypes := ts }) (hf : ev (.func f) = .func (.func f) #[] #[]) (h0 : ev x0 = v0) (h1 : ev x1 = v1) (eg : ∀ args w, (callFunc f args).run Tryz.prog w = .ok (.enter f args) w) : (execOp ev o).run Tryz.prog w = .ok (.enter f #[v0, v1]) w := by
 unfold execOp
 simp [ho, resolve, invoke, hf, h0, h1, eg, go_sem]
end
def thZ : Array Value := #[.int .i64 4, .slice none 0 0, .int .i64 0, .int .i64 0, .int .u64 0, .int .u64 0, .int .u64 0, .int .u64 0, .int .u64 0, .int .u64 0, .int .u64 0, .int .u64 0, .int .u64 0, .int .u64 0, .int .u64 0, .int .u64 0, .int .u64 0, .int .u64 0, .int .u64 0, .int .u64 0, .int .u64 0, .bool false]
def dvZ : Array Value := #[.slice none 0 0, .slice none 0 0]
def NTab (lo : Nat) (r : Int) (v : Value) (W : World) (own : Ko.Own) : Prop := ∃ base tb mb D rr, v = Wa.pv tb /\ lo <= base /\ Ho.TAt W base tb mb D (Ho.T0 r rr) /\ rr.ob = Ho.root0 r 2 [] /\ Maps.size D = 1 /\ ∀ k, Ho.tfoot tb mb (Ho.T0 r rr) k -> own k = some 13
def NRms (v : Value) (W : World) (own : Ko.Own) : Prop := ∃ rb F, v = Wa.pv rb /\ Wa.RA W rb F [] (fun _ => []) 0 /\ (∀ k, F k -> k < W.heap.size) /\ ∀ k, F k -> own k = some 14
def NEmp (d : Nat) (v : Value) (W : World) (own : Ko.Own) : Prop := ∃ m, v = .map (some m) /\ own m = some d /\ W.heap[m]? = some (.map #[] 0)
def NFil (d cI pI pd : Nat) (key : Int) (own : Ko.Own) (env : Nat -> Value) (li : Array Bool) (W : World) : Prop := ∃ m, env d = .map (some m) /\ own m = some d /\ (if li.getD cI false = true then li.getD pI false = true /\ ∃ B, env pd = Wa.pv B /\ Wa.MAt W 3 m 1 (Wa.updF (fun _ => none) (Wa.ky key) (some B)) else W.heap[m]? = some (.map #[] 0))
def NBox (d : Nat) (cs : Array Value) (ty : TypeId) (v : Value) (W : World) (own : Ko.Own) : Prop := ∃ B, v = Wa.pv B /\ own B = some d /\ W.heap[B]? = some (.cells cs ty (0, 0))
def bN (b : Bool) : Nat := if b = true then 1 else 0
theorem bN_le (b : Bool) : bN b <= 1 := by cases b <;> decide
theorem key_of {n : Int} (h : Ho.isCt n = true) : Wa.i64 n := by
 unfold Ho.isCt at h; simp at h; unfold Wa.i64; omega
def NSet (r c t : Int) (own : Ko.Own) (env : Nat -> Value) (li : Array Bool) (W : World) : Prop := ∃ m S, env 31 = .map (some m) /\ own m = some 31 /\ SAt W m (bN (li.getD 27 false) + bN (li.getD 31 false) + bN (li.getD 35 false)) S /\ ∀ k, S k = ((li.getD 27 false && k == r) || (li.getD 31 false && k == c) || (li.getD 35 false && k == t))
def knV (v13 v14 v15 v16 v23 v24 v30 v41 : Value) : Array Value := #[v13, v14, v15, v16, v23, v24, v30, v41, .int .i64 0]
def NG (r c t : Int) (b0 lo : Nat) (d : Nat) (own : Ko.Own) (env : Nat -> Value) (li : Array Bool) (W : World) : Prop :=
 match d with
 | 10 => env 10 = .pointer (some ⟨b0, 0, none⟩)
 | 11 => env 11 = .int .i64 r
 | 12 => env 12 = .agg #[.int .i64 2, .slice none 0 0]
 | 13 => NTab lo r (env 13) W own
 | 14 => NRms (env 14) W own
 | 15 => NEmp 15 (env 15) W own
 | 16 => NEmp 16 (env 16) W own
 | 17 => NFil 17 13 12 22 t own env li W
 | 18 => env 18 = .pointer (some ⟨b0, 2, none⟩)
 | 19 => env 19 = .int .i64 t
 | 20 => env 20 = .agg #[.int .i64 4, .slice none 0 0]
 | 21 => env 21 = .agg thZ
 | 22 => NBox 22 thZ 70 (env 22) W own
 | 23 => li.getD 7 false = true /\ li.getD 13 false = true /\ env 23 = env 17
 | 24 => NEmp 24 (env 24) W own
 | 25 => NFil 25 21 20 29 c own env li W
 | 26 => env 26 = .pointer (some ⟨b0, 1, none⟩)
 | 27 => env 27 = .int .i64 c
 | 28 => env 28 = .agg dvZ
 | 29 => NBox 29 dvZ 76 (env 29) W own
 | 30 => li.getD 16 false = true /\ li.getD 21 false = true /\ env 30 = env 25
 | 31 => NSet r c t own env li W
 | 32 => env 32 = .pointer (some ⟨b0, 0, none⟩)
 | 33 => env 33 = .int .i64 r
 | 34 => env 34 = .agg #[]
 | 35 => env 35 = .pointer (some ⟨b0, 1, none⟩)
 | 36 => env 36 = .int .i64 c
 | 37 => env 37 = .agg #[]
 | 38 => env 38 = .pointer (some ⟨b0, 2, none⟩)
 | 39 => env 39 = .int .i64 t
 | 40 => env 40 = .agg #[]
 | 41 => li.getD 23 false = true /\ env 41 = env 31
 | 42 => (li.getD 3 false = true /\ li.getD 4 false = true /\ li.getD 5 false = true /\ li.getD 6 false = true) /\ (li.getD 14 false = true /\ li.getD 15 false = true /\ li.getD 22 false = true /\ li.getD 36 false = true) /\ env 42 = .agg (knV (env 13) (env 14) (env 15) (env 16) (env 23) (env 24) (env 30) (env 41))
 | 43 => li.getD 37 false = true /\ ∃ cs, env 42 = .agg cs /\ NBox 43 cs 81 (env 43) W own
 | 5 => li.getD 38 false = true /\ env 5 = env 43
 | _ => True
def ntgt (i : Nat) : Option Nat := if i = 13 then some 17 else if i = 21 then some 25 else if i = 27 ∨ i = 31 ∨ i = 35 then some 31 else none
theorem NG_loc {l : List Oper} {w : World} (r c t : Int) (b0 lo : Nat)
 (h7 : (l[7]?).bind (·.dst) = some 17) (h12 : (l[12]?).bind (·.dst) = some 22) (h16 : (l[16]?).bind (·.dst) = some 25) (h20 : (l[20]?).bind (·.dst) = some 29) (h23 : (l[23]?).bind (·.dst) = some 31)
 (h3 : (l[3]?).bind (·.dst) = some 13) (h4 : (l[4]?).bind (·.dst) = some 14) (h5 : (l[5]?).bind (·.dst) = some 15) (h6 : (l[6]?).bind (·.dst) = some 16) (h14 : (l[14]?).bind (·.dst) = some 23) (h15 : (l[15]?).bind (·.dst) = some 24) (h22 : (l[22]?).bind (·.dst) = some 30) (h36 : (l[36]?).bind (·.dst) = some 41) (h37 : (l[37]?).bind (·.dst) = some 42) (h38 : (l[38]?).bind (·.dst) = some 43) :
 ∀ (d : Nat) (own own' : Ko.Own) (env env' : Nat -> Value) (li li' : Array Bool) (W W' : World), NG r c t b0 lo d own env li W ->
  (∀ j, own j = some d -> own' j = some d /\ W'.heap[j]? = W.heap[j]?) -> W.heap.size <= W'.heap.size -> Below w.heap.size w W -> Below w.heap.size w W' -> env' d = env d ->
  (∀ i k, li.getD i false = true -> (l[i]?).bind (·.dst) = some k -> env' k = env k) -> (∀ i, li.getD i false = true -> li'.getD i false = true) -> (∀ c, ntgt c = some d -> li'.getD c false = li.getD c false) -> NG r c t b0 lo d own' env' li' W' := by
 intro d own own' env env' li li' W W' h hown hz hB hB' hd he hm hi
 have emp : ∀ k, NEmp k (env k) W own -> (∀ j, own j = some k -> own' j = some k /\ W'.heap[j]? = W.heap[j]?) -> env' k = env k -> NEmp k (env' k) W' own' := fun k ⟨m, h1, h2, h3⟩ ho hk => ⟨m, hk.trans h1, (ho m h2).1, (ho m h2).2.trans h3⟩
 have box : ∀ k cs ty v v', NBox k cs ty v W own -> (∀ j, own j = some k -> own' j = some k /\ W'.heap[j]? = W.heap[j]?) -> v' = v -> NBox k cs ty v' W' own' := fun k cs ty v v' ⟨m, h1, h2, h3⟩ ho hk => ⟨m, hk.trans h1, (ho m h2).1, (ho m h2).2.trans h3⟩
 have fil : ∀ k cI pI pd key, (l[pI]?).bind (·.dst) = some pd -> NFil k cI pI pd key own env li W -> (∀ j, own j = some k -> own' j = some k /\ W'.heap[j]? = W.heap[j]?) -> env' k = env k -> li'.getD cI false = li.getD cI false -> NFil k cI pI pd key own' env' li' W' := by
  intro k cI pI pd key hp ⟨m, h1, h2, h3⟩ ho hk hc
  refine ⟨m, hk.trans h1, (ho m h2).1, ?_⟩
  rw [hc]
  split
  · rename_i hx
    rw [if_pos hx] at h3
    obtain ⟨h4, B, h5, h6⟩ := h3
    exact ⟨hm _ h4, B, (he pI pd h4 hp).trans h5, h6.same (ho m h2).2⟩
  · rename_i hx
    rw [if_neg hx] at h3
    exact (ho m h2).2.trans h3
 unfold NG at h |-
 split at h <;> try (exact hd.trans h)
 · obtain ⟨base, tb, mb, D, rr, q1, q2, q3, q4, q5, q6⟩ := h
   exact ⟨base, tb, mb, D, rr, hd.trans q1, q2, q3.same (fun k hk => (hown k (q6 k hk)).2), q4, q5, fun k hk => (hown k (q6 k hk)).1⟩
 · obtain ⟨rb, F, q1, q2, q3, q4⟩ := h
   exact ⟨rb, F, hd.trans q1, q2.same hz (fun k _ hk => (hown k (q4 k hk)).2), fun k hk => Nat.lt_of_lt_of_le (q3 k hk) hz, fun k hk => (hown k (q4 k hk)).1⟩
 · exact emp _ h hown hd
 · exact emp _ h hown hd
 · exact fil _ _ _ _ _ h12 h hown hd (hi 13 rfl)
 · exact box _ _ _ _ _ h hown hd
 · exact ⟨hm _ h.1, hm _ h.2.1, by rw [hd, h.2.2]; exact (he 7 17 h.1 h7).symm⟩
 · exact emp _ h hown hd
 · exact fil _ _ _ _ _ h20 h hown hd (hi 21 rfl)
 · exact box _ _ _ _ _ h hown hd
 · exact ⟨hm _ h.1, hm _ h.2.1, by rw [hd, h.2.2]; exact (he 16 25 h.1 h16).symm⟩
 · obtain ⟨m, S, q1, q2, q3, q4⟩ := h
   rw [NSet, hi 27 rfl, hi 31 rfl, hi 35 rfl]
   exact ⟨m, S, hd.trans q1, (hown m q2).1, q3.same (hown m q2).2, q4⟩
 · exact ⟨hm _ h.1, by rw [hd, h.2]; exact (he 23 31 h.1 h23).symm⟩
 · obtain ⟨⟨a1, a2, a3, a4⟩, ⟨a5, a6, a7, a8⟩, a9⟩ := h
   refine ⟨⟨hm _ a1, hm _ a2, hm _ a3, hm _ a4⟩, ⟨hm _ a5, hm _ a6, hm _ a7, hm _ a8⟩, ?_⟩
   rw [hd, a9, he 3 13 a1 h3, he 4 14 a2 h4, he 5 15 a3 h5, he 6 16 a4 h6, he 14 23 a5 h14, he 15 24 a6 h15, he 22 30 a7 h22, he 36 41 a8 h36]
 · obtain ⟨a1, cs, a2, a3⟩ := h
   exact ⟨hm _ a1, cs, (he 37 42 a1 h37).trans a2, box _ _ _ _ _ a3 hown hd⟩
 · exact ⟨hm _ h.1, by rw [hd, h.2]; exact (he 38 43 h.1 h38).symm⟩
 · trivial
end Go.Proofs.YtmgfakfiiaeofaaGreat
