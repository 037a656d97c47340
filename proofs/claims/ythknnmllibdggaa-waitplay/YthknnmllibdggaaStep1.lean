/- A step of the laws: both kinds of rooms answer the same. -/
import Derived.Test.YthknnmllibdggaaTold
import Derived.Orders
import Derived.StillTail
namespace Go.Proofs.Ythknnmllibdggaa
open Go.RowKit Go.Sort
section
variable {P : Program}
/-- A region whose order is drawn, by what holds whichever operations are done. -/
theorem wp_region_inv8 {ops : Array Oper} {id : Nat} {Q : Exit → Act → World → Prop} {a : Act} {w : World} (I : Array Bool → Act → World → Prop) (hm : P.follows .mixedOrders = true)
    (hstep : ∀ li a w i o, I li a w → li.getD i true = false → ops[i]? = some o → (∀ e ∈ o.after, Region.binds .any e = true → li.getD e.on false = true) → Region.wanted o (yielded ops a.tmps) = true ∧
      ((∃ v w', (execOp a.eval o).run P w = .ok (.value v) w' ∧ I (li.setIfInBounds i true) (a.put o.dst v) w') ∨
       (∃ f args, (execOp a.eval o).run P w = .ok (.enter f args) w ∧ Calls P f args w fun e w' => ∃ v, e = .returned v ∧ I (li.setIfInBounds i true) (a.put o.dst v) w')))
    (hend : ∀ li a w, I li a w → Region.ready .any ops li = [] → Q .normal a w) (h0 : I (Array.replicate ops.size false) a { w with drawn := w.drawn + 1 }) : (Code.region id ops true).wp P Q a w := by
  refine wp_region_any hm ?_
  have main : ∀ (fuel : Nat) (li : Array Bool) (a : Act) (w : World), li.toList.count false ≤ fuel → I li a w → wpAny P .any ops Q fuel li a w := by
    intro fuel
    induction fuel with
    | zero =>
      intro li a w hc h
      have he : Region.ready .any ops li = [] := by
        cases hr : Region.ready .any ops li with
        | nil => rfl
        | cons j r =>
          have hj := (mem_ready.1 (show j ∈ Region.ready .any ops li from by rw [hr]; exact List.mem_cons_self ..)).1
          exfalso
          have : li.toList[j]? = some false := by
            rw [Array.getD_eq_getD_getElem?] at hj
            rw [Array.getElem?_toList]
            cases hx : li[j]? with
            | none => rw [hx] at hj; cases hj
            | some b => rw [hx] at hj; simpa using hj
          have := List.count_pos_iff.2 (List.mem_of_getElem? this)
          omega
      exact ⟨he, hend li a w h he⟩
    | succ f ih =>
      intro li a w hc h
      refine ⟨fun he => hend li a w h he, fun i hi => ?_⟩
      obtain ⟨hu, o, ho, hd⟩ := mem_ready.1 hi
      obtain ⟨h1, h2⟩ := hstep li a w i o h hu ho hd
      have hl : li.toList[i]? = some false := by
        rw [Array.getD_eq_getD_getElem?] at hu
        rw [Array.getElem?_toList]
        cases hx : li[i]? with
        | none => rw [hx] at hu; cases hu
        | some b => rw [hx] at hu; simpa using hu
      have hcc := cf_set _ _ hl
      have hle : (li.setIfInBounds i true).toList.count false ≤ f := by rw [Array.toList_setIfInBounds]; omega
      unfold wpOp
      rw [ho]
      simp only [h1, if_true]
      refine .inl ?_
      unfold Oper.wp
      rcases h2 with ⟨v, w', hr, hI⟩ | ⟨f', args, hr, hc'⟩
      · rw [hr]; exact ih _ _ _ hle hI
      · rw [hr]
        exact hc'.mono fun e w'' ⟨v, he, hI⟩ => by subst he; exact ih _ _ _ hle hI
  exact main _ _ _ _ (by simp) h0
def phs (b1 b2 : Bool) : Nat := if b1 then (if b2 then 2 else 1) else 0
theorem getD_fst {li : Array Bool} {i : Nat} (h : li.getD i true = false) : li.getD i false = false := by
  rw [Array.getD_eq_getD_getElem?] at h ⊢
  cases hx : li[i]? with
  | none => rw [hx] at h; cases h
  | some b => rw [hx] at h; simpa using h
theorem getD_setS {li : Array Bool} {i : Nat} (h : li.getD i true = false) : (li.setIfInBounds i true).getD i false = true := by
  rw [Array.getD_eq_getD_getElem?] at h ⊢
  cases hx : li[i]? with
  | none => rw [hx] at h; cases h
  | some b =>
    have hlt := (Array.getElem?_eq_some_iff.1 hx).1
    rw [Array.getElem?_setIfInBounds_self_of_lt hlt]; rfl
theorem getD_setN {li : Array Bool} {i j : Nat} (h : j ≠ i) : (li.setIfInBounds i true).getD j false = li.getD j false := by
  rw [Array.getD_eq_getD_getElem?, Array.getElem?_setIfInBounds_ne (Ne.symm h), ← Array.getD_eq_getD_getElem?]
/-- The law: the operations c1 and c2 change memory, the others keep all that is older. -/
theorem wp_region_ph {l : List Oper} {id : Nat} {Q : Exit → Act → World → Prop} {a : Act} {w : World} (f c1 c2 : Nat) (R : World → World → Prop) (J : Nat → World → Prop) (G : Nat → Value → World → Prop)
    (hm : P.follows .mixedOrders = true) (hback : backB l.toArray = true) (hdst : dstB l.toArray a.tmps.size = true) (hneed : needB l.toArray f c2 c1 = true) (hc2 : c2 < l.length) (hc12 : c1 ≠ c2)
    (hRb : ∀ W W', Below W.heap.size W W' → R W W') (hRt : ∀ A B C, R A B → R B C → R A C)
    (hJ : ∀ p W W', J p W → Below W.heap.size W W' → J p W') (hJ0 : J 0 { w with drawn := w.drawn + 1 })
    (hmono : ∀ k v W W', G k v W → R W W' → G k v W')
    (hstep : ∀ (a' : Act) (W : World) (p : Nat), J p W → R w W → a'.tmps.size = a.tmps.size → (∀ k, (dsts l.toArray).contains k = false → a'.eval (.tmp k) = a.eval (.tmp k)) →
      ∀ (i : Nat) (o : Oper) (d : Nat), l[i]? = some o → o.dst = some d → (i = c1 → p = 0) → (i = c2 → p = 1) →
      (∀ e ∈ o.after, Region.binds .any e = true → ∀ d', (l[e.on]?).bind (·.dst) = some d' → G d' (a'.eval (.tmp d')) W) →
      Region.wanted o (yielded l.toArray a'.tmps) = true ∧ ((∃ v W', (execOp a'.eval o).run P W = .ok (.value v) W' ∧ (Below W.heap.size W W' ∧ i ≠ c1 ∧ i ≠ c2) ∧ G d v W') ∨
        (∃ f args, (execOp a'.eval o).run P W = .ok (.enter f args) W ∧ Calls P f args W fun e W' => ∃ v, e = .returned v ∧ ((Below W.heap.size W W' ∧ i ≠ c1 ∧ i ≠ c2) ∨ (R W W' ∧ J (p + 1) W' ∧ (i = c1 ∨ i = c2))) ∧ G d v W')))
    (hend : ∀ a' W, J 2 W → R w W → a'.tmps.size = a.tmps.size → a'.defers = a.defers → (∀ k, (dsts l.toArray).contains k = false → a'.eval (.tmp k) = a.eval (.tmp k)) →
      (∀ (i d : Nat), i < l.length → (l[i]?).bind (·.dst) = some d → G d (a'.eval (.tmp d)) W) → Q .normal a' W) : (Code.region id l.toArray true).wp P Q a w := by
  refine wp_region_inv8 (fun li a' W => ClB l.toArray li ∧ li.size = l.length ∧ a'.tmps.size = a.tmps.size ∧ a'.defers = a.defers ∧ (∀ k, (dsts l.toArray).contains k = false → a'.eval (.tmp k) = a.eval (.tmp k)) ∧ R w W ∧ (∀ (i d : Nat), li.getD i false = true → (l[i]?).bind (·.dst) = some d → G d (a'.eval (.tmp d)) W) ∧ J (phs (li.getD c1 false) (li.getD c2 false)) W) hm ?_ ?_ ?_
  · rintro li a' W i o ⟨hcl, hsz, hs, hdf, hk, hR, hG, hp⟩ hu ho hd
    obtain ⟨d, hdo, hdn⟩ := dst_of hdst ho
    have hc2o : ∃ o2, l.toArray[c2]? = some o2 := ⟨l[c2], by simp [hc2]⟩
    obtain ⟨o2, ho2⟩ := hc2o
    have h21 : li.getD c2 false = true → li.getD c1 false = true := fun h => need_done hcl f c2 c1 o2 ho2 (hcl c2 o2 ho2 h) hneed
    have e1 : i = c1 → phs (li.getD c1 false) (li.getD c2 false) = 0 := fun e => by
      subst e; rw [getD_fst hu]; rfl
    have e2 : i = c2 → phs (li.getD c1 false) (li.getD c2 false) = 1 := fun e => by
      subst e
      rw [getD_fst hu, need_done hcl f i c1 o ho hd hneed]; rfl
    have hlo : l[i]? = some o := by simpa using ho
    obtain ⟨hw, h2⟩ := hstep a' W _ hp hR hs hk i o d hlo hdo e1 e2 (fun e he hbd d' hd' => hG e.on d' (hd e he hbd) hd')
    have next : ∀ (v : Value) (W' : World), ((Below W.heap.size W W' ∧ i ≠ c1 ∧ i ≠ c2) ∨ (R W W' ∧ J (phs (li.getD c1 false) (li.getD c2 false) + 1) W' ∧ (i = c1 ∨ i = c2))) → G d v W' →
        ClB l.toArray (li.setIfInBounds i true) ∧ (li.setIfInBounds i true).size = l.length ∧ (a'.put o.dst v).tmps.size = a.tmps.size ∧ (a'.put o.dst v).defers = a.defers ∧ (∀ k, (dsts l.toArray).contains k = false → (a'.put o.dst v).eval (.tmp k) = a.eval (.tmp k)) ∧ R w W' ∧ (∀ (j dj : Nat), (li.setIfInBounds i true).getD j false = true → (l[j]?).bind (·.dst) = some dj → G dj ((a'.put o.dst v).eval (.tmp dj)) W') ∧ J (phs ((li.setIfInBounds i true).getD c1 false) ((li.setIfInBounds i true).getD c2 false)) W' := by
      intro v W' hb hv
      have hRW : R W W' := hb.elim (fun h => hRb _ _ h.1) (fun h => h.1)
      rw [hdo]
      refine ⟨hcl.set ho hd, by rw [Array.size_setIfInBounds]; exact hsz, by simp only [Act.put]; rw [Array.size_setIfInBounds]; exact hs, by simp only [Act.put]; exact hdf, ?_, hRt _ _ _ hR hRW, ?_, ?_⟩
      · intro k hkn
        rw [put_ne a' v (fun e => by rw [e, List.contains_iff_mem.2 (mem_dsts ho hdo)] at hkn; cases hkn)]
        exact hk k hkn
      · intro j dj hj hdj
        by_cases hij : j = i
        · subst hij
          rw [hlo] at hdj
          have : d = dj := Option.some.inj (hdo.symm.trans hdj)
          subst this
          rw [put_eq a' v (by rw [hs]; exact hdn)]
          exact hv
        · rw [getD_setN hij] at hj
          have hne : dj ≠ d := by
            intro e
            subst e
            cases hoj : l[j]? with
            | none => rw [hoj] at hdj; cases hdj
            | some o' =>
              rw [hoj] at hdj
              exact hij (dst_inj hdst (show l.toArray[j]? = some o' from by simpa using hoj) ho hdj hdo)
          rw [put_ne a' v hne]
          exact hmono _ _ _ _ (hG j dj hj hdj) hRW
      · rcases hb with ⟨hb, n1, n2⟩ | ⟨_, hj, hcc⟩
        · rw [getD_setN (Ne.symm n1), getD_setN (Ne.symm n2)]
          exact hJ _ _ _ hp hb
        · rcases hcc with e | e
          · rw [e1 e] at hj
            subst e
            rw [getD_setS hu, getD_setN (Ne.symm hc12)]
            have : li.getD c2 false = false := by
              cases hx : li.getD c2 false with
              | false => rfl
              | true => have := h21 hx; rw [getD_fst hu] at this; cases this
            rw [this]; exact hj
          · rw [e2 e] at hj
            subst e
            rw [getD_setS hu, getD_setN hc12, need_done hcl f i c1 o ho hd hneed]
            exact hj
    refine ⟨hw, ?_⟩
    rcases h2 with ⟨v, W', hr, hb, hv⟩ | ⟨f', args, hr, hc⟩
    · exact .inl ⟨v, W', hr, next v W' (.inl hb) hv⟩
    · exact .inr ⟨f', args, hr, hc.mono fun e W' ⟨v, he, hb, hv⟩ => ⟨v, he, next v W' hb hv⟩⟩
  · rintro li a' W ⟨hcl, hsz, hs, hdf, hk, hR, hG, hp⟩ he
    have hall : ∀ j, j < l.length → li.getD j false = true := fun j hj => ready_nil_all hback (by simpa using hsz) he j j (Nat.le_refl _) (by simpa using hj)
    have hc2o : ∃ o2, l.toArray[c2]? = some o2 := ⟨l[c2], by simp [hc2]⟩
    obtain ⟨o2, ho2⟩ := hc2o
    have h2 := hall c2 hc2
    rw [h2, need_done hcl f c2 c1 o2 ho2 (hcl c2 o2 ho2 h2) hneed] at hp
    exact hend a' W hp hR hs hdf hk (fun i d hi hd => hG i d (hall i hi) hd)
  · refine ⟨fun i o _ hi => by rw [Array.getD_eq_getD_getElem?, Array.getElem?_replicate] at hi; split at hi <;> simp at hi, by simp, rfl, rfl, fun _ _ => rfl, hRb _ _ ((Below.refl w.heap.size w).drew), ?_, ?_⟩
    · intro i d hi
      rw [Array.getD_eq_getD_getElem?, Array.getElem?_replicate] at hi
      split at hi <;> simp at hi
    · have : ∀ i, (Array.replicate l.toArray.size false).getD i false = false := fun i => by
        rw [Array.getD_eq_getD_getElem?, Array.getElem?_replicate]; split <;> rfl
      rw [this, this]; exact hJ0
end
/-- How far both are: first the one is stepped, then the other. -/
def PJ (W1 : World) (rb qb : Nat) (F G : Nat → Prop) (all' : List Who) (al' : Int → List Int) (ra' : List Who) (N : Nat) : Nat → World → Prop
  | 0, X => Below W1.heap.size W1 X
  | 1, X => ∃ w1, Nx W1 w1 rb F all' al' (N + 1) ∧ Below w1.heap.size w1 X
  | 2, X => ∃ w1 Y w2 rl', Nx W1 w1 rb F all' al' (N + 1) ∧ Below w1.heap.size w1 Y ∧ Nr Y w2 qb G ra' rl' (N + 1) ∧ Below w2.heap.size w2 X ∧ Lk all' al' ra' rl'
  | _, _ => True
section
variable {w W1 X X' : World} {rb qb N : Nat} {F G : Nat → Prop} {all all' ra ra' rl rl' : List Who} {al al' : Int → List Int}
theorem PJ.below {p : Nat} (h : PJ W1 rb qb F G all' al' ra' N p X) (hb : Below X.heap.size X X') : PJ W1 rb qb F G all' al' ra' N p X' := by
  match p, h with
  | 0, h => exact Below.trans h (hb.mono h.size)
  | 1, ⟨w1, h1, h2⟩ => exact ⟨w1, h1, h2.trans (hb.mono h2.size)⟩
  | 2, ⟨w1, Y, w2, rl', h1, h2, h3, h4, h5⟩ => exact ⟨w1, Y, w2, rl', h1, h2, h3, h4.trans (hb.mono h4.size), h5⟩
  | p + 3, _ => trivial
theorem PJ.rooms (h : PS w rb qb F G all al ra rl N) (b1 : Below w.heap.size w W1) (hj : PJ W1 rb qb F G all' al' ra' N 0 X) : RA X rb F all al N :=
  (h.rm.below b1).below hj
theorem PJ.rf (h : PS w rb qb F G all al ra rl N) (b1 : Below w.heap.size w W1) (hj : PJ W1 rb qb F G all' al' ra' N 1 X) : RFx X qb G ra rl N := by
  obtain ⟨w1, ⟨F', _, a2, _, _⟩, hb⟩ := hj
  refine h.rf.same (fun k hk hg => ?_)
  have z0 := b1.size
  have z1 := a2.size
  rw [hb.block k (by omega), a2.same k (by omega) (fun e => h.ap k e hg), b1.block k hk]
theorem PJ.one (_h : PS w rb qb F G all al ra rl N) (hj : PJ W1 rb qb F G all' al' ra' N 0 X) (hn : Nx X X' rb F all' al' (N + 1)) : Fm X X' (fun k => F k ∨ G k) ∧ PJ W1 rb qb F G all' al' ra' N 1 X' := by
  refine ⟨?_, X', Nx.behind hj hn, Below.refl _ _⟩
  obtain ⟨_, _, h2, _, _⟩ := hn
  exact h2.mono (fun _ _ e => .inl e)
theorem PJ.two (h : PS w rb qb F G all al ra rl N) (hj : PJ W1 rb qb F G all' al' ra' N 1 X) (hn : Nr X X' qb G ra' rl' (N + 1)) (hl : Lk all' al' ra' rl') : Fm X X' (fun k => F k ∨ G k) ∧ PJ W1 rb qb F G all' al' ra' N 2 X' := by
  obtain ⟨w1, h1, h2⟩ := hj
  refine ⟨?_, w1, X, X', rl', h1, h2, hn, Below.refl _ _, hl⟩
  obtain ⟨_, _, h3, _, _⟩ := hn
  exact h3.mono (fun k _ e => .inr (e ▸ h.rf.gq))
theorem PJ.ns (h : PS w rb qb F G all al ra rl N) (b1 : Below w.heap.size w W1) (hj : PJ W1 rb qb F G all' al' ra' N 2 X) : Ns w X rb qb F G (N + 1) := by
  obtain ⟨w1, Y, w2, rl', h1, h2, h3, h4, h5⟩ := hj
  exact Ns.of h b1 h1 h2 (fun _ _ => h3) h4 h5
/-- A call that leaves the rooms' blocks as they are. -/
theorem nx_of (h : PS w rb qb F G all al ra rl N) (hs : w.heap.size ≤ X.heap.size) (h1 : RA X' rb F all' al' N) (h2 : Fm X X' F) : Nx X X' rb F all' al' (N + 1) :=
  ⟨F, h1.mono (by omega), h2, fun _ hk => .inl hk, fun k hk => by have := h.fl k hk; have := h2.size; omega⟩
theorem nr_of (h : Nr X X' qb G ra rl N) : Nr X X' qb G ra rl (N + 1) :=
  h.trans (fun _ h1 _ => Nr.still h1 (Below.refl _ _) (by omega))
theorem fm_trans {A B C : World} {H : Nat → Prop} (h : Fm A B H) (k : Fm B C H) : Fm A C H := h.trans k (fun _ _ e => e) (fun _ _ e => e)
/-- A row of numbers that is none of theirs. -/
theorem own_fm (h : PS w rb qb F G all al ra rl N) {v : Value} {l : List Int} (hr : X.ownsRow w.heap.size 3 1 v l.length (ivs l)) (hf : Fm X X' (fun k => F k ∨ G k)) : X'.ownsRow w.heap.size 3 1 v l.length (ivs l) :=
  row_same hr (fun k hk => hf.same k (hr.lt k hk).2 (fun e => by
    have h1 := (hr.lt k hk).1
    rcases e with e | e
    · have := h.fl k e; omega
    · have := h.gl k e; omega))
theorem own_irv {b : Nat} {v : Value} {l : List Int} (h : X.ownsRow b 3 1 v l.length (ivs l)) : IRV l v X := by
  obtain ⟨sp, cap, rfl⟩ := row_form h
  exact ⟨sp, cap, rfl, row_ints h⟩
end
/-- The step's own copy of the call. -/
theorem opn_cells {w W1 X : World} {kd th sg of cd : Int} {H : Nat → Prop} (hO : W1.heap[w.heap.size]? = some (.cells #[.int .i64 kd, .int .i64 th, .int .i64 sg, .int .i64 of, .int .i64 cd] 33 (0, 0))) (hH : ∀ k, H k → k < w.heap.size) (hf : Fm W1 X H) :
    X.cell? ⟨w.heap.size, 0, none⟩ = some (.int .i64 kd) ∧ X.cell? ⟨w.heap.size, 1, none⟩ = some (.int .i64 th) ∧ X.cell? ⟨w.heap.size, 2, none⟩ = some (.int .i64 sg) ∧ X.cell? ⟨w.heap.size, 3, none⟩ = some (.int .i64 of) ∧ X.cell? ⟨w.heap.size, 4, none⟩ = some (.int .i64 cd) := by
  have h := (hf.same _ (heap_lt hO) (fun e => by have := hH _ e; omega)).trans hO
  refine ⟨?_, ?_, ?_, ?_, ?_⟩ <;> (rw [cell_of_row _ _ _ _ _ _ h]; rfl)
set_option maxRecDepth 100000 in
set_option maxHeartbeats 8000000 in
theorem step_wait (w : World) (rb qb : Nat) (F G : Nat → Prop) (all : List Who) (al : Int → List Int) (ra rl : List Who) (N : Nat) (h : PS w rb qb F G all al ra rl N) (hN : N < 700000) (th sg of cd : Int) (_ith : i64 th) (_isg : i64 sg) (_iof : i64 of) :
    Calls Try.prog 12 #[pv rb, pv qb, .agg #[.int .i64 1, .int .i64 th, .int .i64 sg, .int .i64 of, .int .i64 cd]] w fun e w' => e = .returned (.bool true) ∧ Ns w w' rb qb F G (N + 1) := by
  have HH := Lib.hid h
  obtain ⟨W1, hW1⟩ : ∃ W1, w.alloc (.cells #[.int .i64 1, .int .i64 th, .int .i64 sg, .int .i64 of, .int .i64 cd] 33) = W1 := ⟨_, rfl⟩
  have b1 : Below w.heap.size w W1 := by rw [← hW1]; exact (Below.refl _ _).alloc (Nat.le_refl _) _
  have hO : W1.heap[w.heap.size]? = some (.cells #[.int .i64 1, .int .i64 th, .int .i64 sg, .int .i64 of, .int .i64 cd] 33 (0, 0)) := by rw [← hW1]; exact heap_new _ _
  have d0 : W1.cell? ⟨w.heap.size, 0, none⟩ = some (.int .i64 1) := by rw [cell_of_row _ _ _ _ _ _ hO]; rfl
  have cW : ∀ X, Fm W1 X (fun k => F k ∨ G k) → _ := fun X hX => opn_cells hO (fun k e => e.elim (h.fl k) (h.gl k)) hX
  have hla := h.rm.len
  have hlr := h.rf.lenA
  have HB1 := Lib.hid b1
  clear h hO b1
  have HE := Lib.hid (HH.out.lk.waitE th sg of)
  obtain ⟨z, hz⟩ : ∃ z, waitE all al th sg of = z := ⟨_, rfl⟩
  have HZ := Lib.hid hz
  have HL : Hid (Lk (if z = 0 then all ++ [(th, sg, of)] else all) al (if z = 0 then ra ++ [(th, sg, of)] else ra) rl) := by
    refine Lib.hid ?_
    split
    · rename_i h0
      refine HH.out.lk.snoc (x := (th, sg, of)) ?_
      cases hw : waitsA ra th with
      | false => rfl
      | true =>
        rw [HE.out] at hz
        unfold waitE at hz
        rw [hw, h0] at hz
        split at hz
        · cases hz
        · simp at hz
    · exact HH.out.lk
  clear hz
  go_enter Try.func12, Try.ntmps12
  go_upto_region 3 with fail
  refine wp_region_ph 6 7 15 (fun X Y => Fm X Y (fun k => F k ∨ G k)) (PJ W1 rb qb F G (if z = 0 then all ++ [(th, sg, of)] else all) (al) (if z = 0 then ra ++ [(th, sg, of)] else ra) N) (fun kq v X => match kq with | 19 => v = pv rb | 20 => v = .pointer (some ⟨w.heap.size, 1, none⟩) | 21 => v = .int .i64 th | 22 => v = .pointer (some ⟨w.heap.size, 2, none⟩) | 23 => v = .int .i64 sg | 24 => v = .pointer (some ⟨w.heap.size, 3, none⟩) | 25 => v = .int .i64 of | 26 => v = .int .i64 z | 27 => v = pv qb | 28 => v = .pointer (some ⟨w.heap.size, 1, none⟩) | 29 => v = .int .i64 th | 30 => v = .pointer (some ⟨w.heap.size, 2, none⟩) | 31 => v = .int .i64 sg | 32 => v = .pointer (some ⟨w.heap.size, 3, none⟩) | 33 => v = .int .i64 of | 34 => v = .int .i64 z | 35 => v = .bool true | 6 => v = .bool true | _ => True) (by kernel_rfl) (by kernel_rfl) (by kernel_rfl) (by kernel_rfl) (by decide) (by decide) (fun _ _ h => Fm.of_below h _) (fun _ _ _ h k => fm_trans h k) (fun _ _ _ h hb => PJ.below h hb) ((Below.refl _ _).drew) ?_ ?_ ?_
  · intro kq v W W' h hb
    revert h
    try dsimp only
    split
    · intro h; exact h
    · intro h; exact h
    · intro h; exact h
    · intro h; exact h
    · intro h; exact h
    · intro h; exact h
    · intro h; exact h
    · intro h; exact h
    · intro h; exact h
    · intro h; exact h
    · intro h; exact h
    · intro h; exact h
    · intro h; exact h
    · intro h; exact h
    · intro h; exact h
    · intro h; exact h
    · intro h; exact h
    · intro h; exact h
    · intro h; trivial
  · intro a' X p hJ hB hs hk i o d ho hd hp1 hp2 hG
    match i, ho with
    | 0, ho =>
      obtain rfl : _ = o := Option.some.inj ho
      obtain rfl : 19 = d := Option.some.inj hd
      have g0 : a'.eval (.tmp 0) = pv rb := hk 0 (by kernel_rfl)
      refine ⟨rfl, .inl ⟨pv rb, X, ?_, ⟨Below.refl _ _, by decide, by decide⟩, rfl⟩⟩
      obtain ⟨ev, hev⟩ : ∃ ev, a'.eval = ev := ⟨_, rfl⟩
      rw [hev] at g0 ⊢
      clear hev hG hk hs
      obtain ⟨c0, c1, c2, c3, c4⟩ := cW X hB
      go_simp
    | 1, ho =>
      obtain rfl : _ = o := Option.some.inj ho
      obtain rfl : 20 = d := Option.some.inj hd
      have g5 : a'.eval (.tmp 5) = .pointer (some ⟨w.heap.size, 0, none⟩) := hk 5 (by kernel_rfl)
      refine ⟨rfl, .inl ⟨.pointer (some ⟨w.heap.size, 1, none⟩), X, ?_, ⟨Below.refl _ _, by decide, by decide⟩, rfl⟩⟩
      obtain ⟨ev, hev⟩ : ∃ ev, a'.eval = ev := ⟨_, rfl⟩
      rw [hev] at g5 ⊢
      clear hev hG hk hs
      obtain ⟨c0, c1, c2, c3, c4⟩ := cW X hB
      go_simp
    | 2, ho =>
      obtain rfl : _ = o := Option.some.inj ho
      obtain rfl : 21 = d := Option.some.inj hd
      have g20 : a'.eval (.tmp 20) = .pointer (some ⟨w.heap.size, 1, none⟩) := hG ⟨1, .data⟩ (by simp) rfl 20 rfl
      refine ⟨rfl, .inl ⟨.int .i64 th, X, ?_, ⟨Below.refl _ _, by decide, by decide⟩, rfl⟩⟩
      obtain ⟨ev, hev⟩ : ∃ ev, a'.eval = ev := ⟨_, rfl⟩
      rw [hev] at g20 ⊢
      clear hev hG hk hs
      obtain ⟨c0, c1, c2, c3, c4⟩ := cW X hB
      go_simp
    | 3, ho =>
      obtain rfl : _ = o := Option.some.inj ho
      obtain rfl : 22 = d := Option.some.inj hd
      have g5 : a'.eval (.tmp 5) = .pointer (some ⟨w.heap.size, 0, none⟩) := hk 5 (by kernel_rfl)
      refine ⟨rfl, .inl ⟨.pointer (some ⟨w.heap.size, 2, none⟩), X, ?_, ⟨Below.refl _ _, by decide, by decide⟩, rfl⟩⟩
      obtain ⟨ev, hev⟩ : ∃ ev, a'.eval = ev := ⟨_, rfl⟩
      rw [hev] at g5 ⊢
      clear hev hG hk hs
      obtain ⟨c0, c1, c2, c3, c4⟩ := cW X hB
      go_simp
    | 4, ho =>
      obtain rfl : _ = o := Option.some.inj ho
      obtain rfl : 23 = d := Option.some.inj hd
      have g22 : a'.eval (.tmp 22) = .pointer (some ⟨w.heap.size, 2, none⟩) := hG ⟨3, .data⟩ (by simp) rfl 22 rfl
      refine ⟨rfl, .inl ⟨.int .i64 sg, X, ?_, ⟨Below.refl _ _, by decide, by decide⟩, rfl⟩⟩
      obtain ⟨ev, hev⟩ : ∃ ev, a'.eval = ev := ⟨_, rfl⟩
      rw [hev] at g22 ⊢
      clear hev hG hk hs
      obtain ⟨c0, c1, c2, c3, c4⟩ := cW X hB
      go_simp
    | 5, ho =>
      obtain rfl : _ = o := Option.some.inj ho
      obtain rfl : 24 = d := Option.some.inj hd
      have g5 : a'.eval (.tmp 5) = .pointer (some ⟨w.heap.size, 0, none⟩) := hk 5 (by kernel_rfl)
      refine ⟨rfl, .inl ⟨.pointer (some ⟨w.heap.size, 3, none⟩), X, ?_, ⟨Below.refl _ _, by decide, by decide⟩, rfl⟩⟩
      obtain ⟨ev, hev⟩ : ∃ ev, a'.eval = ev := ⟨_, rfl⟩
      rw [hev] at g5 ⊢
      clear hev hG hk hs
      obtain ⟨c0, c1, c2, c3, c4⟩ := cW X hB
      go_simp
    | 6, ho =>
      obtain rfl : _ = o := Option.some.inj ho
      obtain rfl : 25 = d := Option.some.inj hd
      have g24 : a'.eval (.tmp 24) = .pointer (some ⟨w.heap.size, 3, none⟩) := hG ⟨5, .data⟩ (by simp) rfl 24 rfl
      refine ⟨rfl, .inl ⟨.int .i64 of, X, ?_, ⟨Below.refl _ _, by decide, by decide⟩, rfl⟩⟩
      obtain ⟨ev, hev⟩ : ∃ ev, a'.eval = ev := ⟨_, rfl⟩
      rw [hev] at g24 ⊢
      clear hev hG hk hs
      obtain ⟨c0, c1, c2, c3, c4⟩ := cW X hB
      go_simp
    | 7, ho =>
      obtain rfl : _ = o := Option.some.inj ho
      obtain rfl : 26 = d := Option.some.inj hd
      have g19 : a'.eval (.tmp 19) = pv rb := hG ⟨0, .data⟩ (by simp) rfl 19 rfl
      have g21 : a'.eval (.tmp 21) = .int .i64 th := hG ⟨2, .data⟩ (by simp) rfl 21 rfl
      have g23 : a'.eval (.tmp 23) = .int .i64 sg := hG ⟨4, .data⟩ (by simp) rfl 23 rfl
      have g25 : a'.eval (.tmp 25) = .int .i64 of := hG ⟨6, .data⟩ (by simp) rfl 25 rfl
      obtain rfl := hp1 rfl
      refine ⟨rfl, .inr ⟨14, #[pv rb, .int .i64 th, .int .i64 sg, .int .i64 of], ?_, ?_⟩⟩
      · have gF : a'.eval (.func 14) = .func (.func 14) #[] #[] := rfl
        obtain ⟨ev, hev⟩ : ∃ ev, a'.eval = ev := ⟨_, rfl⟩
        rw [hev] at gF g19 g21 g23 g25 ⊢
        exact exec_call4 rfl gF g19 g21 g23 g25 (enters_of Try.func14 (by kernel_rfl) rfl)
      have hc := Wait_any X rb F all al N th sg of (PJ.rooms HH.out HB1.out hJ) (by omega)
      rw [HZ.out] at hc
      exact hc.mono fun e W' ⟨he, hn⟩ => ⟨_, he, .inr ⟨(PJ.one HH.out hJ hn).1, (PJ.one HH.out hJ hn).2, .inl rfl⟩, rfl⟩
    | 8, ho =>
      obtain rfl : _ = o := Option.some.inj ho
      obtain rfl : 27 = d := Option.some.inj hd
      have g1 : a'.eval (.tmp 1) = pv qb := hk 1 (by kernel_rfl)
      refine ⟨rfl, .inl ⟨pv qb, X, ?_, ⟨Below.refl _ _, by decide, by decide⟩, rfl⟩⟩
      obtain ⟨ev, hev⟩ : ∃ ev, a'.eval = ev := ⟨_, rfl⟩
      rw [hev] at g1 ⊢
      clear hev hG hk hs
      obtain ⟨c0, c1, c2, c3, c4⟩ := cW X hB
      go_simp
    | 9, ho =>
      obtain rfl : _ = o := Option.some.inj ho
      obtain rfl : 28 = d := Option.some.inj hd
      have g5 : a'.eval (.tmp 5) = .pointer (some ⟨w.heap.size, 0, none⟩) := hk 5 (by kernel_rfl)
      refine ⟨rfl, .inl ⟨.pointer (some ⟨w.heap.size, 1, none⟩), X, ?_, ⟨Below.refl _ _, by decide, by decide⟩, rfl⟩⟩
      obtain ⟨ev, hev⟩ : ∃ ev, a'.eval = ev := ⟨_, rfl⟩
      rw [hev] at g5 ⊢
      clear hev hG hk hs
      obtain ⟨c0, c1, c2, c3, c4⟩ := cW X hB
      go_simp
    | 10, ho =>
      obtain rfl : _ = o := Option.some.inj ho
      obtain rfl : 29 = d := Option.some.inj hd
      have g28 : a'.eval (.tmp 28) = .pointer (some ⟨w.heap.size, 1, none⟩) := hG ⟨9, .data⟩ (by simp) rfl 28 rfl
      refine ⟨rfl, .inl ⟨.int .i64 th, X, ?_, ⟨Below.refl _ _, by decide, by decide⟩, rfl⟩⟩
      obtain ⟨ev, hev⟩ : ∃ ev, a'.eval = ev := ⟨_, rfl⟩
      rw [hev] at g28 ⊢
      clear hev hG hk hs
      obtain ⟨c0, c1, c2, c3, c4⟩ := cW X hB
      go_simp
    | 11, ho =>
      obtain rfl : _ = o := Option.some.inj ho
      obtain rfl : 30 = d := Option.some.inj hd
      have g5 : a'.eval (.tmp 5) = .pointer (some ⟨w.heap.size, 0, none⟩) := hk 5 (by kernel_rfl)
      refine ⟨rfl, .inl ⟨.pointer (some ⟨w.heap.size, 2, none⟩), X, ?_, ⟨Below.refl _ _, by decide, by decide⟩, rfl⟩⟩
      obtain ⟨ev, hev⟩ : ∃ ev, a'.eval = ev := ⟨_, rfl⟩
      rw [hev] at g5 ⊢
      clear hev hG hk hs
      obtain ⟨c0, c1, c2, c3, c4⟩ := cW X hB
      go_simp
    | 12, ho =>
      obtain rfl : _ = o := Option.some.inj ho
      obtain rfl : 31 = d := Option.some.inj hd
      have g30 : a'.eval (.tmp 30) = .pointer (some ⟨w.heap.size, 2, none⟩) := hG ⟨11, .data⟩ (by simp) rfl 30 rfl
      refine ⟨rfl, .inl ⟨.int .i64 sg, X, ?_, ⟨Below.refl _ _, by decide, by decide⟩, rfl⟩⟩
      obtain ⟨ev, hev⟩ : ∃ ev, a'.eval = ev := ⟨_, rfl⟩
      rw [hev] at g30 ⊢
      clear hev hG hk hs
      obtain ⟨c0, c1, c2, c3, c4⟩ := cW X hB
      go_simp
    | 13, ho =>
      obtain rfl : _ = o := Option.some.inj ho
      obtain rfl : 32 = d := Option.some.inj hd
      have g5 : a'.eval (.tmp 5) = .pointer (some ⟨w.heap.size, 0, none⟩) := hk 5 (by kernel_rfl)
      refine ⟨rfl, .inl ⟨.pointer (some ⟨w.heap.size, 3, none⟩), X, ?_, ⟨Below.refl _ _, by decide, by decide⟩, rfl⟩⟩
      obtain ⟨ev, hev⟩ : ∃ ev, a'.eval = ev := ⟨_, rfl⟩
      rw [hev] at g5 ⊢
      clear hev hG hk hs
      obtain ⟨c0, c1, c2, c3, c4⟩ := cW X hB
      go_simp
    | 14, ho =>
      obtain rfl : _ = o := Option.some.inj ho
      obtain rfl : 33 = d := Option.some.inj hd
      have g32 : a'.eval (.tmp 32) = .pointer (some ⟨w.heap.size, 3, none⟩) := hG ⟨13, .data⟩ (by simp) rfl 32 rfl
      refine ⟨rfl, .inl ⟨.int .i64 of, X, ?_, ⟨Below.refl _ _, by decide, by decide⟩, rfl⟩⟩
      obtain ⟨ev, hev⟩ : ∃ ev, a'.eval = ev := ⟨_, rfl⟩
      rw [hev] at g32 ⊢
      clear hev hG hk hs
      obtain ⟨c0, c1, c2, c3, c4⟩ := cW X hB
      go_simp
    | 15, ho =>
      obtain rfl : _ = o := Option.some.inj ho
      obtain rfl : 34 = d := Option.some.inj hd
      have g27 : a'.eval (.tmp 27) = pv qb := hG ⟨8, .data⟩ (by simp) rfl 27 rfl
      have g29 : a'.eval (.tmp 29) = .int .i64 th := hG ⟨10, .data⟩ (by simp) rfl 29 rfl
      have g31 : a'.eval (.tmp 31) = .int .i64 sg := hG ⟨12, .data⟩ (by simp) rfl 31 rfl
      have g33 : a'.eval (.tmp 33) = .int .i64 of := hG ⟨14, .data⟩ (by simp) rfl 33 rfl
      obtain rfl := hp2 rfl
      refine ⟨rfl, .inr ⟨30, #[pv qb, .int .i64 th, .int .i64 sg, .int .i64 of], ?_, ?_⟩⟩
      · have gF : a'.eval (.func 30) = .func (.func 30) #[] #[] := rfl
        obtain ⟨ev, hev⟩ : ∃ ev, a'.eval = ev := ⟨_, rfl⟩
        rw [hev] at gF g27 g29 g31 g33 ⊢
        exact exec_call4 rfl gF g27 g29 g31 g33 (enters_of Try.func30 (by kernel_rfl) rfl)
      have hc := rWait_any X qb G ra rl N th sg of (PJ.rf HH.out HB1.out hJ) (by omega)
      rw [← HE.out, HZ.out] at hc
      exact hc.mono fun e W' ⟨he, hn⟩ => ⟨_, he, .inr ⟨(PJ.two HH.out hJ hn HL.out).1, (PJ.two HH.out hJ hn HL.out).2, .inr rfl⟩, rfl⟩
    | 16, ho =>
      obtain rfl : _ = o := Option.some.inj ho
      obtain rfl : 35 = d := Option.some.inj hd
      have g26 : a'.eval (.tmp 26) = .int .i64 z := hG ⟨7, .data⟩ (by simp) rfl 26 rfl
      have g34 : a'.eval (.tmp 34) = .int .i64 z := hG ⟨15, .data⟩ (by simp) rfl 34 rfl
      refine ⟨rfl, .inl ⟨.bool true, X, ?_, ⟨Below.refl _ _, by decide, by decide⟩, rfl⟩⟩
      obtain ⟨ev, hev⟩ : ∃ ev, a'.eval = ev := ⟨_, rfl⟩
      rw [hev] at g26 g34 ⊢
      clear hev hG hk hs
      obtain ⟨c0, c1, c2, c3, c4⟩ := cW X hB
      go_simp
    | 17, ho =>
      obtain rfl : _ = o := Option.some.inj ho
      obtain rfl : 6 = d := Option.some.inj hd
      have g35 : a'.eval (.tmp 35) = .bool true := hG ⟨16, .data⟩ (by simp) rfl 35 rfl
      refine ⟨rfl, .inl ⟨.bool true, X, ?_, ⟨Below.refl _ _, by decide, by decide⟩, rfl⟩⟩
      obtain ⟨ev, hev⟩ : ∃ ev, a'.eval = ev := ⟨_, rfl⟩
      rw [hev] at g35 ⊢
      clear hev hG hk hs
      obtain ⟨c0, c1, c2, c3, c4⟩ := cW X hB
      go_simp
    | j + 18, ho => simp at ho
  · intro a' X hJ hB hs hdf hk hG
    obtain ⟨tm, df⟩ := a'
    obtain rfl : df = [] := hdf
    have e0 : tm.getD 0 undef = pv rb := hk 0 (by kernel_rfl)
    have e1 : tm.getD 1 undef = pv qb := hk 1 (by kernel_rfl)
    have e2 : tm.getD 2 undef = .agg #[.int .i64 1, .int .i64 th, .int .i64 sg, .int .i64 of, .int .i64 cd] := hk 2 (by kernel_rfl)
    have e3 : tm.getD 3 undef = undef := hk 3 (by kernel_rfl)
    have e4 : tm.getD 4 undef = undef := hk 4 (by kernel_rfl)
    have e5 : tm.getD 5 undef = .pointer (some ⟨w.heap.size, 0, none⟩) := hk 5 (by kernel_rfl)
    have e7 : tm.getD 7 undef = undef := hk 7 (by kernel_rfl)
    have e8 : tm.getD 8 undef = undef := hk 8 (by kernel_rfl)
    have e9 : tm.getD 9 undef = undef := hk 9 (by kernel_rfl)
    have e10 : tm.getD 10 undef = undef := hk 10 (by kernel_rfl)
    have e11 : tm.getD 11 undef = undef := hk 11 (by kernel_rfl)
    have e12 : tm.getD 12 undef = undef := hk 12 (by kernel_rfl)
    have e13 : tm.getD 13 undef = undef := hk 13 (by kernel_rfl)
    have e14 : tm.getD 14 undef = undef := hk 14 (by kernel_rfl)
    have e15 : tm.getD 15 undef = .pointer (some ⟨w.heap.size, 0, none⟩) := hk 15 (by kernel_rfl)
    have e16 : tm.getD 16 undef = .int .i64 1 := hk 16 (by kernel_rfl)
    have e17 : tm.getD 17 undef = .bool true := hk 17 (by kernel_rfl)
    have e18 : tm.getD 18 undef = .bool true := hk 18 (by kernel_rfl)
    have e36 : tm.getD 36 undef = undef := hk 36 (by kernel_rfl)
    have e37 : tm.getD 37 undef = undef := hk 37 (by kernel_rfl)
    have e38 : tm.getD 38 undef = undef := hk 38 (by kernel_rfl)
    have e39 : tm.getD 39 undef = undef := hk 39 (by kernel_rfl)
    have e40 : tm.getD 40 undef = undef := hk 40 (by kernel_rfl)
    have e41 : tm.getD 41 undef = undef := hk 41 (by kernel_rfl)
    have e42 : tm.getD 42 undef = undef := hk 42 (by kernel_rfl)
    have e43 : tm.getD 43 undef = undef := hk 43 (by kernel_rfl)
    have e44 : tm.getD 44 undef = undef := hk 44 (by kernel_rfl)
    have e45 : tm.getD 45 undef = undef := hk 45 (by kernel_rfl)
    have e46 : tm.getD 46 undef = undef := hk 46 (by kernel_rfl)
    have e47 : tm.getD 47 undef = undef := hk 47 (by kernel_rfl)
    have e48 : tm.getD 48 undef = undef := hk 48 (by kernel_rfl)
    have e49 : tm.getD 49 undef = undef := hk 49 (by kernel_rfl)
    have e50 : tm.getD 50 undef = undef := hk 50 (by kernel_rfl)
    have e51 : tm.getD 51 undef = undef := hk 51 (by kernel_rfl)
    have e52 : tm.getD 52 undef = undef := hk 52 (by kernel_rfl)
    have e53 : tm.getD 53 undef = undef := hk 53 (by kernel_rfl)
    have e54 : tm.getD 54 undef = undef := hk 54 (by kernel_rfl)
    have e55 : tm.getD 55 undef = undef := hk 55 (by kernel_rfl)
    have e56 : tm.getD 56 undef = undef := hk 56 (by kernel_rfl)
    have e57 : tm.getD 57 undef = undef := hk 57 (by kernel_rfl)
    have e58 : tm.getD 58 undef = undef := hk 58 (by kernel_rfl)
    have e59 : tm.getD 59 undef = undef := hk 59 (by kernel_rfl)
    have e60 : tm.getD 60 undef = undef := hk 60 (by kernel_rfl)
    have e61 : tm.getD 61 undef = undef := hk 61 (by kernel_rfl)
    have e62 : tm.getD 62 undef = undef := hk 62 (by kernel_rfl)
    have e63 : tm.getD 63 undef = undef := hk 63 (by kernel_rfl)
    have e64 : tm.getD 64 undef = undef := hk 64 (by kernel_rfl)
    have e65 : tm.getD 65 undef = undef := hk 65 (by kernel_rfl)
    have e66 : tm.getD 66 undef = undef := hk 66 (by kernel_rfl)
    have e67 : tm.getD 67 undef = undef := hk 67 (by kernel_rfl)
    have e68 : tm.getD 68 undef = undef := hk 68 (by kernel_rfl)
    have e69 : tm.getD 69 undef = undef := hk 69 (by kernel_rfl)
    have e70 : tm.getD 70 undef = undef := hk 70 (by kernel_rfl)
    have e71 : tm.getD 71 undef = undef := hk 71 (by kernel_rfl)
    have e72 : tm.getD 72 undef = undef := hk 72 (by kernel_rfl)
    have e73 : tm.getD 73 undef = undef := hk 73 (by kernel_rfl)
    have e74 : tm.getD 74 undef = undef := hk 74 (by kernel_rfl)
    have e75 : tm.getD 75 undef = undef := hk 75 (by kernel_rfl)
    have e76 : tm.getD 76 undef = undef := hk 76 (by kernel_rfl)
    have e77 : tm.getD 77 undef = undef := hk 77 (by kernel_rfl)
    have e78 : tm.getD 78 undef = undef := hk 78 (by kernel_rfl)
    have e79 : tm.getD 79 undef = undef := hk 79 (by kernel_rfl)
    have e80 : tm.getD 80 undef = undef := hk 80 (by kernel_rfl)
    have e81 : tm.getD 81 undef = undef := hk 81 (by kernel_rfl)
    have e82 : tm.getD 82 undef = undef := hk 82 (by kernel_rfl)
    have e83 : tm.getD 83 undef = undef := hk 83 (by kernel_rfl)
    have e84 : tm.getD 84 undef = undef := hk 84 (by kernel_rfl)
    have e85 : tm.getD 85 undef = undef := hk 85 (by kernel_rfl)
    have e86 : tm.getD 86 undef = undef := hk 86 (by kernel_rfl)
    have e87 : tm.getD 87 undef = undef := hk 87 (by kernel_rfl)
    have e88 : tm.getD 88 undef = undef := hk 88 (by kernel_rfl)
    have e89 : tm.getD 89 undef = undef := hk 89 (by kernel_rfl)
    have e90 : tm.getD 90 undef = undef := hk 90 (by kernel_rfl)
    have e91 : tm.getD 91 undef = undef := hk 91 (by kernel_rfl)
    have e92 : tm.getD 92 undef = undef := hk 92 (by kernel_rfl)
    have e93 : tm.getD 93 undef = undef := hk 93 (by kernel_rfl)
    have e94 : tm.getD 94 undef = undef := hk 94 (by kernel_rfl)
    have e95 : tm.getD 95 undef = undef := hk 95 (by kernel_rfl)
    have e96 : tm.getD 96 undef = undef := hk 96 (by kernel_rfl)
    have e97 : tm.getD 97 undef = undef := hk 97 (by kernel_rfl)
    have e98 : tm.getD 98 undef = undef := hk 98 (by kernel_rfl)
    have e99 : tm.getD 99 undef = undef := hk 99 (by kernel_rfl)
    have e100 : tm.getD 100 undef = undef := hk 100 (by kernel_rfl)
    have e101 : tm.getD 101 undef = undef := hk 101 (by kernel_rfl)
    have e102 : tm.getD 102 undef = undef := hk 102 (by kernel_rfl)
    have e103 : tm.getD 103 undef = undef := hk 103 (by kernel_rfl)
    have e104 : tm.getD 104 undef = undef := hk 104 (by kernel_rfl)
    have e105 : tm.getD 105 undef = undef := hk 105 (by kernel_rfl)
    have e106 : tm.getD 106 undef = undef := hk 106 (by kernel_rfl)
    have e107 : tm.getD 107 undef = undef := hk 107 (by kernel_rfl)
    have e108 : tm.getD 108 undef = undef := hk 108 (by kernel_rfl)
    have e109 : tm.getD 109 undef = undef := hk 109 (by kernel_rfl)
    have e110 : tm.getD 110 undef = undef := hk 110 (by kernel_rfl)
    have e111 : tm.getD 111 undef = undef := hk 111 (by kernel_rfl)
    have e112 : tm.getD 112 undef = undef := hk 112 (by kernel_rfl)
    have e113 : tm.getD 113 undef = undef := hk 113 (by kernel_rfl)
    have e114 : tm.getD 114 undef = undef := hk 114 (by kernel_rfl)
    have e115 : tm.getD 115 undef = undef := hk 115 (by kernel_rfl)
    have e116 : tm.getD 116 undef = undef := hk 116 (by kernel_rfl)
    have e117 : tm.getD 117 undef = undef := hk 117 (by kernel_rfl)
    have e118 : tm.getD 118 undef = undef := hk 118 (by kernel_rfl)
    have e119 : tm.getD 119 undef = undef := hk 119 (by kernel_rfl)
    have e120 : tm.getD 120 undef = undef := hk 120 (by kernel_rfl)
    have e121 : tm.getD 121 undef = undef := hk 121 (by kernel_rfl)
    have e122 : tm.getD 122 undef = undef := hk 122 (by kernel_rfl)
    have e123 : tm.getD 123 undef = undef := hk 123 (by kernel_rfl)
    have e124 : tm.getD 124 undef = undef := hk 124 (by kernel_rfl)
    have g19 : (tm.getD 19 undef) = pv rb := hG 0 19 (by decide) rfl
    have g20 : (tm.getD 20 undef) = .pointer (some ⟨w.heap.size, 1, none⟩) := hG 1 20 (by decide) rfl
    have g21 : (tm.getD 21 undef) = .int .i64 th := hG 2 21 (by decide) rfl
    have g22 : (tm.getD 22 undef) = .pointer (some ⟨w.heap.size, 2, none⟩) := hG 3 22 (by decide) rfl
    have g23 : (tm.getD 23 undef) = .int .i64 sg := hG 4 23 (by decide) rfl
    have g24 : (tm.getD 24 undef) = .pointer (some ⟨w.heap.size, 3, none⟩) := hG 5 24 (by decide) rfl
    have g25 : (tm.getD 25 undef) = .int .i64 of := hG 6 25 (by decide) rfl
    have g26 : (tm.getD 26 undef) = .int .i64 z := hG 7 26 (by decide) rfl
    have g27 : (tm.getD 27 undef) = pv qb := hG 8 27 (by decide) rfl
    have g28 : (tm.getD 28 undef) = .pointer (some ⟨w.heap.size, 1, none⟩) := hG 9 28 (by decide) rfl
    have g29 : (tm.getD 29 undef) = .int .i64 th := hG 10 29 (by decide) rfl
    have g30 : (tm.getD 30 undef) = .pointer (some ⟨w.heap.size, 2, none⟩) := hG 11 30 (by decide) rfl
    have g31 : (tm.getD 31 undef) = .int .i64 sg := hG 12 31 (by decide) rfl
    have g32 : (tm.getD 32 undef) = .pointer (some ⟨w.heap.size, 3, none⟩) := hG 13 32 (by decide) rfl
    have g33 : (tm.getD 33 undef) = .int .i64 of := hG 14 33 (by decide) rfl
    have g34 : (tm.getD 34 undef) = .int .i64 z := hG 15 34 (by decide) rfl
    have g35 : (tm.getD 35 undef) = .bool true := hG 16 35 (by decide) rfl
    have g6 : (tm.getD 6 undef) = .bool true := hG 17 6 (by decide) rfl
    have htm := arr_of tm ((pv rb : Value) :: (pv qb : Value) :: (.agg #[.int .i64 1, .int .i64 th, .int .i64 sg, .int .i64 of, .int .i64 cd] : Value) :: (undef : Value) :: (undef : Value) :: (.pointer (some ⟨w.heap.size, 0, none⟩) : Value) :: (tm.getD 6 undef : Value) :: (undef : Value) :: (undef : Value) :: (undef : Value) :: (undef : Value) :: (undef : Value) :: (undef : Value) :: (undef : Value) :: (undef : Value) :: (.pointer (some ⟨w.heap.size, 0, none⟩) : Value) :: (.int .i64 1 : Value) :: (.bool true : Value) :: (.bool true : Value) :: (tm.getD 19 undef : Value) :: (tm.getD 20 undef : Value) :: (tm.getD 21 undef : Value) :: (tm.getD 22 undef : Value) :: (tm.getD 23 undef : Value) :: (tm.getD 24 undef : Value) :: (tm.getD 25 undef : Value) :: (tm.getD 26 undef : Value) :: (tm.getD 27 undef : Value) :: (tm.getD 28 undef : Value) :: (tm.getD 29 undef : Value) :: (tm.getD 30 undef : Value) :: (tm.getD 31 undef : Value) :: (tm.getD 32 undef : Value) :: (tm.getD 33 undef : Value) :: (tm.getD 34 undef : Value) :: (tm.getD 35 undef : Value) :: (undef : Value) :: (undef : Value) :: (undef : Value) :: (undef : Value) :: (undef : Value) :: (undef : Value) :: (undef : Value) :: (undef : Value) :: (undef : Value) :: (undef : Value) :: (undef : Value) :: (undef : Value) :: (undef : Value) :: (undef : Value) :: (undef : Value) :: (undef : Value) :: (undef : Value) :: (undef : Value) :: (undef : Value) :: (undef : Value) :: (undef : Value) :: (undef : Value) :: (undef : Value) :: (undef : Value) :: (undef : Value) :: (undef : Value) :: (undef : Value) :: (undef : Value) :: (undef : Value) :: (undef : Value) :: (undef : Value) :: (undef : Value) :: (undef : Value) :: (undef : Value) :: (undef : Value) :: (undef : Value) :: (undef : Value) :: (undef : Value) :: (undef : Value) :: (undef : Value) :: (undef : Value) :: (undef : Value) :: (undef : Value) :: (undef : Value) :: (undef : Value) :: (undef : Value) :: (undef : Value) :: (undef : Value) :: (undef : Value) :: (undef : Value) :: (undef : Value) :: (undef : Value) :: (undef : Value) :: (undef : Value) :: (undef : Value) :: (undef : Value) :: (undef : Value) :: (undef : Value) :: (undef : Value) :: (undef : Value) :: (undef : Value) :: (undef : Value) :: (undef : Value) :: (undef : Value) :: (undef : Value) :: (undef : Value) :: (undef : Value) :: (undef : Value) :: (undef : Value) :: (undef : Value) :: (undef : Value) :: (undef : Value) :: (undef : Value) :: (undef : Value) :: (undef : Value) :: (undef : Value) :: (undef : Value) :: (undef : Value) :: (undef : Value) :: (undef : Value) :: (undef : Value) :: (undef : Value) :: (undef : Value) :: (undef : Value) :: (undef : Value) :: (undef : Value) :: (undef : Value) :: (undef : Value) :: (undef : Value) :: []) hs (by show (tm.getD 0 undef :: tm.getD 1 undef :: tm.getD 2 undef :: tm.getD 3 undef :: tm.getD 4 undef :: tm.getD 5 undef :: tm.getD 6 undef :: tm.getD 7 undef :: tm.getD 8 undef :: tm.getD 9 undef :: tm.getD 10 undef :: tm.getD 11 undef :: tm.getD 12 undef :: tm.getD 13 undef :: tm.getD 14 undef :: tm.getD 15 undef :: tm.getD 16 undef :: tm.getD 17 undef :: tm.getD 18 undef :: tm.getD 19 undef :: tm.getD 20 undef :: tm.getD 21 undef :: tm.getD 22 undef :: tm.getD 23 undef :: tm.getD 24 undef :: tm.getD 25 undef :: tm.getD 26 undef :: tm.getD 27 undef :: tm.getD 28 undef :: tm.getD 29 undef :: tm.getD 30 undef :: tm.getD 31 undef :: tm.getD 32 undef :: tm.getD 33 undef :: tm.getD 34 undef :: tm.getD 35 undef :: tm.getD 36 undef :: tm.getD 37 undef :: tm.getD 38 undef :: tm.getD 39 undef :: tm.getD 40 undef :: tm.getD 41 undef :: tm.getD 42 undef :: tm.getD 43 undef :: tm.getD 44 undef :: tm.getD 45 undef :: tm.getD 46 undef :: tm.getD 47 undef :: tm.getD 48 undef :: tm.getD 49 undef :: tm.getD 50 undef :: tm.getD 51 undef :: tm.getD 52 undef :: tm.getD 53 undef :: tm.getD 54 undef :: tm.getD 55 undef :: tm.getD 56 undef :: tm.getD 57 undef :: tm.getD 58 undef :: tm.getD 59 undef :: tm.getD 60 undef :: tm.getD 61 undef :: tm.getD 62 undef :: tm.getD 63 undef :: tm.getD 64 undef :: tm.getD 65 undef :: tm.getD 66 undef :: tm.getD 67 undef :: tm.getD 68 undef :: tm.getD 69 undef :: tm.getD 70 undef :: tm.getD 71 undef :: tm.getD 72 undef :: tm.getD 73 undef :: tm.getD 74 undef :: tm.getD 75 undef :: tm.getD 76 undef :: tm.getD 77 undef :: tm.getD 78 undef :: tm.getD 79 undef :: tm.getD 80 undef :: tm.getD 81 undef :: tm.getD 82 undef :: tm.getD 83 undef :: tm.getD 84 undef :: tm.getD 85 undef :: tm.getD 86 undef :: tm.getD 87 undef :: tm.getD 88 undef :: tm.getD 89 undef :: tm.getD 90 undef :: tm.getD 91 undef :: tm.getD 92 undef :: tm.getD 93 undef :: tm.getD 94 undef :: tm.getD 95 undef :: tm.getD 96 undef :: tm.getD 97 undef :: tm.getD 98 undef :: tm.getD 99 undef :: tm.getD 100 undef :: tm.getD 101 undef :: tm.getD 102 undef :: tm.getD 103 undef :: tm.getD 104 undef :: tm.getD 105 undef :: tm.getD 106 undef :: tm.getD 107 undef :: tm.getD 108 undef :: tm.getD 109 undef :: tm.getD 110 undef :: tm.getD 111 undef :: tm.getD 112 undef :: tm.getD 113 undef :: tm.getD 114 undef :: tm.getD 115 undef :: tm.getD 116 undef :: tm.getD 117 undef :: tm.getD 118 undef :: tm.getD 119 undef :: tm.getD 120 undef :: tm.getD 121 undef :: tm.getD 122 undef :: tm.getD 123 undef :: tm.getD 124 undef :: []) = _; rw [e0, e1, e2, e3, e4, e5, e7, e8, e9, e10, e11, e12, e13, e14, e15, e16, e17, e18, e36, e37, e38, e39, e40, e41, e42, e43, e44, e45, e46, e47, e48, e49, e50, e51, e52, e53, e54, e55, e56, e57, e58, e59, e60, e61, e62, e63, e64, e65, e66, e67, e68, e69, e70, e71, e72, e73, e74, e75, e76, e77, e78, e79, e80, e81, e82, e83, e84, e85, e86, e87, e88, e89, e90, e91, e92, e93, e94, e95, e96, e97, e98, e99, e100, e101, e102, e103, e104, e105, e106, e107, e108, e109, e110, e111, e112, e113, e114, e115, e116, e117, e118, e119, e120, e121, e122, e123, e124]; try rfl)
    clear hs hk hG e0 e1 e2 e3 e4 e5 e7 e8 e9 e10 e11 e12 e13 e14 e15 e16 e17 e18 e36 e37 e38 e39 e40 e41 e42 e43 e44 e45 e46 e47 e48 e49 e50 e51 e52 e53 e54 e55 e56 e57 e58 e59 e60 e61 e62 e63 e64 e65 e66 e67 e68 e69 e70 e71 e72 e73 e74 e75 e76 e77 e78 e79 e80 e81 e82 e83 e84 e85 e86 e87 e88 e89 e90 e91 e92 e93 e94 e95 e96 e97 e98 e99 e100 e101 e102 e103 e104 e105 e106 e107 e108 e109 e110 e111 e112 e113 e114 e115 e116 e117 e118 e119 e120 e121 e122 e123 e124
    generalize tm.getD 19 undef = t19 at htm g19
    generalize tm.getD 20 undef = t20 at htm g20
    generalize tm.getD 21 undef = t21 at htm g21
    generalize tm.getD 22 undef = t22 at htm g22
    generalize tm.getD 23 undef = t23 at htm g23
    generalize tm.getD 24 undef = t24 at htm g24
    generalize tm.getD 25 undef = t25 at htm g25
    generalize tm.getD 26 undef = t26 at htm g26
    generalize tm.getD 27 undef = t27 at htm g27
    generalize tm.getD 28 undef = t28 at htm g28
    generalize tm.getD 29 undef = t29 at htm g29
    generalize tm.getD 30 undef = t30 at htm g30
    generalize tm.getD 31 undef = t31 at htm g31
    generalize tm.getD 32 undef = t32 at htm g32
    generalize tm.getD 33 undef = t33 at htm g33
    generalize tm.getD 34 undef = t34 at htm g34
    generalize tm.getD 35 undef = t35 at htm g35
    generalize tm.getD 6 undef = t6 at htm g6
    subst htm
    subst g19
    subst g20
    subst g21
    subst g22
    subst g23
    subst g24
    subst g25
    subst g26
    subst g27
    subst g28
    subst g29
    subst g30
    subst g31
    subst g32
    subst g33
    subst g34
    subst g35
    subst g6
    have HJ := Lib.hid hJ
    clear hJ hB 
    go_wp2_with fail
    go_ret
    exact ⟨rfl, PJ.ns HH.out HB1.out HJ.out⟩
set_option maxRecDepth 100000 in
set_option maxHeartbeats 8000000 in
theorem step_wake (w : World) (rb qb : Nat) (F G : Nat → Prop) (all : List Who) (al : Int → List Int) (ra rl : List Who) (N : Nat) (h : PS w rb qb F G all al ra rl N) (hN : N < 700000) (th sg of cd : Int) (_ith : i64 th) (isg : i64 sg) (iof : i64 of) :
    Calls Try.prog 12 #[pv rb, pv qb, .agg #[.int .i64 2, .int .i64 th, .int .i64 sg, .int .i64 of, .int .i64 cd]] w fun e w' => e = .returned (.bool true) ∧ Ns w w' rb qb F G (N + 1) := by
  have HH := Lib.hid h
  obtain ⟨W1, hW1⟩ : ∃ W1, w.alloc (.cells #[.int .i64 2, .int .i64 th, .int .i64 sg, .int .i64 of, .int .i64 cd] 33) = W1 := ⟨_, rfl⟩
  have b1 : Below w.heap.size w W1 := by rw [← hW1]; exact (Below.refl _ _).alloc (Nat.le_refl _) _
  have hO : W1.heap[w.heap.size]? = some (.cells #[.int .i64 2, .int .i64 th, .int .i64 sg, .int .i64 of, .int .i64 cd] 33 (0, 0)) := by rw [← hW1]; exact heap_new _ _
  have d0 : W1.cell? ⟨w.heap.size, 0, none⟩ = some (.int .i64 2) := by rw [cell_of_row _ _ _ _ _ _ hO]; rfl
  have cW : ∀ X, Fm W1 X (fun k => F k ∨ G k) → _ := fun X hX => opn_cells hO (fun k e => e.elim (h.fl k) (h.gl k)) hX
  have hla := h.rm.len
  have hlr := h.rf.lenA
  have HB1 := Lib.hid b1
  clear h hO b1
  have hll := listA_len all sg of
  go_enter Try.func12, Try.ntmps12
  go_upto_region 5 with fail
  refine wp_region_ph 6 5 11 (fun X Y => Fm X Y (fun k => F k ∨ G k)) (PJ W1 rb qb F G (dropL (listA all sg of) all) (al) (dropL (listA all sg of) ra) N) (fun kq v X => match kq with | 38 => v = pv rb | 39 => v = .pointer (some ⟨w.heap.size, 2, none⟩) | 40 => v = .int .i64 sg | 41 => v = .pointer (some ⟨w.heap.size, 3, none⟩) | 42 => v = .int .i64 of | 43 => (fun v (X : World) => X.ownsRow w.heap.size 3 1 v (listA all sg of).length (ivs (listA all sg of))) (v) X | 44 => v = pv qb | 45 => v = .pointer (some ⟨w.heap.size, 2, none⟩) | 46 => v = .int .i64 sg | 47 => v = .pointer (some ⟨w.heap.size, 3, none⟩) | 48 => v = .int .i64 of | 49 => (fun v (X : World) => X.ownsRow w.heap.size 3 1 v (listA all sg of).length (ivs (listA all sg of))) (v) X | 50 => v = .bool true | 6 => v = .bool true | _ => True) (by kernel_rfl) (by kernel_rfl) (by kernel_rfl) (by kernel_rfl) (by decide) (by decide) (fun _ _ h => Fm.of_below h _) (fun _ _ _ h k => fm_trans h k) (fun _ _ _ h hb => PJ.below h hb) ((Below.refl _ _).drew) ?_ ?_ ?_
  · intro kq v W W' h hb
    revert h
    try dsimp only
    split
    · intro h; exact h
    · intro h; exact h
    · intro h; exact h
    · intro h; exact h
    · intro h; exact h
    · intro h; exact own_fm HH.out h hb
    · intro h; exact h
    · intro h; exact h
    · intro h; exact h
    · intro h; exact h
    · intro h; exact h
    · intro h; exact own_fm HH.out h hb
    · intro h; exact h
    · intro h; exact h
    · intro h; trivial
  · intro a' X p hJ hB hs hk i o d ho hd hp1 hp2 hG
    match i, ho with
    | 0, ho =>
      obtain rfl : _ = o := Option.some.inj ho
      obtain rfl : 38 = d := Option.some.inj hd
      have g0 : a'.eval (.tmp 0) = pv rb := hk 0 (by kernel_rfl)
      refine ⟨rfl, .inl ⟨pv rb, X, ?_, ⟨Below.refl _ _, by decide, by decide⟩, rfl⟩⟩
      obtain ⟨ev, hev⟩ : ∃ ev, a'.eval = ev := ⟨_, rfl⟩
      rw [hev] at g0 ⊢
      clear hev hG hk hs
      obtain ⟨c0, c1, c2, c3, c4⟩ := cW X hB
      go_simp
    | 1, ho =>
      obtain rfl : _ = o := Option.some.inj ho
      obtain rfl : 39 = d := Option.some.inj hd
      have g5 : a'.eval (.tmp 5) = .pointer (some ⟨w.heap.size, 0, none⟩) := hk 5 (by kernel_rfl)
      refine ⟨rfl, .inl ⟨.pointer (some ⟨w.heap.size, 2, none⟩), X, ?_, ⟨Below.refl _ _, by decide, by decide⟩, rfl⟩⟩
      obtain ⟨ev, hev⟩ : ∃ ev, a'.eval = ev := ⟨_, rfl⟩
      rw [hev] at g5 ⊢
      clear hev hG hk hs
      obtain ⟨c0, c1, c2, c3, c4⟩ := cW X hB
      go_simp
    | 2, ho =>
      obtain rfl : _ = o := Option.some.inj ho
      obtain rfl : 40 = d := Option.some.inj hd
      have g39 : a'.eval (.tmp 39) = .pointer (some ⟨w.heap.size, 2, none⟩) := hG ⟨1, .data⟩ (by simp) rfl 39 rfl
      refine ⟨rfl, .inl ⟨.int .i64 sg, X, ?_, ⟨Below.refl _ _, by decide, by decide⟩, rfl⟩⟩
      obtain ⟨ev, hev⟩ : ∃ ev, a'.eval = ev := ⟨_, rfl⟩
      rw [hev] at g39 ⊢
      clear hev hG hk hs
      obtain ⟨c0, c1, c2, c3, c4⟩ := cW X hB
      go_simp
    | 3, ho =>
      obtain rfl : _ = o := Option.some.inj ho
      obtain rfl : 41 = d := Option.some.inj hd
      have g5 : a'.eval (.tmp 5) = .pointer (some ⟨w.heap.size, 0, none⟩) := hk 5 (by kernel_rfl)
      refine ⟨rfl, .inl ⟨.pointer (some ⟨w.heap.size, 3, none⟩), X, ?_, ⟨Below.refl _ _, by decide, by decide⟩, rfl⟩⟩
      obtain ⟨ev, hev⟩ : ∃ ev, a'.eval = ev := ⟨_, rfl⟩
      rw [hev] at g5 ⊢
      clear hev hG hk hs
      obtain ⟨c0, c1, c2, c3, c4⟩ := cW X hB
      go_simp
    | 4, ho =>
      obtain rfl : _ = o := Option.some.inj ho
      obtain rfl : 42 = d := Option.some.inj hd
      have g41 : a'.eval (.tmp 41) = .pointer (some ⟨w.heap.size, 3, none⟩) := hG ⟨3, .data⟩ (by simp) rfl 41 rfl
      refine ⟨rfl, .inl ⟨.int .i64 of, X, ?_, ⟨Below.refl _ _, by decide, by decide⟩, rfl⟩⟩
      obtain ⟨ev, hev⟩ : ∃ ev, a'.eval = ev := ⟨_, rfl⟩
      rw [hev] at g41 ⊢
      clear hev hG hk hs
      obtain ⟨c0, c1, c2, c3, c4⟩ := cW X hB
      go_simp
    | 5, ho =>
      obtain rfl : _ = o := Option.some.inj ho
      obtain rfl : 43 = d := Option.some.inj hd
      have g38 : a'.eval (.tmp 38) = pv rb := hG ⟨0, .data⟩ (by simp) rfl 38 rfl
      have g40 : a'.eval (.tmp 40) = .int .i64 sg := hG ⟨2, .data⟩ (by simp) rfl 40 rfl
      have g42 : a'.eval (.tmp 42) = .int .i64 of := hG ⟨4, .data⟩ (by simp) rfl 42 rfl
      obtain rfl := hp1 rfl
      refine ⟨rfl, .inr ⟨16, #[pv rb, .int .i64 sg, .int .i64 of], ?_, ?_⟩⟩
      · have gF : a'.eval (.func 16) = .func (.func 16) #[] #[] := rfl
        obtain ⟨ev, hev⟩ : ∃ ev, a'.eval = ev := ⟨_, rfl⟩
        rw [hev] at gF g38 g40 g42 ⊢
        exact exec_call3 rfl gF g38 g40 g42 (enters_of Try.func16 (by kernel_rfl) rfl)
      have hfl : ∀ k, F k → k < X.heap.size := fun k hk => Nat.lt_of_lt_of_le (HH.out.fl k hk) (Nat.le_trans HB1.out.size (Below.size hJ))
      have hz : w.heap.size ≤ X.heap.size := Nat.le_trans HB1.out.size (Below.size hJ)
      exact (Wake_any X rb F all al N sg of isg iof (PJ.rooms HH.out HB1.out hJ) (by omega) hfl).mono fun e W' ⟨v, he, hr, h1, h2⟩ => ⟨v, he, .inr ⟨(PJ.one HH.out hJ (nx_of HH.out hz h1 h2)).1, (PJ.one HH.out hJ (nx_of HH.out hz h1 h2)).2, .inl rfl⟩, row_mono hr hz⟩
    | 6, ho =>
      obtain rfl : _ = o := Option.some.inj ho
      obtain rfl : 44 = d := Option.some.inj hd
      have g1 : a'.eval (.tmp 1) = pv qb := hk 1 (by kernel_rfl)
      refine ⟨rfl, .inl ⟨pv qb, X, ?_, ⟨Below.refl _ _, by decide, by decide⟩, rfl⟩⟩
      obtain ⟨ev, hev⟩ : ∃ ev, a'.eval = ev := ⟨_, rfl⟩
      rw [hev] at g1 ⊢
      clear hev hG hk hs
      obtain ⟨c0, c1, c2, c3, c4⟩ := cW X hB
      go_simp
    | 7, ho =>
      obtain rfl : _ = o := Option.some.inj ho
      obtain rfl : 45 = d := Option.some.inj hd
      have g5 : a'.eval (.tmp 5) = .pointer (some ⟨w.heap.size, 0, none⟩) := hk 5 (by kernel_rfl)
      refine ⟨rfl, .inl ⟨.pointer (some ⟨w.heap.size, 2, none⟩), X, ?_, ⟨Below.refl _ _, by decide, by decide⟩, rfl⟩⟩
      obtain ⟨ev, hev⟩ : ∃ ev, a'.eval = ev := ⟨_, rfl⟩
      rw [hev] at g5 ⊢
      clear hev hG hk hs
      obtain ⟨c0, c1, c2, c3, c4⟩ := cW X hB
      go_simp
    | 8, ho =>
      obtain rfl : _ = o := Option.some.inj ho
      obtain rfl : 46 = d := Option.some.inj hd
      have g45 : a'.eval (.tmp 45) = .pointer (some ⟨w.heap.size, 2, none⟩) := hG ⟨7, .data⟩ (by simp) rfl 45 rfl
      refine ⟨rfl, .inl ⟨.int .i64 sg, X, ?_, ⟨Below.refl _ _, by decide, by decide⟩, rfl⟩⟩
      obtain ⟨ev, hev⟩ : ∃ ev, a'.eval = ev := ⟨_, rfl⟩
      rw [hev] at g45 ⊢
      clear hev hG hk hs
      obtain ⟨c0, c1, c2, c3, c4⟩ := cW X hB
      go_simp
    | 9, ho =>
      obtain rfl : _ = o := Option.some.inj ho
      obtain rfl : 47 = d := Option.some.inj hd
      have g5 : a'.eval (.tmp 5) = .pointer (some ⟨w.heap.size, 0, none⟩) := hk 5 (by kernel_rfl)
      refine ⟨rfl, .inl ⟨.pointer (some ⟨w.heap.size, 3, none⟩), X, ?_, ⟨Below.refl _ _, by decide, by decide⟩, rfl⟩⟩
      obtain ⟨ev, hev⟩ : ∃ ev, a'.eval = ev := ⟨_, rfl⟩
      rw [hev] at g5 ⊢
      clear hev hG hk hs
      obtain ⟨c0, c1, c2, c3, c4⟩ := cW X hB
      go_simp
    | 10, ho =>
      obtain rfl : _ = o := Option.some.inj ho
      obtain rfl : 48 = d := Option.some.inj hd
      have g47 : a'.eval (.tmp 47) = .pointer (some ⟨w.heap.size, 3, none⟩) := hG ⟨9, .data⟩ (by simp) rfl 47 rfl
      refine ⟨rfl, .inl ⟨.int .i64 of, X, ?_, ⟨Below.refl _ _, by decide, by decide⟩, rfl⟩⟩
      obtain ⟨ev, hev⟩ : ∃ ev, a'.eval = ev := ⟨_, rfl⟩
      rw [hev] at g47 ⊢
      clear hev hG hk hs
      obtain ⟨c0, c1, c2, c3, c4⟩ := cW X hB
      go_simp
    | 11, ho =>
      obtain rfl : _ = o := Option.some.inj ho
      obtain rfl : 49 = d := Option.some.inj hd
      have g44 : a'.eval (.tmp 44) = pv qb := hG ⟨6, .data⟩ (by simp) rfl 44 rfl
      have g46 : a'.eval (.tmp 46) = .int .i64 sg := hG ⟨8, .data⟩ (by simp) rfl 46 rfl
      have g48 : a'.eval (.tmp 48) = .int .i64 of := hG ⟨10, .data⟩ (by simp) rfl 48 rfl
      obtain rfl := hp2 rfl
      refine ⟨rfl, .inr ⟨31, #[pv qb, .int .i64 sg, .int .i64 of], ?_, ?_⟩⟩
      · have gF : a'.eval (.func 31) = .func (.func 31) #[] #[] := rfl
        obtain ⟨ev, hev⟩ : ∃ ev, a'.eval = ev := ⟨_, rfl⟩
        rw [hev] at gF g44 g46 g48 ⊢
        exact exec_call3 rfl gF g44 g46 g48 (enters_of Try.func31 (by kernel_rfl) rfl)
      have hz : w.heap.size ≤ X.heap.size := Nat.le_trans HB1.out.size hB.size
      have hc := rWake_any X qb G ra rl N sg of (PJ.rf HH.out HB1.out hJ) (by omega)
      rw [← HH.out.lk.list] at hc
      exact hc.mono fun e W' ⟨v, he, hr⟩ => ⟨v, he, .inr ⟨(PJ.two HH.out hJ (nr_of hr.nr) (HH.out.lk.dropL _)).1, (PJ.two HH.out hJ (nr_of hr.nr) (HH.out.lk.dropL _)).2, .inr rfl⟩, row_mono hr.row hz⟩
    | 12, ho =>
      obtain rfl : _ = o := Option.some.inj ho
      obtain rfl : 50 = d := Option.some.inj hd
      have g43 : (fun v (X : World) => X.ownsRow w.heap.size 3 1 v (listA all sg of).length (ivs (listA all sg of))) (a'.eval (.tmp 43)) X := hG ⟨5, .data⟩ (by simp) rfl 43 rfl
      have g49 : (fun v (X : World) => X.ownsRow w.heap.size 3 1 v (listA all sg of).length (ivs (listA all sg of))) (a'.eval (.tmp 49)) X := hG ⟨11, .data⟩ (by simp) rfl 49 rfl
      refine ⟨rfl, .inr ⟨24, #[a'.eval (.tmp 43), a'.eval (.tmp 49)], ?_, ?_⟩⟩
      · have gF : a'.eval (.func 24) = .func (.func 24) #[] #[] := rfl
        obtain ⟨ev, hev⟩ : ∃ ev, a'.eval = ev := ⟨_, rfl⟩
        rw [hev] at gF g43 g49 ⊢
        exact exec_call2 rfl gF rfl rfl (enters_of Try.func24 (by kernel_rfl) rfl)
      exact (SameInts_irv (own_irv g43) (own_irv g49) (by omega)).mono fun e W' ⟨he, hb⟩ => ⟨_, he, .inl ⟨hb, by decide, by decide⟩, rfl⟩
    | 13, ho =>
      obtain rfl : _ = o := Option.some.inj ho
      obtain rfl : 6 = d := Option.some.inj hd
      have g50 : a'.eval (.tmp 50) = .bool true := hG ⟨12, .data⟩ (by simp) rfl 50 rfl
      refine ⟨rfl, .inl ⟨.bool true, X, ?_, ⟨Below.refl _ _, by decide, by decide⟩, rfl⟩⟩
      obtain ⟨ev, hev⟩ : ∃ ev, a'.eval = ev := ⟨_, rfl⟩
      rw [hev] at g50 ⊢
      clear hev hG hk hs
      obtain ⟨c0, c1, c2, c3, c4⟩ := cW X hB
      go_simp
    | j + 14, ho => simp at ho
  · intro a' X hJ hB hs hdf hk hG
    obtain ⟨tm, df⟩ := a'
    obtain rfl : df = [] := hdf
    have e0 : tm.getD 0 undef = pv rb := hk 0 (by kernel_rfl)
    have e1 : tm.getD 1 undef = pv qb := hk 1 (by kernel_rfl)
    have e2 : tm.getD 2 undef = .agg #[.int .i64 2, .int .i64 th, .int .i64 sg, .int .i64 of, .int .i64 cd] := hk 2 (by kernel_rfl)
    have e3 : tm.getD 3 undef = undef := hk 3 (by kernel_rfl)
    have e4 : tm.getD 4 undef = undef := hk 4 (by kernel_rfl)
    have e5 : tm.getD 5 undef = .pointer (some ⟨w.heap.size, 0, none⟩) := hk 5 (by kernel_rfl)
    have e7 : tm.getD 7 undef = undef := hk 7 (by kernel_rfl)
    have e8 : tm.getD 8 undef = undef := hk 8 (by kernel_rfl)
    have e9 : tm.getD 9 undef = undef := hk 9 (by kernel_rfl)
    have e10 : tm.getD 10 undef = undef := hk 10 (by kernel_rfl)
    have e11 : tm.getD 11 undef = undef := hk 11 (by kernel_rfl)
    have e12 : tm.getD 12 undef = undef := hk 12 (by kernel_rfl)
    have e13 : tm.getD 13 undef = undef := hk 13 (by kernel_rfl)
    have e14 : tm.getD 14 undef = undef := hk 14 (by kernel_rfl)
    have e15 : tm.getD 15 undef = .pointer (some ⟨w.heap.size, 0, none⟩) := hk 15 (by kernel_rfl)
    have e16 : tm.getD 16 undef = .int .i64 2 := hk 16 (by kernel_rfl)
    have e17 : tm.getD 17 undef = .bool false := hk 17 (by kernel_rfl)
    have e18 : tm.getD 18 undef = .bool false := hk 18 (by kernel_rfl)
    have e19 : tm.getD 19 undef = undef := hk 19 (by kernel_rfl)
    have e20 : tm.getD 20 undef = undef := hk 20 (by kernel_rfl)
    have e21 : tm.getD 21 undef = undef := hk 21 (by kernel_rfl)
    have e22 : tm.getD 22 undef = undef := hk 22 (by kernel_rfl)
    have e23 : tm.getD 23 undef = undef := hk 23 (by kernel_rfl)
    have e24 : tm.getD 24 undef = undef := hk 24 (by kernel_rfl)
    have e25 : tm.getD 25 undef = undef := hk 25 (by kernel_rfl)
    have e26 : tm.getD 26 undef = undef := hk 26 (by kernel_rfl)
    have e27 : tm.getD 27 undef = undef := hk 27 (by kernel_rfl)
    have e28 : tm.getD 28 undef = undef := hk 28 (by kernel_rfl)
    have e29 : tm.getD 29 undef = undef := hk 29 (by kernel_rfl)
    have e30 : tm.getD 30 undef = undef := hk 30 (by kernel_rfl)
    have e31 : tm.getD 31 undef = undef := hk 31 (by kernel_rfl)
    have e32 : tm.getD 32 undef = undef := hk 32 (by kernel_rfl)
    have e33 : tm.getD 33 undef = undef := hk 33 (by kernel_rfl)
    have e34 : tm.getD 34 undef = undef := hk 34 (by kernel_rfl)
    have e35 : tm.getD 35 undef = undef := hk 35 (by kernel_rfl)
    have e36 : tm.getD 36 undef = .bool true := hk 36 (by kernel_rfl)
    have e37 : tm.getD 37 undef = .bool true := hk 37 (by kernel_rfl)
    have e51 : tm.getD 51 undef = undef := hk 51 (by kernel_rfl)
    have e52 : tm.getD 52 undef = undef := hk 52 (by kernel_rfl)
    have e53 : tm.getD 53 undef = undef := hk 53 (by kernel_rfl)
    have e54 : tm.getD 54 undef = undef := hk 54 (by kernel_rfl)
    have e55 : tm.getD 55 undef = undef := hk 55 (by kernel_rfl)
    have e56 : tm.getD 56 undef = undef := hk 56 (by kernel_rfl)
    have e57 : tm.getD 57 undef = undef := hk 57 (by kernel_rfl)
    have e58 : tm.getD 58 undef = undef := hk 58 (by kernel_rfl)
    have e59 : tm.getD 59 undef = undef := hk 59 (by kernel_rfl)
    have e60 : tm.getD 60 undef = undef := hk 60 (by kernel_rfl)
    have e61 : tm.getD 61 undef = undef := hk 61 (by kernel_rfl)
    have e62 : tm.getD 62 undef = undef := hk 62 (by kernel_rfl)
    have e63 : tm.getD 63 undef = undef := hk 63 (by kernel_rfl)
    have e64 : tm.getD 64 undef = undef := hk 64 (by kernel_rfl)
    have e65 : tm.getD 65 undef = undef := hk 65 (by kernel_rfl)
    have e66 : tm.getD 66 undef = undef := hk 66 (by kernel_rfl)
    have e67 : tm.getD 67 undef = undef := hk 67 (by kernel_rfl)
    have e68 : tm.getD 68 undef = undef := hk 68 (by kernel_rfl)
    have e69 : tm.getD 69 undef = undef := hk 69 (by kernel_rfl)
    have e70 : tm.getD 70 undef = undef := hk 70 (by kernel_rfl)
    have e71 : tm.getD 71 undef = undef := hk 71 (by kernel_rfl)
    have e72 : tm.getD 72 undef = undef := hk 72 (by kernel_rfl)
    have e73 : tm.getD 73 undef = undef := hk 73 (by kernel_rfl)
    have e74 : tm.getD 74 undef = undef := hk 74 (by kernel_rfl)
    have e75 : tm.getD 75 undef = undef := hk 75 (by kernel_rfl)
    have e76 : tm.getD 76 undef = undef := hk 76 (by kernel_rfl)
    have e77 : tm.getD 77 undef = undef := hk 77 (by kernel_rfl)
    have e78 : tm.getD 78 undef = undef := hk 78 (by kernel_rfl)
    have e79 : tm.getD 79 undef = undef := hk 79 (by kernel_rfl)
    have e80 : tm.getD 80 undef = undef := hk 80 (by kernel_rfl)
    have e81 : tm.getD 81 undef = undef := hk 81 (by kernel_rfl)
    have e82 : tm.getD 82 undef = undef := hk 82 (by kernel_rfl)
    have e83 : tm.getD 83 undef = undef := hk 83 (by kernel_rfl)
    have e84 : tm.getD 84 undef = undef := hk 84 (by kernel_rfl)
    have e85 : tm.getD 85 undef = undef := hk 85 (by kernel_rfl)
    have e86 : tm.getD 86 undef = undef := hk 86 (by kernel_rfl)
    have e87 : tm.getD 87 undef = undef := hk 87 (by kernel_rfl)
    have e88 : tm.getD 88 undef = undef := hk 88 (by kernel_rfl)
    have e89 : tm.getD 89 undef = undef := hk 89 (by kernel_rfl)
    have e90 : tm.getD 90 undef = undef := hk 90 (by kernel_rfl)
    have e91 : tm.getD 91 undef = undef := hk 91 (by kernel_rfl)
    have e92 : tm.getD 92 undef = undef := hk 92 (by kernel_rfl)
    have e93 : tm.getD 93 undef = undef := hk 93 (by kernel_rfl)
    have e94 : tm.getD 94 undef = undef := hk 94 (by kernel_rfl)
    have e95 : tm.getD 95 undef = undef := hk 95 (by kernel_rfl)
    have e96 : tm.getD 96 undef = undef := hk 96 (by kernel_rfl)
    have e97 : tm.getD 97 undef = undef := hk 97 (by kernel_rfl)
    have e98 : tm.getD 98 undef = undef := hk 98 (by kernel_rfl)
    have e99 : tm.getD 99 undef = undef := hk 99 (by kernel_rfl)
    have e100 : tm.getD 100 undef = undef := hk 100 (by kernel_rfl)
    have e101 : tm.getD 101 undef = undef := hk 101 (by kernel_rfl)
    have e102 : tm.getD 102 undef = undef := hk 102 (by kernel_rfl)
    have e103 : tm.getD 103 undef = undef := hk 103 (by kernel_rfl)
    have e104 : tm.getD 104 undef = undef := hk 104 (by kernel_rfl)
    have e105 : tm.getD 105 undef = undef := hk 105 (by kernel_rfl)
    have e106 : tm.getD 106 undef = undef := hk 106 (by kernel_rfl)
    have e107 : tm.getD 107 undef = undef := hk 107 (by kernel_rfl)
    have e108 : tm.getD 108 undef = undef := hk 108 (by kernel_rfl)
    have e109 : tm.getD 109 undef = undef := hk 109 (by kernel_rfl)
    have e110 : tm.getD 110 undef = undef := hk 110 (by kernel_rfl)
    have e111 : tm.getD 111 undef = undef := hk 111 (by kernel_rfl)
    have e112 : tm.getD 112 undef = undef := hk 112 (by kernel_rfl)
    have e113 : tm.getD 113 undef = undef := hk 113 (by kernel_rfl)
    have e114 : tm.getD 114 undef = undef := hk 114 (by kernel_rfl)
    have e115 : tm.getD 115 undef = undef := hk 115 (by kernel_rfl)
    have e116 : tm.getD 116 undef = undef := hk 116 (by kernel_rfl)
    have e117 : tm.getD 117 undef = undef := hk 117 (by kernel_rfl)
    have e118 : tm.getD 118 undef = undef := hk 118 (by kernel_rfl)
    have e119 : tm.getD 119 undef = undef := hk 119 (by kernel_rfl)
    have e120 : tm.getD 120 undef = undef := hk 120 (by kernel_rfl)
    have e121 : tm.getD 121 undef = undef := hk 121 (by kernel_rfl)
    have e122 : tm.getD 122 undef = undef := hk 122 (by kernel_rfl)
    have e123 : tm.getD 123 undef = undef := hk 123 (by kernel_rfl)
    have e124 : tm.getD 124 undef = undef := hk 124 (by kernel_rfl)
    have g38 : (tm.getD 38 undef) = pv rb := hG 0 38 (by decide) rfl
    have g39 : (tm.getD 39 undef) = .pointer (some ⟨w.heap.size, 2, none⟩) := hG 1 39 (by decide) rfl
    have g40 : (tm.getD 40 undef) = .int .i64 sg := hG 2 40 (by decide) rfl
    have g41 : (tm.getD 41 undef) = .pointer (some ⟨w.heap.size, 3, none⟩) := hG 3 41 (by decide) rfl
    have g42 : (tm.getD 42 undef) = .int .i64 of := hG 4 42 (by decide) rfl
    have g43 : (fun v (X : World) => X.ownsRow w.heap.size 3 1 v (listA all sg of).length (ivs (listA all sg of))) ((tm.getD 43 undef)) X := hG 5 43 (by decide) rfl
    have g44 : (tm.getD 44 undef) = pv qb := hG 6 44 (by decide) rfl
    have g45 : (tm.getD 45 undef) = .pointer (some ⟨w.heap.size, 2, none⟩) := hG 7 45 (by decide) rfl
    have g46 : (tm.getD 46 undef) = .int .i64 sg := hG 8 46 (by decide) rfl
    have g47 : (tm.getD 47 undef) = .pointer (some ⟨w.heap.size, 3, none⟩) := hG 9 47 (by decide) rfl
    have g48 : (tm.getD 48 undef) = .int .i64 of := hG 10 48 (by decide) rfl
    have g49 : (fun v (X : World) => X.ownsRow w.heap.size 3 1 v (listA all sg of).length (ivs (listA all sg of))) ((tm.getD 49 undef)) X := hG 11 49 (by decide) rfl
    have g50 : (tm.getD 50 undef) = .bool true := hG 12 50 (by decide) rfl
    have g6 : (tm.getD 6 undef) = .bool true := hG 13 6 (by decide) rfl
    have htm := arr_of tm ((pv rb : Value) :: (pv qb : Value) :: (.agg #[.int .i64 2, .int .i64 th, .int .i64 sg, .int .i64 of, .int .i64 cd] : Value) :: (undef : Value) :: (undef : Value) :: (.pointer (some ⟨w.heap.size, 0, none⟩) : Value) :: (tm.getD 6 undef : Value) :: (undef : Value) :: (undef : Value) :: (undef : Value) :: (undef : Value) :: (undef : Value) :: (undef : Value) :: (undef : Value) :: (undef : Value) :: (.pointer (some ⟨w.heap.size, 0, none⟩) : Value) :: (.int .i64 2 : Value) :: (.bool false : Value) :: (.bool false : Value) :: (undef : Value) :: (undef : Value) :: (undef : Value) :: (undef : Value) :: (undef : Value) :: (undef : Value) :: (undef : Value) :: (undef : Value) :: (undef : Value) :: (undef : Value) :: (undef : Value) :: (undef : Value) :: (undef : Value) :: (undef : Value) :: (undef : Value) :: (undef : Value) :: (undef : Value) :: (.bool true : Value) :: (.bool true : Value) :: (tm.getD 38 undef : Value) :: (tm.getD 39 undef : Value) :: (tm.getD 40 undef : Value) :: (tm.getD 41 undef : Value) :: (tm.getD 42 undef : Value) :: (tm.getD 43 undef : Value) :: (tm.getD 44 undef : Value) :: (tm.getD 45 undef : Value) :: (tm.getD 46 undef : Value) :: (tm.getD 47 undef : Value) :: (tm.getD 48 undef : Value) :: (tm.getD 49 undef : Value) :: (tm.getD 50 undef : Value) :: (undef : Value) :: (undef : Value) :: (undef : Value) :: (undef : Value) :: (undef : Value) :: (undef : Value) :: (undef : Value) :: (undef : Value) :: (undef : Value) :: (undef : Value) :: (undef : Value) :: (undef : Value) :: (undef : Value) :: (undef : Value) :: (undef : Value) :: (undef : Value) :: (undef : Value) :: (undef : Value) :: (undef : Value) :: (undef : Value) :: (undef : Value) :: (undef : Value) :: (undef : Value) :: (undef : Value) :: (undef : Value) :: (undef : Value) :: (undef : Value) :: (undef : Value) :: (undef : Value) :: (undef : Value) :: (undef : Value) :: (undef : Value) :: (undef : Value) :: (undef : Value) :: (undef : Value) :: (undef : Value) :: (undef : Value) :: (undef : Value) :: (undef : Value) :: (undef : Value) :: (undef : Value) :: (undef : Value) :: (undef : Value) :: (undef : Value) :: (undef : Value) :: (undef : Value) :: (undef : Value) :: (undef : Value) :: (undef : Value) :: (undef : Value) :: (undef : Value) :: (undef : Value) :: (undef : Value) :: (undef : Value) :: (undef : Value) :: (undef : Value) :: (undef : Value) :: (undef : Value) :: (undef : Value) :: (undef : Value) :: (undef : Value) :: (undef : Value) :: (undef : Value) :: (undef : Value) :: (undef : Value) :: (undef : Value) :: (undef : Value) :: (undef : Value) :: (undef : Value) :: (undef : Value) :: (undef : Value) :: (undef : Value) :: (undef : Value) :: (undef : Value) :: []) hs (by show (tm.getD 0 undef :: tm.getD 1 undef :: tm.getD 2 undef :: tm.getD 3 undef :: tm.getD 4 undef :: tm.getD 5 undef :: tm.getD 6 undef :: tm.getD 7 undef :: tm.getD 8 undef :: tm.getD 9 undef :: tm.getD 10 undef :: tm.getD 11 undef :: tm.getD 12 undef :: tm.getD 13 undef :: tm.getD 14 undef :: tm.getD 15 undef :: tm.getD 16 undef :: tm.getD 17 undef :: tm.getD 18 undef :: tm.getD 19 undef :: tm.getD 20 undef :: tm.getD 21 undef :: tm.getD 22 undef :: tm.getD 23 undef :: tm.getD 24 undef :: tm.getD 25 undef :: tm.getD 26 undef :: tm.getD 27 undef :: tm.getD 28 undef :: tm.getD 29 undef :: tm.getD 30 undef :: tm.getD 31 undef :: tm.getD 32 undef :: tm.getD 33 undef :: tm.getD 34 undef :: tm.getD 35 undef :: tm.getD 36 undef :: tm.getD 37 undef :: tm.getD 38 undef :: tm.getD 39 undef :: tm.getD 40 undef :: tm.getD 41 undef :: tm.getD 42 undef :: tm.getD 43 undef :: tm.getD 44 undef :: tm.getD 45 undef :: tm.getD 46 undef :: tm.getD 47 undef :: tm.getD 48 undef :: tm.getD 49 undef :: tm.getD 50 undef :: tm.getD 51 undef :: tm.getD 52 undef :: tm.getD 53 undef :: tm.getD 54 undef :: tm.getD 55 undef :: tm.getD 56 undef :: tm.getD 57 undef :: tm.getD 58 undef :: tm.getD 59 undef :: tm.getD 60 undef :: tm.getD 61 undef :: tm.getD 62 undef :: tm.getD 63 undef :: tm.getD 64 undef :: tm.getD 65 undef :: tm.getD 66 undef :: tm.getD 67 undef :: tm.getD 68 undef :: tm.getD 69 undef :: tm.getD 70 undef :: tm.getD 71 undef :: tm.getD 72 undef :: tm.getD 73 undef :: tm.getD 74 undef :: tm.getD 75 undef :: tm.getD 76 undef :: tm.getD 77 undef :: tm.getD 78 undef :: tm.getD 79 undef :: tm.getD 80 undef :: tm.getD 81 undef :: tm.getD 82 undef :: tm.getD 83 undef :: tm.getD 84 undef :: tm.getD 85 undef :: tm.getD 86 undef :: tm.getD 87 undef :: tm.getD 88 undef :: tm.getD 89 undef :: tm.getD 90 undef :: tm.getD 91 undef :: tm.getD 92 undef :: tm.getD 93 undef :: tm.getD 94 undef :: tm.getD 95 undef :: tm.getD 96 undef :: tm.getD 97 undef :: tm.getD 98 undef :: tm.getD 99 undef :: tm.getD 100 undef :: tm.getD 101 undef :: tm.getD 102 undef :: tm.getD 103 undef :: tm.getD 104 undef :: tm.getD 105 undef :: tm.getD 106 undef :: tm.getD 107 undef :: tm.getD 108 undef :: tm.getD 109 undef :: tm.getD 110 undef :: tm.getD 111 undef :: tm.getD 112 undef :: tm.getD 113 undef :: tm.getD 114 undef :: tm.getD 115 undef :: tm.getD 116 undef :: tm.getD 117 undef :: tm.getD 118 undef :: tm.getD 119 undef :: tm.getD 120 undef :: tm.getD 121 undef :: tm.getD 122 undef :: tm.getD 123 undef :: tm.getD 124 undef :: []) = _; rw [e0, e1, e2, e3, e4, e5, e7, e8, e9, e10, e11, e12, e13, e14, e15, e16, e17, e18, e19, e20, e21, e22, e23, e24, e25, e26, e27, e28, e29, e30, e31, e32, e33, e34, e35, e36, e37, e51, e52, e53, e54, e55, e56, e57, e58, e59, e60, e61, e62, e63, e64, e65, e66, e67, e68, e69, e70, e71, e72, e73, e74, e75, e76, e77, e78, e79, e80, e81, e82, e83, e84, e85, e86, e87, e88, e89, e90, e91, e92, e93, e94, e95, e96, e97, e98, e99, e100, e101, e102, e103, e104, e105, e106, e107, e108, e109, e110, e111, e112, e113, e114, e115, e116, e117, e118, e119, e120, e121, e122, e123, e124]; try rfl)
    clear hs hk hG e0 e1 e2 e3 e4 e5 e7 e8 e9 e10 e11 e12 e13 e14 e15 e16 e17 e18 e19 e20 e21 e22 e23 e24 e25 e26 e27 e28 e29 e30 e31 e32 e33 e34 e35 e36 e37 e51 e52 e53 e54 e55 e56 e57 e58 e59 e60 e61 e62 e63 e64 e65 e66 e67 e68 e69 e70 e71 e72 e73 e74 e75 e76 e77 e78 e79 e80 e81 e82 e83 e84 e85 e86 e87 e88 e89 e90 e91 e92 e93 e94 e95 e96 e97 e98 e99 e100 e101 e102 e103 e104 e105 e106 e107 e108 e109 e110 e111 e112 e113 e114 e115 e116 e117 e118 e119 e120 e121 e122 e123 e124
    generalize tm.getD 38 undef = t38 at htm g38
    generalize tm.getD 39 undef = t39 at htm g39
    generalize tm.getD 40 undef = t40 at htm g40
    generalize tm.getD 41 undef = t41 at htm g41
    generalize tm.getD 42 undef = t42 at htm g42
    generalize tm.getD 43 undef = t43 at htm g43
    generalize tm.getD 44 undef = t44 at htm g44
    generalize tm.getD 45 undef = t45 at htm g45
    generalize tm.getD 46 undef = t46 at htm g46
    generalize tm.getD 47 undef = t47 at htm g47
    generalize tm.getD 48 undef = t48 at htm g48
    generalize tm.getD 49 undef = t49 at htm g49
    generalize tm.getD 50 undef = t50 at htm g50
    generalize tm.getD 6 undef = t6 at htm g6
    subst htm
    subst g38
    subst g39
    subst g40
    subst g41
    subst g42
    subst g44
    subst g45
    subst g46
    subst g47
    subst g48
    subst g50
    subst g6
    have HJ := Lib.hid hJ
    clear hJ hB g43 g49
    go_wp2_with fail
    go_ret
    exact ⟨rfl, PJ.ns HH.out HB1.out HJ.out⟩
set_option maxRecDepth 100000 in
set_option maxHeartbeats 8000000 in
theorem step_close (w : World) (rb qb : Nat) (F G : Nat → Prop) (all : List Who) (al : Int → List Int) (ra rl : List Who) (N : Nat) (h : PS w rb qb F G all al ra rl N) (hN : N < 700000) (th sg of cd : Int) (_ith : i64 th) (isg : i64 sg) (_iof : i64 of) :
    Calls Try.prog 12 #[pv rb, pv qb, .agg #[.int .i64 5, .int .i64 th, .int .i64 sg, .int .i64 of, .int .i64 cd]] w fun e w' => e = .returned (.bool true) ∧ Ns w w' rb qb F G (N + 1) := by
  have HH := Lib.hid h
  obtain ⟨W1, hW1⟩ : ∃ W1, w.alloc (.cells #[.int .i64 5, .int .i64 th, .int .i64 sg, .int .i64 of, .int .i64 cd] 33) = W1 := ⟨_, rfl⟩
  have b1 : Below w.heap.size w W1 := by rw [← hW1]; exact (Below.refl _ _).alloc (Nat.le_refl _) _
  have hO : W1.heap[w.heap.size]? = some (.cells #[.int .i64 5, .int .i64 th, .int .i64 sg, .int .i64 of, .int .i64 cd] 33 (0, 0)) := by rw [← hW1]; exact heap_new _ _
  have d0 : W1.cell? ⟨w.heap.size, 0, none⟩ = some (.int .i64 5) := by rw [cell_of_row _ _ _ _ _ _ hO]; rfl
  have cW : ∀ X, Fm W1 X (fun k => F k ∨ G k) → _ := fun X hX => opn_cells hO (fun k e => e.elim (h.fl k) (h.gl k)) hX
  have hla := h.rm.len
  have hlr := h.rf.lenA
  have HB1 := Lib.hid b1
  clear h hO b1
  have hll := segA_len all sg
  go_enter Try.func12, Try.ntmps12
  go_upto_region 15 with fail
  refine wp_region_ph 6 3 7 (fun X Y => Fm X Y (fun k => F k ∨ G k)) (PJ W1 rb qb F G (dropL (segA all sg) all) (al) (dropL (segA all sg) ra) N) (fun kq v X => match kq with | 105 => v = pv rb | 106 => v = .pointer (some ⟨w.heap.size, 2, none⟩) | 107 => v = .int .i64 sg | 108 => (fun v (X : World) => X.ownsRow w.heap.size 3 1 v (segA all sg).length (ivs (segA all sg))) (v) X | 109 => v = pv qb | 110 => v = .pointer (some ⟨w.heap.size, 2, none⟩) | 111 => v = .int .i64 sg | 112 => (fun v (X : World) => X.ownsRow w.heap.size 3 1 v (segA all sg).length (ivs (segA all sg))) (v) X | 113 => v = .bool true | 6 => v = .bool true | _ => True) (by kernel_rfl) (by kernel_rfl) (by kernel_rfl) (by kernel_rfl) (by decide) (by decide) (fun _ _ h => Fm.of_below h _) (fun _ _ _ h k => fm_trans h k) (fun _ _ _ h hb => PJ.below h hb) ((Below.refl _ _).drew) ?_ ?_ ?_
  · intro kq v W W' h hb
    revert h
    try dsimp only
    split
    · intro h; exact h
    · intro h; exact h
    · intro h; exact h
    · intro h; exact own_fm HH.out h hb
    · intro h; exact h
    · intro h; exact h
    · intro h; exact h
    · intro h; exact own_fm HH.out h hb
    · intro h; exact h
    · intro h; exact h
    · intro h; trivial
  · intro a' X p hJ hB hs hk i o d ho hd hp1 hp2 hG
    match i, ho with
    | 0, ho =>
      obtain rfl : _ = o := Option.some.inj ho
      obtain rfl : 105 = d := Option.some.inj hd
      have g0 : a'.eval (.tmp 0) = pv rb := hk 0 (by kernel_rfl)
      refine ⟨rfl, .inl ⟨pv rb, X, ?_, ⟨Below.refl _ _, by decide, by decide⟩, rfl⟩⟩
      obtain ⟨ev, hev⟩ : ∃ ev, a'.eval = ev := ⟨_, rfl⟩
      rw [hev] at g0 ⊢
      clear hev hG hk hs
      obtain ⟨c0, c1, c2, c3, c4⟩ := cW X hB
      go_simp
    | 1, ho =>
      obtain rfl : _ = o := Option.some.inj ho
      obtain rfl : 106 = d := Option.some.inj hd
      have g5 : a'.eval (.tmp 5) = .pointer (some ⟨w.heap.size, 0, none⟩) := hk 5 (by kernel_rfl)
      refine ⟨rfl, .inl ⟨.pointer (some ⟨w.heap.size, 2, none⟩), X, ?_, ⟨Below.refl _ _, by decide, by decide⟩, rfl⟩⟩
      obtain ⟨ev, hev⟩ : ∃ ev, a'.eval = ev := ⟨_, rfl⟩
      rw [hev] at g5 ⊢
      clear hev hG hk hs
      obtain ⟨c0, c1, c2, c3, c4⟩ := cW X hB
      go_simp
    | 2, ho =>
      obtain rfl : _ = o := Option.some.inj ho
      obtain rfl : 107 = d := Option.some.inj hd
      have g106 : a'.eval (.tmp 106) = .pointer (some ⟨w.heap.size, 2, none⟩) := hG ⟨1, .data⟩ (by simp) rfl 106 rfl
      refine ⟨rfl, .inl ⟨.int .i64 sg, X, ?_, ⟨Below.refl _ _, by decide, by decide⟩, rfl⟩⟩
      obtain ⟨ev, hev⟩ : ∃ ev, a'.eval = ev := ⟨_, rfl⟩
      rw [hev] at g106 ⊢
      clear hev hG hk hs
      obtain ⟨c0, c1, c2, c3, c4⟩ := cW X hB
      go_simp
    | 3, ho =>
      obtain rfl : _ = o := Option.some.inj ho
      obtain rfl : 108 = d := Option.some.inj hd
      have g105 : a'.eval (.tmp 105) = pv rb := hG ⟨0, .data⟩ (by simp) rfl 105 rfl
      have g107 : a'.eval (.tmp 107) = .int .i64 sg := hG ⟨2, .data⟩ (by simp) rfl 107 rfl
      obtain rfl := hp1 rfl
      refine ⟨rfl, .inr ⟨19, #[pv rb, .int .i64 sg], ?_, ?_⟩⟩
      · have gF : a'.eval (.func 19) = .func (.func 19) #[] #[] := rfl
        obtain ⟨ev, hev⟩ : ∃ ev, a'.eval = ev := ⟨_, rfl⟩
        rw [hev] at gF g105 g107 ⊢
        exact exec_call2 rfl gF g105 g107 (enters_of Try.func19 (by kernel_rfl) rfl)
      have hfl : ∀ k, F k → k < X.heap.size := fun k hk => Nat.lt_of_lt_of_le (HH.out.fl k hk) (Nat.le_trans HB1.out.size (Below.size hJ))
      have hz : w.heap.size ≤ X.heap.size := Nat.le_trans HB1.out.size (Below.size hJ)
      exact (Close_any X rb F all al N sg isg (PJ.rooms HH.out HB1.out hJ) (by omega) hfl).mono fun e W' ⟨v, he, hr, h1, h2⟩ => ⟨v, he, .inr ⟨(PJ.one HH.out hJ (nx_of HH.out hz h1 h2)).1, (PJ.one HH.out hJ (nx_of HH.out hz h1 h2)).2, .inl rfl⟩, row_mono hr hz⟩
    | 4, ho =>
      obtain rfl : _ = o := Option.some.inj ho
      obtain rfl : 109 = d := Option.some.inj hd
      have g1 : a'.eval (.tmp 1) = pv qb := hk 1 (by kernel_rfl)
      refine ⟨rfl, .inl ⟨pv qb, X, ?_, ⟨Below.refl _ _, by decide, by decide⟩, rfl⟩⟩
      obtain ⟨ev, hev⟩ : ∃ ev, a'.eval = ev := ⟨_, rfl⟩
      rw [hev] at g1 ⊢
      clear hev hG hk hs
      obtain ⟨c0, c1, c2, c3, c4⟩ := cW X hB
      go_simp
    | 5, ho =>
      obtain rfl : _ = o := Option.some.inj ho
      obtain rfl : 110 = d := Option.some.inj hd
      have g5 : a'.eval (.tmp 5) = .pointer (some ⟨w.heap.size, 0, none⟩) := hk 5 (by kernel_rfl)
      refine ⟨rfl, .inl ⟨.pointer (some ⟨w.heap.size, 2, none⟩), X, ?_, ⟨Below.refl _ _, by decide, by decide⟩, rfl⟩⟩
      obtain ⟨ev, hev⟩ : ∃ ev, a'.eval = ev := ⟨_, rfl⟩
      rw [hev] at g5 ⊢
      clear hev hG hk hs
      obtain ⟨c0, c1, c2, c3, c4⟩ := cW X hB
      go_simp
    | 6, ho =>
      obtain rfl : _ = o := Option.some.inj ho
      obtain rfl : 111 = d := Option.some.inj hd
      have g110 : a'.eval (.tmp 110) = .pointer (some ⟨w.heap.size, 2, none⟩) := hG ⟨5, .data⟩ (by simp) rfl 110 rfl
      refine ⟨rfl, .inl ⟨.int .i64 sg, X, ?_, ⟨Below.refl _ _, by decide, by decide⟩, rfl⟩⟩
      obtain ⟨ev, hev⟩ : ∃ ev, a'.eval = ev := ⟨_, rfl⟩
      rw [hev] at g110 ⊢
      clear hev hG hk hs
      obtain ⟨c0, c1, c2, c3, c4⟩ := cW X hB
      go_simp
    | 7, ho =>
      obtain rfl : _ = o := Option.some.inj ho
      obtain rfl : 112 = d := Option.some.inj hd
      have g109 : a'.eval (.tmp 109) = pv qb := hG ⟨4, .data⟩ (by simp) rfl 109 rfl
      have g111 : a'.eval (.tmp 111) = .int .i64 sg := hG ⟨6, .data⟩ (by simp) rfl 111 rfl
      obtain rfl := hp2 rfl
      refine ⟨rfl, .inr ⟨34, #[pv qb, .int .i64 sg], ?_, ?_⟩⟩
      · have gF : a'.eval (.func 34) = .func (.func 34) #[] #[] := rfl
        obtain ⟨ev, hev⟩ : ∃ ev, a'.eval = ev := ⟨_, rfl⟩
        rw [hev] at gF g109 g111 ⊢
        exact exec_call2 rfl gF g109 g111 (enters_of Try.func34 (by kernel_rfl) rfl)
      have hz : w.heap.size ≤ X.heap.size := Nat.le_trans HB1.out.size hB.size
      have hc := rClose_any X qb G ra rl N sg (PJ.rf HH.out HB1.out hJ) (by omega)
      rw [← HH.out.lk.seg] at hc
      exact hc.mono fun e W' ⟨v, he, hr⟩ => ⟨v, he, .inr ⟨(PJ.two HH.out hJ (nr_of hr.nr) (HH.out.lk.dropL _)).1, (PJ.two HH.out hJ (nr_of hr.nr) (HH.out.lk.dropL _)).2, .inr rfl⟩, row_mono hr.row hz⟩
    | 8, ho =>
      obtain rfl : _ = o := Option.some.inj ho
      obtain rfl : 113 = d := Option.some.inj hd
      have g108 : (fun v (X : World) => X.ownsRow w.heap.size 3 1 v (segA all sg).length (ivs (segA all sg))) (a'.eval (.tmp 108)) X := hG ⟨3, .data⟩ (by simp) rfl 108 rfl
      have g112 : (fun v (X : World) => X.ownsRow w.heap.size 3 1 v (segA all sg).length (ivs (segA all sg))) (a'.eval (.tmp 112)) X := hG ⟨7, .data⟩ (by simp) rfl 112 rfl
      refine ⟨rfl, .inr ⟨24, #[a'.eval (.tmp 108), a'.eval (.tmp 112)], ?_, ?_⟩⟩
      · have gF : a'.eval (.func 24) = .func (.func 24) #[] #[] := rfl
        obtain ⟨ev, hev⟩ : ∃ ev, a'.eval = ev := ⟨_, rfl⟩
        rw [hev] at gF g108 g112 ⊢
        exact exec_call2 rfl gF rfl rfl (enters_of Try.func24 (by kernel_rfl) rfl)
      exact (SameInts_irv (own_irv g108) (own_irv g112) (by omega)).mono fun e W' ⟨he, hb⟩ => ⟨_, he, .inl ⟨hb, by decide, by decide⟩, rfl⟩
    | 9, ho =>
      obtain rfl : _ = o := Option.some.inj ho
      obtain rfl : 6 = d := Option.some.inj hd
      have g113 : a'.eval (.tmp 113) = .bool true := hG ⟨8, .data⟩ (by simp) rfl 113 rfl
      refine ⟨rfl, .inl ⟨.bool true, X, ?_, ⟨Below.refl _ _, by decide, by decide⟩, rfl⟩⟩
      obtain ⟨ev, hev⟩ : ∃ ev, a'.eval = ev := ⟨_, rfl⟩
      rw [hev] at g113 ⊢
      clear hev hG hk hs
      obtain ⟨c0, c1, c2, c3, c4⟩ := cW X hB
      go_simp
    | j + 10, ho => simp at ho
  · intro a' X hJ hB hs hdf hk hG
    obtain ⟨tm, df⟩ := a'
    obtain rfl : df = [] := hdf
    have e0 : tm.getD 0 undef = pv rb := hk 0 (by kernel_rfl)
    have e1 : tm.getD 1 undef = pv qb := hk 1 (by kernel_rfl)
    have e2 : tm.getD 2 undef = .agg #[.int .i64 5, .int .i64 th, .int .i64 sg, .int .i64 of, .int .i64 cd] := hk 2 (by kernel_rfl)
    have e3 : tm.getD 3 undef = undef := hk 3 (by kernel_rfl)
    have e4 : tm.getD 4 undef = undef := hk 4 (by kernel_rfl)
    have e5 : tm.getD 5 undef = .pointer (some ⟨w.heap.size, 0, none⟩) := hk 5 (by kernel_rfl)
    have e7 : tm.getD 7 undef = undef := hk 7 (by kernel_rfl)
    have e8 : tm.getD 8 undef = undef := hk 8 (by kernel_rfl)
    have e9 : tm.getD 9 undef = undef := hk 9 (by kernel_rfl)
    have e10 : tm.getD 10 undef = undef := hk 10 (by kernel_rfl)
    have e11 : tm.getD 11 undef = undef := hk 11 (by kernel_rfl)
    have e12 : tm.getD 12 undef = undef := hk 12 (by kernel_rfl)
    have e13 : tm.getD 13 undef = undef := hk 13 (by kernel_rfl)
    have e14 : tm.getD 14 undef = undef := hk 14 (by kernel_rfl)
    have e15 : tm.getD 15 undef = .pointer (some ⟨w.heap.size, 0, none⟩) := hk 15 (by kernel_rfl)
    have e16 : tm.getD 16 undef = .int .i64 5 := hk 16 (by kernel_rfl)
    have e17 : tm.getD 17 undef = .bool false := hk 17 (by kernel_rfl)
    have e18 : tm.getD 18 undef = .bool false := hk 18 (by kernel_rfl)
    have e19 : tm.getD 19 undef = undef := hk 19 (by kernel_rfl)
    have e20 : tm.getD 20 undef = undef := hk 20 (by kernel_rfl)
    have e21 : tm.getD 21 undef = undef := hk 21 (by kernel_rfl)
    have e22 : tm.getD 22 undef = undef := hk 22 (by kernel_rfl)
    have e23 : tm.getD 23 undef = undef := hk 23 (by kernel_rfl)
    have e24 : tm.getD 24 undef = undef := hk 24 (by kernel_rfl)
    have e25 : tm.getD 25 undef = undef := hk 25 (by kernel_rfl)
    have e26 : tm.getD 26 undef = undef := hk 26 (by kernel_rfl)
    have e27 : tm.getD 27 undef = undef := hk 27 (by kernel_rfl)
    have e28 : tm.getD 28 undef = undef := hk 28 (by kernel_rfl)
    have e29 : tm.getD 29 undef = undef := hk 29 (by kernel_rfl)
    have e30 : tm.getD 30 undef = undef := hk 30 (by kernel_rfl)
    have e31 : tm.getD 31 undef = undef := hk 31 (by kernel_rfl)
    have e32 : tm.getD 32 undef = undef := hk 32 (by kernel_rfl)
    have e33 : tm.getD 33 undef = undef := hk 33 (by kernel_rfl)
    have e34 : tm.getD 34 undef = undef := hk 34 (by kernel_rfl)
    have e35 : tm.getD 35 undef = undef := hk 35 (by kernel_rfl)
    have e36 : tm.getD 36 undef = .bool false := hk 36 (by kernel_rfl)
    have e37 : tm.getD 37 undef = .bool false := hk 37 (by kernel_rfl)
    have e38 : tm.getD 38 undef = undef := hk 38 (by kernel_rfl)
    have e39 : tm.getD 39 undef = undef := hk 39 (by kernel_rfl)
    have e40 : tm.getD 40 undef = undef := hk 40 (by kernel_rfl)
    have e41 : tm.getD 41 undef = undef := hk 41 (by kernel_rfl)
    have e42 : tm.getD 42 undef = undef := hk 42 (by kernel_rfl)
    have e43 : tm.getD 43 undef = undef := hk 43 (by kernel_rfl)
    have e44 : tm.getD 44 undef = undef := hk 44 (by kernel_rfl)
    have e45 : tm.getD 45 undef = undef := hk 45 (by kernel_rfl)
    have e46 : tm.getD 46 undef = undef := hk 46 (by kernel_rfl)
    have e47 : tm.getD 47 undef = undef := hk 47 (by kernel_rfl)
    have e48 : tm.getD 48 undef = undef := hk 48 (by kernel_rfl)
    have e49 : tm.getD 49 undef = undef := hk 49 (by kernel_rfl)
    have e50 : tm.getD 50 undef = undef := hk 50 (by kernel_rfl)
    have e51 : tm.getD 51 undef = .bool false := hk 51 (by kernel_rfl)
    have e52 : tm.getD 52 undef = .bool false := hk 52 (by kernel_rfl)
    have e53 : tm.getD 53 undef = undef := hk 53 (by kernel_rfl)
    have e54 : tm.getD 54 undef = undef := hk 54 (by kernel_rfl)
    have e55 : tm.getD 55 undef = undef := hk 55 (by kernel_rfl)
    have e56 : tm.getD 56 undef = undef := hk 56 (by kernel_rfl)
    have e57 : tm.getD 57 undef = undef := hk 57 (by kernel_rfl)
    have e58 : tm.getD 58 undef = undef := hk 58 (by kernel_rfl)
    have e59 : tm.getD 59 undef = undef := hk 59 (by kernel_rfl)
    have e60 : tm.getD 60 undef = undef := hk 60 (by kernel_rfl)
    have e61 : tm.getD 61 undef = undef := hk 61 (by kernel_rfl)
    have e62 : tm.getD 62 undef = undef := hk 62 (by kernel_rfl)
    have e63 : tm.getD 63 undef = undef := hk 63 (by kernel_rfl)
    have e64 : tm.getD 64 undef = undef := hk 64 (by kernel_rfl)
    have e65 : tm.getD 65 undef = undef := hk 65 (by kernel_rfl)
    have e66 : tm.getD 66 undef = undef := hk 66 (by kernel_rfl)
    have e67 : tm.getD 67 undef = undef := hk 67 (by kernel_rfl)
    have e68 : tm.getD 68 undef = undef := hk 68 (by kernel_rfl)
    have e69 : tm.getD 69 undef = undef := hk 69 (by kernel_rfl)
    have e70 : tm.getD 70 undef = undef := hk 70 (by kernel_rfl)
    have e71 : tm.getD 71 undef = undef := hk 71 (by kernel_rfl)
    have e72 : tm.getD 72 undef = undef := hk 72 (by kernel_rfl)
    have e73 : tm.getD 73 undef = undef := hk 73 (by kernel_rfl)
    have e74 : tm.getD 74 undef = undef := hk 74 (by kernel_rfl)
    have e75 : tm.getD 75 undef = undef := hk 75 (by kernel_rfl)
    have e76 : tm.getD 76 undef = undef := hk 76 (by kernel_rfl)
    have e77 : tm.getD 77 undef = undef := hk 77 (by kernel_rfl)
    have e78 : tm.getD 78 undef = undef := hk 78 (by kernel_rfl)
    have e79 : tm.getD 79 undef = .bool false := hk 79 (by kernel_rfl)
    have e80 : tm.getD 80 undef = .bool false := hk 80 (by kernel_rfl)
    have e81 : tm.getD 81 undef = undef := hk 81 (by kernel_rfl)
    have e82 : tm.getD 82 undef = undef := hk 82 (by kernel_rfl)
    have e83 : tm.getD 83 undef = undef := hk 83 (by kernel_rfl)
    have e84 : tm.getD 84 undef = undef := hk 84 (by kernel_rfl)
    have e85 : tm.getD 85 undef = undef := hk 85 (by kernel_rfl)
    have e86 : tm.getD 86 undef = undef := hk 86 (by kernel_rfl)
    have e87 : tm.getD 87 undef = undef := hk 87 (by kernel_rfl)
    have e88 : tm.getD 88 undef = undef := hk 88 (by kernel_rfl)
    have e89 : tm.getD 89 undef = undef := hk 89 (by kernel_rfl)
    have e90 : tm.getD 90 undef = undef := hk 90 (by kernel_rfl)
    have e91 : tm.getD 91 undef = undef := hk 91 (by kernel_rfl)
    have e92 : tm.getD 92 undef = undef := hk 92 (by kernel_rfl)
    have e93 : tm.getD 93 undef = undef := hk 93 (by kernel_rfl)
    have e94 : tm.getD 94 undef = undef := hk 94 (by kernel_rfl)
    have e95 : tm.getD 95 undef = undef := hk 95 (by kernel_rfl)
    have e96 : tm.getD 96 undef = undef := hk 96 (by kernel_rfl)
    have e97 : tm.getD 97 undef = undef := hk 97 (by kernel_rfl)
    have e98 : tm.getD 98 undef = undef := hk 98 (by kernel_rfl)
    have e99 : tm.getD 99 undef = undef := hk 99 (by kernel_rfl)
    have e100 : tm.getD 100 undef = undef := hk 100 (by kernel_rfl)
    have e101 : tm.getD 101 undef = undef := hk 101 (by kernel_rfl)
    have e102 : tm.getD 102 undef = undef := hk 102 (by kernel_rfl)
    have e103 : tm.getD 103 undef = .bool true := hk 103 (by kernel_rfl)
    have e104 : tm.getD 104 undef = .bool true := hk 104 (by kernel_rfl)
    have e114 : tm.getD 114 undef = undef := hk 114 (by kernel_rfl)
    have e115 : tm.getD 115 undef = undef := hk 115 (by kernel_rfl)
    have e116 : tm.getD 116 undef = undef := hk 116 (by kernel_rfl)
    have e117 : tm.getD 117 undef = undef := hk 117 (by kernel_rfl)
    have e118 : tm.getD 118 undef = undef := hk 118 (by kernel_rfl)
    have e119 : tm.getD 119 undef = undef := hk 119 (by kernel_rfl)
    have e120 : tm.getD 120 undef = undef := hk 120 (by kernel_rfl)
    have e121 : tm.getD 121 undef = undef := hk 121 (by kernel_rfl)
    have e122 : tm.getD 122 undef = undef := hk 122 (by kernel_rfl)
    have e123 : tm.getD 123 undef = undef := hk 123 (by kernel_rfl)
    have e124 : tm.getD 124 undef = undef := hk 124 (by kernel_rfl)
    have g105 : (tm.getD 105 undef) = pv rb := hG 0 105 (by decide) rfl
    have g106 : (tm.getD 106 undef) = .pointer (some ⟨w.heap.size, 2, none⟩) := hG 1 106 (by decide) rfl
    have g107 : (tm.getD 107 undef) = .int .i64 sg := hG 2 107 (by decide) rfl
    have g108 : (fun v (X : World) => X.ownsRow w.heap.size 3 1 v (segA all sg).length (ivs (segA all sg))) ((tm.getD 108 undef)) X := hG 3 108 (by decide) rfl
    have g109 : (tm.getD 109 undef) = pv qb := hG 4 109 (by decide) rfl
    have g110 : (tm.getD 110 undef) = .pointer (some ⟨w.heap.size, 2, none⟩) := hG 5 110 (by decide) rfl
    have g111 : (tm.getD 111 undef) = .int .i64 sg := hG 6 111 (by decide) rfl
    have g112 : (fun v (X : World) => X.ownsRow w.heap.size 3 1 v (segA all sg).length (ivs (segA all sg))) ((tm.getD 112 undef)) X := hG 7 112 (by decide) rfl
    have g113 : (tm.getD 113 undef) = .bool true := hG 8 113 (by decide) rfl
    have g6 : (tm.getD 6 undef) = .bool true := hG 9 6 (by decide) rfl
    have htm := arr_of tm ((pv rb : Value) :: (pv qb : Value) :: (.agg #[.int .i64 5, .int .i64 th, .int .i64 sg, .int .i64 of, .int .i64 cd] : Value) :: (undef : Value) :: (undef : Value) :: (.pointer (some ⟨w.heap.size, 0, none⟩) : Value) :: (tm.getD 6 undef : Value) :: (undef : Value) :: (undef : Value) :: (undef : Value) :: (undef : Value) :: (undef : Value) :: (undef : Value) :: (undef : Value) :: (undef : Value) :: (.pointer (some ⟨w.heap.size, 0, none⟩) : Value) :: (.int .i64 5 : Value) :: (.bool false : Value) :: (.bool false : Value) :: (undef : Value) :: (undef : Value) :: (undef : Value) :: (undef : Value) :: (undef : Value) :: (undef : Value) :: (undef : Value) :: (undef : Value) :: (undef : Value) :: (undef : Value) :: (undef : Value) :: (undef : Value) :: (undef : Value) :: (undef : Value) :: (undef : Value) :: (undef : Value) :: (undef : Value) :: (.bool false : Value) :: (.bool false : Value) :: (undef : Value) :: (undef : Value) :: (undef : Value) :: (undef : Value) :: (undef : Value) :: (undef : Value) :: (undef : Value) :: (undef : Value) :: (undef : Value) :: (undef : Value) :: (undef : Value) :: (undef : Value) :: (undef : Value) :: (.bool false : Value) :: (.bool false : Value) :: (undef : Value) :: (undef : Value) :: (undef : Value) :: (undef : Value) :: (undef : Value) :: (undef : Value) :: (undef : Value) :: (undef : Value) :: (undef : Value) :: (undef : Value) :: (undef : Value) :: (undef : Value) :: (undef : Value) :: (undef : Value) :: (undef : Value) :: (undef : Value) :: (undef : Value) :: (undef : Value) :: (undef : Value) :: (undef : Value) :: (undef : Value) :: (undef : Value) :: (undef : Value) :: (undef : Value) :: (undef : Value) :: (undef : Value) :: (.bool false : Value) :: (.bool false : Value) :: (undef : Value) :: (undef : Value) :: (undef : Value) :: (undef : Value) :: (undef : Value) :: (undef : Value) :: (undef : Value) :: (undef : Value) :: (undef : Value) :: (undef : Value) :: (undef : Value) :: (undef : Value) :: (undef : Value) :: (undef : Value) :: (undef : Value) :: (undef : Value) :: (undef : Value) :: (undef : Value) :: (undef : Value) :: (undef : Value) :: (undef : Value) :: (undef : Value) :: (.bool true : Value) :: (.bool true : Value) :: (tm.getD 105 undef : Value) :: (tm.getD 106 undef : Value) :: (tm.getD 107 undef : Value) :: (tm.getD 108 undef : Value) :: (tm.getD 109 undef : Value) :: (tm.getD 110 undef : Value) :: (tm.getD 111 undef : Value) :: (tm.getD 112 undef : Value) :: (tm.getD 113 undef : Value) :: (undef : Value) :: (undef : Value) :: (undef : Value) :: (undef : Value) :: (undef : Value) :: (undef : Value) :: (undef : Value) :: (undef : Value) :: (undef : Value) :: (undef : Value) :: (undef : Value) :: []) hs (by show (tm.getD 0 undef :: tm.getD 1 undef :: tm.getD 2 undef :: tm.getD 3 undef :: tm.getD 4 undef :: tm.getD 5 undef :: tm.getD 6 undef :: tm.getD 7 undef :: tm.getD 8 undef :: tm.getD 9 undef :: tm.getD 10 undef :: tm.getD 11 undef :: tm.getD 12 undef :: tm.getD 13 undef :: tm.getD 14 undef :: tm.getD 15 undef :: tm.getD 16 undef :: tm.getD 17 undef :: tm.getD 18 undef :: tm.getD 19 undef :: tm.getD 20 undef :: tm.getD 21 undef :: tm.getD 22 undef :: tm.getD 23 undef :: tm.getD 24 undef :: tm.getD 25 undef :: tm.getD 26 undef :: tm.getD 27 undef :: tm.getD 28 undef :: tm.getD 29 undef :: tm.getD 30 undef :: tm.getD 31 undef :: tm.getD 32 undef :: tm.getD 33 undef :: tm.getD 34 undef :: tm.getD 35 undef :: tm.getD 36 undef :: tm.getD 37 undef :: tm.getD 38 undef :: tm.getD 39 undef :: tm.getD 40 undef :: tm.getD 41 undef :: tm.getD 42 undef :: tm.getD 43 undef :: tm.getD 44 undef :: tm.getD 45 undef :: tm.getD 46 undef :: tm.getD 47 undef :: tm.getD 48 undef :: tm.getD 49 undef :: tm.getD 50 undef :: tm.getD 51 undef :: tm.getD 52 undef :: tm.getD 53 undef :: tm.getD 54 undef :: tm.getD 55 undef :: tm.getD 56 undef :: tm.getD 57 undef :: tm.getD 58 undef :: tm.getD 59 undef :: tm.getD 60 undef :: tm.getD 61 undef :: tm.getD 62 undef :: tm.getD 63 undef :: tm.getD 64 undef :: tm.getD 65 undef :: tm.getD 66 undef :: tm.getD 67 undef :: tm.getD 68 undef :: tm.getD 69 undef :: tm.getD 70 undef :: tm.getD 71 undef :: tm.getD 72 undef :: tm.getD 73 undef :: tm.getD 74 undef :: tm.getD 75 undef :: tm.getD 76 undef :: tm.getD 77 undef :: tm.getD 78 undef :: tm.getD 79 undef :: tm.getD 80 undef :: tm.getD 81 undef :: tm.getD 82 undef :: tm.getD 83 undef :: tm.getD 84 undef :: tm.getD 85 undef :: tm.getD 86 undef :: tm.getD 87 undef :: tm.getD 88 undef :: tm.getD 89 undef :: tm.getD 90 undef :: tm.getD 91 undef :: tm.getD 92 undef :: tm.getD 93 undef :: tm.getD 94 undef :: tm.getD 95 undef :: tm.getD 96 undef :: tm.getD 97 undef :: tm.getD 98 undef :: tm.getD 99 undef :: tm.getD 100 undef :: tm.getD 101 undef :: tm.getD 102 undef :: tm.getD 103 undef :: tm.getD 104 undef :: tm.getD 105 undef :: tm.getD 106 undef :: tm.getD 107 undef :: tm.getD 108 undef :: tm.getD 109 undef :: tm.getD 110 undef :: tm.getD 111 undef :: tm.getD 112 undef :: tm.getD 113 undef :: tm.getD 114 undef :: tm.getD 115 undef :: tm.getD 116 undef :: tm.getD 117 undef :: tm.getD 118 undef :: tm.getD 119 undef :: tm.getD 120 undef :: tm.getD 121 undef :: tm.getD 122 undef :: tm.getD 123 undef :: tm.getD 124 undef :: []) = _; rw [e0, e1, e2, e3, e4, e5, e7, e8, e9, e10, e11, e12, e13, e14, e15, e16, e17, e18, e19, e20, e21, e22, e23, e24, e25, e26, e27, e28, e29, e30, e31, e32, e33, e34, e35, e36, e37, e38, e39, e40, e41, e42, e43, e44, e45, e46, e47, e48, e49, e50, e51, e52, e53, e54, e55, e56, e57, e58, e59, e60, e61, e62, e63, e64, e65, e66, e67, e68, e69, e70, e71, e72, e73, e74, e75, e76, e77, e78, e79, e80, e81, e82, e83, e84, e85, e86, e87, e88, e89, e90, e91, e92, e93, e94, e95, e96, e97, e98, e99, e100, e101, e102, e103, e104, e114, e115, e116, e117, e118, e119, e120, e121, e122, e123, e124]; try rfl)
    clear hs hk hG e0 e1 e2 e3 e4 e5 e7 e8 e9 e10 e11 e12 e13 e14 e15 e16 e17 e18 e19 e20 e21 e22 e23 e24 e25 e26 e27 e28 e29 e30 e31 e32 e33 e34 e35 e36 e37 e38 e39 e40 e41 e42 e43 e44 e45 e46 e47 e48 e49 e50 e51 e52 e53 e54 e55 e56 e57 e58 e59 e60 e61 e62 e63 e64 e65 e66 e67 e68 e69 e70 e71 e72 e73 e74 e75 e76 e77 e78 e79 e80 e81 e82 e83 e84 e85 e86 e87 e88 e89 e90 e91 e92 e93 e94 e95 e96 e97 e98 e99 e100 e101 e102 e103 e104 e114 e115 e116 e117 e118 e119 e120 e121 e122 e123 e124
    generalize tm.getD 105 undef = t105 at htm g105
    generalize tm.getD 106 undef = t106 at htm g106
    generalize tm.getD 107 undef = t107 at htm g107
    generalize tm.getD 108 undef = t108 at htm g108
    generalize tm.getD 109 undef = t109 at htm g109
    generalize tm.getD 110 undef = t110 at htm g110
    generalize tm.getD 111 undef = t111 at htm g111
    generalize tm.getD 112 undef = t112 at htm g112
    generalize tm.getD 113 undef = t113 at htm g113
    generalize tm.getD 6 undef = t6 at htm g6
    subst htm
    subst g105
    subst g106
    subst g107
    subst g109
    subst g110
    subst g111
    subst g113
    subst g6
    have HJ := Lib.hid hJ
    clear hJ hB g108 g112
    go_wp2_with fail
    go_ret
    exact ⟨rfl, PJ.ns HH.out HB1.out HJ.out⟩
set_option maxRecDepth 100000 in
set_option maxHeartbeats 8000000 in
theorem step_forget (w : World) (rb qb : Nat) (F G : Nat → Prop) (all : List Who) (al : Int → List Int) (ra rl : List Who) (N : Nat) (h : PS w rb qb F G all al ra rl N) (hN : N < 700000) (th sg of cd : Int) (ith : i64 th) (_isg : i64 sg) (_iof : i64 of) :
    Calls Try.prog 12 #[pv rb, pv qb, .agg #[.int .i64 6, .int .i64 th, .int .i64 sg, .int .i64 of, .int .i64 cd]] w fun e w' => e = .returned (.bool true) ∧ Ns w w' rb qb F G (N + 1) := by
  have HH := Lib.hid h
  obtain ⟨W1, hW1⟩ : ∃ W1, w.alloc (.cells #[.int .i64 6, .int .i64 th, .int .i64 sg, .int .i64 of, .int .i64 cd] 33) = W1 := ⟨_, rfl⟩
  have b1 : Below w.heap.size w W1 := by rw [← hW1]; exact (Below.refl _ _).alloc (Nat.le_refl _) _
  have hO : W1.heap[w.heap.size]? = some (.cells #[.int .i64 6, .int .i64 th, .int .i64 sg, .int .i64 of, .int .i64 cd] 33 (0, 0)) := by rw [← hW1]; exact heap_new _ _
  have d0 : W1.cell? ⟨w.heap.size, 0, none⟩ = some (.int .i64 6) := by rw [cell_of_row _ _ _ _ _ _ hO]; rfl
  have cW : ∀ X, Fm W1 X (fun k => F k ∨ G k) → _ := fun X hX => opn_cells hO (fun k e => e.elim (h.fl k) (h.gl k)) hX
  have hla := h.rm.len
  have hlr := h.rf.lenA
  have HB1 := Lib.hid b1
  clear h hO b1
  obtain ⟨wb, hwb⟩ : ∃ wb, waitsA all th = wb := ⟨_, rfl⟩
  have HWB := Lib.hid hwb
  have HWR := Lib.hid ((HH.out.lk.waits th).symm.trans hwb)
  clear hwb
  go_enter Try.func12, Try.ntmps12
  go_upto_region 17 with fail
  refine wp_region_ph 6 3 7 (fun X Y => Fm X Y (fun k => F k ∨ G k)) (PJ W1 rb qb F G (dropT th all) (setI al th []) (dropT th ra) N) (fun kq v X => match kq with | 116 => v = pv rb | 117 => v = .pointer (some ⟨w.heap.size, 1, none⟩) | 118 => v = .int .i64 th | 119 => v = .bool wb | 120 => v = pv qb | 121 => v = .pointer (some ⟨w.heap.size, 1, none⟩) | 122 => v = .int .i64 th | 123 => v = .bool wb | 124 => v = .bool true | 6 => v = .bool true | _ => True) (by kernel_rfl) (by kernel_rfl) (by kernel_rfl) (by kernel_rfl) (by decide) (by decide) (fun _ _ h => Fm.of_below h _) (fun _ _ _ h k => fm_trans h k) (fun _ _ _ h hb => PJ.below h hb) ((Below.refl _ _).drew) ?_ ?_ ?_
  · intro kq v W W' h hb
    revert h
    try dsimp only
    split
    · intro h; exact h
    · intro h; exact h
    · intro h; exact h
    · intro h; exact h
    · intro h; exact h
    · intro h; exact h
    · intro h; exact h
    · intro h; exact h
    · intro h; exact h
    · intro h; exact h
    · intro h; trivial
  · intro a' X p hJ hB hs hk i o d ho hd hp1 hp2 hG
    match i, ho with
    | 0, ho =>
      obtain rfl : _ = o := Option.some.inj ho
      obtain rfl : 116 = d := Option.some.inj hd
      have g0 : a'.eval (.tmp 0) = pv rb := hk 0 (by kernel_rfl)
      refine ⟨rfl, .inl ⟨pv rb, X, ?_, ⟨Below.refl _ _, by decide, by decide⟩, rfl⟩⟩
      obtain ⟨ev, hev⟩ : ∃ ev, a'.eval = ev := ⟨_, rfl⟩
      rw [hev] at g0 ⊢
      clear hev hG hk hs
      obtain ⟨c0, c1, c2, c3, c4⟩ := cW X hB
      go_simp
    | 1, ho =>
      obtain rfl : _ = o := Option.some.inj ho
      obtain rfl : 117 = d := Option.some.inj hd
      have g5 : a'.eval (.tmp 5) = .pointer (some ⟨w.heap.size, 0, none⟩) := hk 5 (by kernel_rfl)
      refine ⟨rfl, .inl ⟨.pointer (some ⟨w.heap.size, 1, none⟩), X, ?_, ⟨Below.refl _ _, by decide, by decide⟩, rfl⟩⟩
      obtain ⟨ev, hev⟩ : ∃ ev, a'.eval = ev := ⟨_, rfl⟩
      rw [hev] at g5 ⊢
      clear hev hG hk hs
      obtain ⟨c0, c1, c2, c3, c4⟩ := cW X hB
      go_simp
    | 2, ho =>
      obtain rfl : _ = o := Option.some.inj ho
      obtain rfl : 118 = d := Option.some.inj hd
      have g117 : a'.eval (.tmp 117) = .pointer (some ⟨w.heap.size, 1, none⟩) := hG ⟨1, .data⟩ (by simp) rfl 117 rfl
      refine ⟨rfl, .inl ⟨.int .i64 th, X, ?_, ⟨Below.refl _ _, by decide, by decide⟩, rfl⟩⟩
      obtain ⟨ev, hev⟩ : ∃ ev, a'.eval = ev := ⟨_, rfl⟩
      rw [hev] at g117 ⊢
      clear hev hG hk hs
      obtain ⟨c0, c1, c2, c3, c4⟩ := cW X hB
      go_simp
    | 3, ho =>
      obtain rfl : _ = o := Option.some.inj ho
      obtain rfl : 119 = d := Option.some.inj hd
      have g116 : a'.eval (.tmp 116) = pv rb := hG ⟨0, .data⟩ (by simp) rfl 116 rfl
      have g118 : a'.eval (.tmp 118) = .int .i64 th := hG ⟨2, .data⟩ (by simp) rfl 118 rfl
      obtain rfl := hp1 rfl
      refine ⟨rfl, .inr ⟨20, #[pv rb, .int .i64 th], ?_, ?_⟩⟩
      · have gF : a'.eval (.func 20) = .func (.func 20) #[] #[] := rfl
        obtain ⟨ev, hev⟩ : ∃ ev, a'.eval = ev := ⟨_, rfl⟩
        rw [hev] at gF g116 g118 ⊢
        exact exec_call2 rfl gF g116 g118 (enters_of Try.func20 (by kernel_rfl) rfl)
      have hz : w.heap.size ≤ X.heap.size := Nat.le_trans HB1.out.size (Below.size hJ)
      have hc := Forget_any X rb F all al N th ith (PJ.rooms HH.out HB1.out hJ) (by omega)
      rw [HWB.out] at hc
      exact hc.mono fun e W' ⟨he, h1, h2⟩ => ⟨_, he, .inr ⟨(PJ.one HH.out hJ (nx_of HH.out hz h1 h2)).1, (PJ.one HH.out hJ (nx_of HH.out hz h1 h2)).2, .inl rfl⟩, rfl⟩
    | 4, ho =>
      obtain rfl : _ = o := Option.some.inj ho
      obtain rfl : 120 = d := Option.some.inj hd
      have g1 : a'.eval (.tmp 1) = pv qb := hk 1 (by kernel_rfl)
      refine ⟨rfl, .inl ⟨pv qb, X, ?_, ⟨Below.refl _ _, by decide, by decide⟩, rfl⟩⟩
      obtain ⟨ev, hev⟩ : ∃ ev, a'.eval = ev := ⟨_, rfl⟩
      rw [hev] at g1 ⊢
      clear hev hG hk hs
      obtain ⟨c0, c1, c2, c3, c4⟩ := cW X hB
      go_simp
    | 5, ho =>
      obtain rfl : _ = o := Option.some.inj ho
      obtain rfl : 121 = d := Option.some.inj hd
      have g5 : a'.eval (.tmp 5) = .pointer (some ⟨w.heap.size, 0, none⟩) := hk 5 (by kernel_rfl)
      refine ⟨rfl, .inl ⟨.pointer (some ⟨w.heap.size, 1, none⟩), X, ?_, ⟨Below.refl _ _, by decide, by decide⟩, rfl⟩⟩
      obtain ⟨ev, hev⟩ : ∃ ev, a'.eval = ev := ⟨_, rfl⟩
      rw [hev] at g5 ⊢
      clear hev hG hk hs
      obtain ⟨c0, c1, c2, c3, c4⟩ := cW X hB
      go_simp
    | 6, ho =>
      obtain rfl : _ = o := Option.some.inj ho
      obtain rfl : 122 = d := Option.some.inj hd
      have g121 : a'.eval (.tmp 121) = .pointer (some ⟨w.heap.size, 1, none⟩) := hG ⟨5, .data⟩ (by simp) rfl 121 rfl
      refine ⟨rfl, .inl ⟨.int .i64 th, X, ?_, ⟨Below.refl _ _, by decide, by decide⟩, rfl⟩⟩
      obtain ⟨ev, hev⟩ : ∃ ev, a'.eval = ev := ⟨_, rfl⟩
      rw [hev] at g121 ⊢
      clear hev hG hk hs
      obtain ⟨c0, c1, c2, c3, c4⟩ := cW X hB
      go_simp
    | 7, ho =>
      obtain rfl : _ = o := Option.some.inj ho
      obtain rfl : 123 = d := Option.some.inj hd
      have g120 : a'.eval (.tmp 120) = pv qb := hG ⟨4, .data⟩ (by simp) rfl 120 rfl
      have g122 : a'.eval (.tmp 122) = .int .i64 th := hG ⟨6, .data⟩ (by simp) rfl 122 rfl
      obtain rfl := hp2 rfl
      refine ⟨rfl, .inr ⟨35, #[pv qb, .int .i64 th], ?_, ?_⟩⟩
      · have gF : a'.eval (.func 35) = .func (.func 35) #[] #[] := rfl
        obtain ⟨ev, hev⟩ : ∃ ev, a'.eval = ev := ⟨_, rfl⟩
        rw [hev] at gF g120 g122 ⊢
        exact exec_call2 rfl gF g120 g122 (enters_of Try.func35 (by kernel_rfl) rfl)
      have hc := rForget_any X qb G ra rl N th (PJ.rf HH.out HB1.out hJ) (by omega)
      rw [HWR.out] at hc
      exact hc.mono fun e W' ⟨he, rl', hl, hn⟩ => ⟨_, he, .inr ⟨(PJ.two HH.out hJ (nr_of hn) (HH.out.lk.dropT th (fun s => by rw [hl, HH.out.lk.ofE]) (set_len HH.out.lk.h8 (by simp)))).1, (PJ.two HH.out hJ (nr_of hn) (HH.out.lk.dropT th (fun s => by rw [hl, HH.out.lk.ofE]) (set_len HH.out.lk.h8 (by simp)))).2, .inr rfl⟩, rfl⟩
    | 8, ho =>
      obtain rfl : _ = o := Option.some.inj ho
      obtain rfl : 124 = d := Option.some.inj hd
      have g119 : a'.eval (.tmp 119) = .bool wb := hG ⟨3, .data⟩ (by simp) rfl 119 rfl
      have g123 : a'.eval (.tmp 123) = .bool wb := hG ⟨7, .data⟩ (by simp) rfl 123 rfl
      refine ⟨rfl, .inl ⟨.bool true, X, ?_, ⟨Below.refl _ _, by decide, by decide⟩, rfl⟩⟩
      obtain ⟨ev, hev⟩ : ∃ ev, a'.eval = ev := ⟨_, rfl⟩
      rw [hev] at g119 g123 ⊢
      clear hev hG hk hs
      obtain ⟨c0, c1, c2, c3, c4⟩ := cW X hB
      go_simp
    | 9, ho =>
      obtain rfl : _ = o := Option.some.inj ho
      obtain rfl : 6 = d := Option.some.inj hd
      have g124 : a'.eval (.tmp 124) = .bool true := hG ⟨8, .data⟩ (by simp) rfl 124 rfl
      refine ⟨rfl, .inl ⟨.bool true, X, ?_, ⟨Below.refl _ _, by decide, by decide⟩, rfl⟩⟩
      obtain ⟨ev, hev⟩ : ∃ ev, a'.eval = ev := ⟨_, rfl⟩
      rw [hev] at g124 ⊢
      clear hev hG hk hs
      obtain ⟨c0, c1, c2, c3, c4⟩ := cW X hB
      go_simp
    | j + 10, ho => simp at ho
  · intro a' X hJ hB hs hdf hk hG
    obtain ⟨tm, df⟩ := a'
    obtain rfl : df = [] := hdf
    have e0 : tm.getD 0 undef = pv rb := hk 0 (by kernel_rfl)
    have e1 : tm.getD 1 undef = pv qb := hk 1 (by kernel_rfl)
    have e2 : tm.getD 2 undef = .agg #[.int .i64 6, .int .i64 th, .int .i64 sg, .int .i64 of, .int .i64 cd] := hk 2 (by kernel_rfl)
    have e3 : tm.getD 3 undef = undef := hk 3 (by kernel_rfl)
    have e4 : tm.getD 4 undef = undef := hk 4 (by kernel_rfl)
    have e5 : tm.getD 5 undef = .pointer (some ⟨w.heap.size, 0, none⟩) := hk 5 (by kernel_rfl)
    have e7 : tm.getD 7 undef = undef := hk 7 (by kernel_rfl)
    have e8 : tm.getD 8 undef = undef := hk 8 (by kernel_rfl)
    have e9 : tm.getD 9 undef = undef := hk 9 (by kernel_rfl)
    have e10 : tm.getD 10 undef = undef := hk 10 (by kernel_rfl)
    have e11 : tm.getD 11 undef = undef := hk 11 (by kernel_rfl)
    have e12 : tm.getD 12 undef = undef := hk 12 (by kernel_rfl)
    have e13 : tm.getD 13 undef = undef := hk 13 (by kernel_rfl)
    have e14 : tm.getD 14 undef = undef := hk 14 (by kernel_rfl)
    have e15 : tm.getD 15 undef = .pointer (some ⟨w.heap.size, 0, none⟩) := hk 15 (by kernel_rfl)
    have e16 : tm.getD 16 undef = .int .i64 6 := hk 16 (by kernel_rfl)
    have e17 : tm.getD 17 undef = .bool false := hk 17 (by kernel_rfl)
    have e18 : tm.getD 18 undef = .bool false := hk 18 (by kernel_rfl)
    have e19 : tm.getD 19 undef = undef := hk 19 (by kernel_rfl)
    have e20 : tm.getD 20 undef = undef := hk 20 (by kernel_rfl)
    have e21 : tm.getD 21 undef = undef := hk 21 (by kernel_rfl)
    have e22 : tm.getD 22 undef = undef := hk 22 (by kernel_rfl)
    have e23 : tm.getD 23 undef = undef := hk 23 (by kernel_rfl)
    have e24 : tm.getD 24 undef = undef := hk 24 (by kernel_rfl)
    have e25 : tm.getD 25 undef = undef := hk 25 (by kernel_rfl)
    have e26 : tm.getD 26 undef = undef := hk 26 (by kernel_rfl)
    have e27 : tm.getD 27 undef = undef := hk 27 (by kernel_rfl)
    have e28 : tm.getD 28 undef = undef := hk 28 (by kernel_rfl)
    have e29 : tm.getD 29 undef = undef := hk 29 (by kernel_rfl)
    have e30 : tm.getD 30 undef = undef := hk 30 (by kernel_rfl)
    have e31 : tm.getD 31 undef = undef := hk 31 (by kernel_rfl)
    have e32 : tm.getD 32 undef = undef := hk 32 (by kernel_rfl)
    have e33 : tm.getD 33 undef = undef := hk 33 (by kernel_rfl)
    have e34 : tm.getD 34 undef = undef := hk 34 (by kernel_rfl)
    have e35 : tm.getD 35 undef = undef := hk 35 (by kernel_rfl)
    have e36 : tm.getD 36 undef = .bool false := hk 36 (by kernel_rfl)
    have e37 : tm.getD 37 undef = .bool false := hk 37 (by kernel_rfl)
    have e38 : tm.getD 38 undef = undef := hk 38 (by kernel_rfl)
    have e39 : tm.getD 39 undef = undef := hk 39 (by kernel_rfl)
    have e40 : tm.getD 40 undef = undef := hk 40 (by kernel_rfl)
    have e41 : tm.getD 41 undef = undef := hk 41 (by kernel_rfl)
    have e42 : tm.getD 42 undef = undef := hk 42 (by kernel_rfl)
    have e43 : tm.getD 43 undef = undef := hk 43 (by kernel_rfl)
    have e44 : tm.getD 44 undef = undef := hk 44 (by kernel_rfl)
    have e45 : tm.getD 45 undef = undef := hk 45 (by kernel_rfl)
    have e46 : tm.getD 46 undef = undef := hk 46 (by kernel_rfl)
    have e47 : tm.getD 47 undef = undef := hk 47 (by kernel_rfl)
    have e48 : tm.getD 48 undef = undef := hk 48 (by kernel_rfl)
    have e49 : tm.getD 49 undef = undef := hk 49 (by kernel_rfl)
    have e50 : tm.getD 50 undef = undef := hk 50 (by kernel_rfl)
    have e51 : tm.getD 51 undef = .bool false := hk 51 (by kernel_rfl)
    have e52 : tm.getD 52 undef = .bool false := hk 52 (by kernel_rfl)
    have e53 : tm.getD 53 undef = undef := hk 53 (by kernel_rfl)
    have e54 : tm.getD 54 undef = undef := hk 54 (by kernel_rfl)
    have e55 : tm.getD 55 undef = undef := hk 55 (by kernel_rfl)
    have e56 : tm.getD 56 undef = undef := hk 56 (by kernel_rfl)
    have e57 : tm.getD 57 undef = undef := hk 57 (by kernel_rfl)
    have e58 : tm.getD 58 undef = undef := hk 58 (by kernel_rfl)
    have e59 : tm.getD 59 undef = undef := hk 59 (by kernel_rfl)
    have e60 : tm.getD 60 undef = undef := hk 60 (by kernel_rfl)
    have e61 : tm.getD 61 undef = undef := hk 61 (by kernel_rfl)
    have e62 : tm.getD 62 undef = undef := hk 62 (by kernel_rfl)
    have e63 : tm.getD 63 undef = undef := hk 63 (by kernel_rfl)
    have e64 : tm.getD 64 undef = undef := hk 64 (by kernel_rfl)
    have e65 : tm.getD 65 undef = undef := hk 65 (by kernel_rfl)
    have e66 : tm.getD 66 undef = undef := hk 66 (by kernel_rfl)
    have e67 : tm.getD 67 undef = undef := hk 67 (by kernel_rfl)
    have e68 : tm.getD 68 undef = undef := hk 68 (by kernel_rfl)
    have e69 : tm.getD 69 undef = undef := hk 69 (by kernel_rfl)
    have e70 : tm.getD 70 undef = undef := hk 70 (by kernel_rfl)
    have e71 : tm.getD 71 undef = undef := hk 71 (by kernel_rfl)
    have e72 : tm.getD 72 undef = undef := hk 72 (by kernel_rfl)
    have e73 : tm.getD 73 undef = undef := hk 73 (by kernel_rfl)
    have e74 : tm.getD 74 undef = undef := hk 74 (by kernel_rfl)
    have e75 : tm.getD 75 undef = undef := hk 75 (by kernel_rfl)
    have e76 : tm.getD 76 undef = undef := hk 76 (by kernel_rfl)
    have e77 : tm.getD 77 undef = undef := hk 77 (by kernel_rfl)
    have e78 : tm.getD 78 undef = undef := hk 78 (by kernel_rfl)
    have e79 : tm.getD 79 undef = .bool false := hk 79 (by kernel_rfl)
    have e80 : tm.getD 80 undef = .bool false := hk 80 (by kernel_rfl)
    have e81 : tm.getD 81 undef = undef := hk 81 (by kernel_rfl)
    have e82 : tm.getD 82 undef = undef := hk 82 (by kernel_rfl)
    have e83 : tm.getD 83 undef = undef := hk 83 (by kernel_rfl)
    have e84 : tm.getD 84 undef = undef := hk 84 (by kernel_rfl)
    have e85 : tm.getD 85 undef = undef := hk 85 (by kernel_rfl)
    have e86 : tm.getD 86 undef = undef := hk 86 (by kernel_rfl)
    have e87 : tm.getD 87 undef = undef := hk 87 (by kernel_rfl)
    have e88 : tm.getD 88 undef = undef := hk 88 (by kernel_rfl)
    have e89 : tm.getD 89 undef = undef := hk 89 (by kernel_rfl)
    have e90 : tm.getD 90 undef = undef := hk 90 (by kernel_rfl)
    have e91 : tm.getD 91 undef = undef := hk 91 (by kernel_rfl)
    have e92 : tm.getD 92 undef = undef := hk 92 (by kernel_rfl)
    have e93 : tm.getD 93 undef = undef := hk 93 (by kernel_rfl)
    have e94 : tm.getD 94 undef = undef := hk 94 (by kernel_rfl)
    have e95 : tm.getD 95 undef = undef := hk 95 (by kernel_rfl)
    have e96 : tm.getD 96 undef = undef := hk 96 (by kernel_rfl)
    have e97 : tm.getD 97 undef = undef := hk 97 (by kernel_rfl)
    have e98 : tm.getD 98 undef = undef := hk 98 (by kernel_rfl)
    have e99 : tm.getD 99 undef = undef := hk 99 (by kernel_rfl)
    have e100 : tm.getD 100 undef = undef := hk 100 (by kernel_rfl)
    have e101 : tm.getD 101 undef = undef := hk 101 (by kernel_rfl)
    have e102 : tm.getD 102 undef = undef := hk 102 (by kernel_rfl)
    have e103 : tm.getD 103 undef = .bool false := hk 103 (by kernel_rfl)
    have e104 : tm.getD 104 undef = .bool false := hk 104 (by kernel_rfl)
    have e105 : tm.getD 105 undef = undef := hk 105 (by kernel_rfl)
    have e106 : tm.getD 106 undef = undef := hk 106 (by kernel_rfl)
    have e107 : tm.getD 107 undef = undef := hk 107 (by kernel_rfl)
    have e108 : tm.getD 108 undef = undef := hk 108 (by kernel_rfl)
    have e109 : tm.getD 109 undef = undef := hk 109 (by kernel_rfl)
    have e110 : tm.getD 110 undef = undef := hk 110 (by kernel_rfl)
    have e111 : tm.getD 111 undef = undef := hk 111 (by kernel_rfl)
    have e112 : tm.getD 112 undef = undef := hk 112 (by kernel_rfl)
    have e113 : tm.getD 113 undef = undef := hk 113 (by kernel_rfl)
    have e114 : tm.getD 114 undef = .bool true := hk 114 (by kernel_rfl)
    have e115 : tm.getD 115 undef = .bool true := hk 115 (by kernel_rfl)
    have g116 : (tm.getD 116 undef) = pv rb := hG 0 116 (by decide) rfl
    have g117 : (tm.getD 117 undef) = .pointer (some ⟨w.heap.size, 1, none⟩) := hG 1 117 (by decide) rfl
    have g118 : (tm.getD 118 undef) = .int .i64 th := hG 2 118 (by decide) rfl
    have g119 : (tm.getD 119 undef) = .bool wb := hG 3 119 (by decide) rfl
    have g120 : (tm.getD 120 undef) = pv qb := hG 4 120 (by decide) rfl
    have g121 : (tm.getD 121 undef) = .pointer (some ⟨w.heap.size, 1, none⟩) := hG 5 121 (by decide) rfl
    have g122 : (tm.getD 122 undef) = .int .i64 th := hG 6 122 (by decide) rfl
    have g123 : (tm.getD 123 undef) = .bool wb := hG 7 123 (by decide) rfl
    have g124 : (tm.getD 124 undef) = .bool true := hG 8 124 (by decide) rfl
    have g6 : (tm.getD 6 undef) = .bool true := hG 9 6 (by decide) rfl
    have htm := arr_of tm ((pv rb : Value) :: (pv qb : Value) :: (.agg #[.int .i64 6, .int .i64 th, .int .i64 sg, .int .i64 of, .int .i64 cd] : Value) :: (undef : Value) :: (undef : Value) :: (.pointer (some ⟨w.heap.size, 0, none⟩) : Value) :: (tm.getD 6 undef : Value) :: (undef : Value) :: (undef : Value) :: (undef : Value) :: (undef : Value) :: (undef : Value) :: (undef : Value) :: (undef : Value) :: (undef : Value) :: (.pointer (some ⟨w.heap.size, 0, none⟩) : Value) :: (.int .i64 6 : Value) :: (.bool false : Value) :: (.bool false : Value) :: (undef : Value) :: (undef : Value) :: (undef : Value) :: (undef : Value) :: (undef : Value) :: (undef : Value) :: (undef : Value) :: (undef : Value) :: (undef : Value) :: (undef : Value) :: (undef : Value) :: (undef : Value) :: (undef : Value) :: (undef : Value) :: (undef : Value) :: (undef : Value) :: (undef : Value) :: (.bool false : Value) :: (.bool false : Value) :: (undef : Value) :: (undef : Value) :: (undef : Value) :: (undef : Value) :: (undef : Value) :: (undef : Value) :: (undef : Value) :: (undef : Value) :: (undef : Value) :: (undef : Value) :: (undef : Value) :: (undef : Value) :: (undef : Value) :: (.bool false : Value) :: (.bool false : Value) :: (undef : Value) :: (undef : Value) :: (undef : Value) :: (undef : Value) :: (undef : Value) :: (undef : Value) :: (undef : Value) :: (undef : Value) :: (undef : Value) :: (undef : Value) :: (undef : Value) :: (undef : Value) :: (undef : Value) :: (undef : Value) :: (undef : Value) :: (undef : Value) :: (undef : Value) :: (undef : Value) :: (undef : Value) :: (undef : Value) :: (undef : Value) :: (undef : Value) :: (undef : Value) :: (undef : Value) :: (undef : Value) :: (undef : Value) :: (.bool false : Value) :: (.bool false : Value) :: (undef : Value) :: (undef : Value) :: (undef : Value) :: (undef : Value) :: (undef : Value) :: (undef : Value) :: (undef : Value) :: (undef : Value) :: (undef : Value) :: (undef : Value) :: (undef : Value) :: (undef : Value) :: (undef : Value) :: (undef : Value) :: (undef : Value) :: (undef : Value) :: (undef : Value) :: (undef : Value) :: (undef : Value) :: (undef : Value) :: (undef : Value) :: (undef : Value) :: (.bool false : Value) :: (.bool false : Value) :: (undef : Value) :: (undef : Value) :: (undef : Value) :: (undef : Value) :: (undef : Value) :: (undef : Value) :: (undef : Value) :: (undef : Value) :: (undef : Value) :: (.bool true : Value) :: (.bool true : Value) :: (tm.getD 116 undef : Value) :: (tm.getD 117 undef : Value) :: (tm.getD 118 undef : Value) :: (tm.getD 119 undef : Value) :: (tm.getD 120 undef : Value) :: (tm.getD 121 undef : Value) :: (tm.getD 122 undef : Value) :: (tm.getD 123 undef : Value) :: (tm.getD 124 undef : Value) :: []) hs (by show (tm.getD 0 undef :: tm.getD 1 undef :: tm.getD 2 undef :: tm.getD 3 undef :: tm.getD 4 undef :: tm.getD 5 undef :: tm.getD 6 undef :: tm.getD 7 undef :: tm.getD 8 undef :: tm.getD 9 undef :: tm.getD 10 undef :: tm.getD 11 undef :: tm.getD 12 undef :: tm.getD 13 undef :: tm.getD 14 undef :: tm.getD 15 undef :: tm.getD 16 undef :: tm.getD 17 undef :: tm.getD 18 undef :: tm.getD 19 undef :: tm.getD 20 undef :: tm.getD 21 undef :: tm.getD 22 undef :: tm.getD 23 undef :: tm.getD 24 undef :: tm.getD 25 undef :: tm.getD 26 undef :: tm.getD 27 undef :: tm.getD 28 undef :: tm.getD 29 undef :: tm.getD 30 undef :: tm.getD 31 undef :: tm.getD 32 undef :: tm.getD 33 undef :: tm.getD 34 undef :: tm.getD 35 undef :: tm.getD 36 undef :: tm.getD 37 undef :: tm.getD 38 undef :: tm.getD 39 undef :: tm.getD 40 undef :: tm.getD 41 undef :: tm.getD 42 undef :: tm.getD 43 undef :: tm.getD 44 undef :: tm.getD 45 undef :: tm.getD 46 undef :: tm.getD 47 undef :: tm.getD 48 undef :: tm.getD 49 undef :: tm.getD 50 undef :: tm.getD 51 undef :: tm.getD 52 undef :: tm.getD 53 undef :: tm.getD 54 undef :: tm.getD 55 undef :: tm.getD 56 undef :: tm.getD 57 undef :: tm.getD 58 undef :: tm.getD 59 undef :: tm.getD 60 undef :: tm.getD 61 undef :: tm.getD 62 undef :: tm.getD 63 undef :: tm.getD 64 undef :: tm.getD 65 undef :: tm.getD 66 undef :: tm.getD 67 undef :: tm.getD 68 undef :: tm.getD 69 undef :: tm.getD 70 undef :: tm.getD 71 undef :: tm.getD 72 undef :: tm.getD 73 undef :: tm.getD 74 undef :: tm.getD 75 undef :: tm.getD 76 undef :: tm.getD 77 undef :: tm.getD 78 undef :: tm.getD 79 undef :: tm.getD 80 undef :: tm.getD 81 undef :: tm.getD 82 undef :: tm.getD 83 undef :: tm.getD 84 undef :: tm.getD 85 undef :: tm.getD 86 undef :: tm.getD 87 undef :: tm.getD 88 undef :: tm.getD 89 undef :: tm.getD 90 undef :: tm.getD 91 undef :: tm.getD 92 undef :: tm.getD 93 undef :: tm.getD 94 undef :: tm.getD 95 undef :: tm.getD 96 undef :: tm.getD 97 undef :: tm.getD 98 undef :: tm.getD 99 undef :: tm.getD 100 undef :: tm.getD 101 undef :: tm.getD 102 undef :: tm.getD 103 undef :: tm.getD 104 undef :: tm.getD 105 undef :: tm.getD 106 undef :: tm.getD 107 undef :: tm.getD 108 undef :: tm.getD 109 undef :: tm.getD 110 undef :: tm.getD 111 undef :: tm.getD 112 undef :: tm.getD 113 undef :: tm.getD 114 undef :: tm.getD 115 undef :: tm.getD 116 undef :: tm.getD 117 undef :: tm.getD 118 undef :: tm.getD 119 undef :: tm.getD 120 undef :: tm.getD 121 undef :: tm.getD 122 undef :: tm.getD 123 undef :: tm.getD 124 undef :: []) = _; rw [e0, e1, e2, e3, e4, e5, e7, e8, e9, e10, e11, e12, e13, e14, e15, e16, e17, e18, e19, e20, e21, e22, e23, e24, e25, e26, e27, e28, e29, e30, e31, e32, e33, e34, e35, e36, e37, e38, e39, e40, e41, e42, e43, e44, e45, e46, e47, e48, e49, e50, e51, e52, e53, e54, e55, e56, e57, e58, e59, e60, e61, e62, e63, e64, e65, e66, e67, e68, e69, e70, e71, e72, e73, e74, e75, e76, e77, e78, e79, e80, e81, e82, e83, e84, e85, e86, e87, e88, e89, e90, e91, e92, e93, e94, e95, e96, e97, e98, e99, e100, e101, e102, e103, e104, e105, e106, e107, e108, e109, e110, e111, e112, e113, e114, e115]; try rfl)
    clear hs hk hG e0 e1 e2 e3 e4 e5 e7 e8 e9 e10 e11 e12 e13 e14 e15 e16 e17 e18 e19 e20 e21 e22 e23 e24 e25 e26 e27 e28 e29 e30 e31 e32 e33 e34 e35 e36 e37 e38 e39 e40 e41 e42 e43 e44 e45 e46 e47 e48 e49 e50 e51 e52 e53 e54 e55 e56 e57 e58 e59 e60 e61 e62 e63 e64 e65 e66 e67 e68 e69 e70 e71 e72 e73 e74 e75 e76 e77 e78 e79 e80 e81 e82 e83 e84 e85 e86 e87 e88 e89 e90 e91 e92 e93 e94 e95 e96 e97 e98 e99 e100 e101 e102 e103 e104 e105 e106 e107 e108 e109 e110 e111 e112 e113 e114 e115
    generalize tm.getD 116 undef = t116 at htm g116
    generalize tm.getD 117 undef = t117 at htm g117
    generalize tm.getD 118 undef = t118 at htm g118
    generalize tm.getD 119 undef = t119 at htm g119
    generalize tm.getD 120 undef = t120 at htm g120
    generalize tm.getD 121 undef = t121 at htm g121
    generalize tm.getD 122 undef = t122 at htm g122
    generalize tm.getD 123 undef = t123 at htm g123
    generalize tm.getD 124 undef = t124 at htm g124
    generalize tm.getD 6 undef = t6 at htm g6
    subst htm
    subst g116
    subst g117
    subst g118
    subst g119
    subst g120
    subst g121
    subst g122
    subst g123
    subst g124
    subst g6
    have HJ := Lib.hid hJ
    clear hJ hB 
    go_wp2_with fail
    go_ret
    exact ⟨rfl, PJ.ns HH.out HB1.out HJ.out⟩
end Go.Proofs.Ythknnmllibdggaa
