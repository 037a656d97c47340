/- The law of a drawn region with one store, where the place that is filled may be an older slot's. -/
import Derived.Test.YtgldkmabhmlijaaGreatDoorPhase6
namespace Go.Proofs.YtgldkmabhmlijaaGreatDoor
open Go.RowKit Go.Sort
section
variable {P : Program}
/-- The law: the operation c stores, the others keep all that is older; J speaks of slot e0, which c waits for. -/
theorem wp_region_st2 {l : List Oper} {id : Nat} {Q : Exit → Act → World → Prop} {a : Act} {w : World} (f c x0 e0 : Nat) (R : World → World → Prop) (J : Act → World → Prop) (G : Nat → Value → World → Prop)
    (hm : P.follows .mixedOrders = true) (hback : backT l.toArray = true) (hdst : dstC l.toArray c a.tmps.size = true) (hneed : needB l.toArray f c x0 = true) (hx0 : (l[x0]?).bind (·.dst) = some e0) (hcl : c < l.length)
    (hRb : ∀ W W', Below W.heap.size W W' → R W W') (hRt : ∀ A B C, R A B → R B C → R A C)
    (hJ : ∀ a' d v W W', J a' W → d ≠ e0 → Below W.heap.size W W' → J (a'.put (some d) v) W')
    (hmono : ∀ k v W W', G k v W → R W W' → G k v W')
    (hstep : ∀ (a' : Act) (W : World), R w W → a'.tmps.size = a.tmps.size → (∀ k, (dsts l.toArray).contains k = false → a'.eval (.tmp k) = a.eval (.tmp k)) →
      ∀ (i : Nat) (o : Oper) (d : Nat), i ≠ c → l[i]? = some o → o.dst = some d →
      (∀ e ∈ o.after, Region.binds .any e = true → ∀ d', (l[e.on]?).bind (·.dst) = some d' → G d' (a'.eval (.tmp d')) W) →
      Region.wanted o (yielded l.toArray a'.tmps) = true ∧ ((∃ v W', (execOp a'.eval o).run P W = .ok (.value v) W' ∧ Below W.heap.size W W' ∧ G d v W') ∨
        (∃ f args, (execOp a'.eval o).run P W = .ok (.enter f args) W ∧ Calls P f args W fun e W' => ∃ v, e = .returned v ∧ Below W.heap.size W W' ∧ G d v W')))
    (hst : ∀ (a' : Act) (W : World), R w W → (∀ k, (dsts l.toArray).contains k = false → a'.eval (.tmp k) = a.eval (.tmp k)) → ∀ o, l[c]? = some o → (∀ e ∈ o.after, Region.binds .any e = true → ∀ d', (l[e.on]?).bind (·.dst) = some d' → G d' (a'.eval (.tmp d')) W) →
      Region.wanted o (yielded l.toArray a'.tmps) = true ∧ ∃ W', (execOp a'.eval o).run P W = .ok .skip W' ∧ R W W' ∧ J a' W')
    (hend : ∀ a' W, J a' W → R w W → a'.tmps.size = a.tmps.size → a'.defers = a.defers → (∀ k, (dsts l.toArray).contains k = false → a'.eval (.tmp k) = a.eval (.tmp k)) →
      (∀ (i d : Nat), i < l.length → (l[i]?).bind (·.dst) = some d → G d (a'.eval (.tmp d)) W) → Q .normal a' W) : (Code.region id l.toArray true).wp P Q a w := by
  refine wp_region_inv (fun li a' W => ClB l.toArray li ∧ li.size = l.length ∧ a'.tmps.size = a.tmps.size ∧ a'.defers = a.defers ∧ (∀ k, (dsts l.toArray).contains k = false → a'.eval (.tmp k) = a.eval (.tmp k)) ∧ R w W ∧ (∀ (i d : Nat), li.getD i false = true → (l[i]?).bind (·.dst) = some d → G d (a'.eval (.tmp d)) W) ∧ (li.getD c false = true → J a' W)) hm ?_ ?_ ?_
  · rintro li a' W i o ⟨hcb, hsz, hs, hdf, hk, hR, hG, hp⟩ hu ho hd
    have hlo : l[i]? = some o := by simpa using ho
    have hdeps : ∀ e ∈ o.after, Region.binds .any e = true → ∀ d', (l[e.on]?).bind (·.dst) = some d' → G d' (a'.eval (.tmp d')) W := fun e he hbd d' hd' => hG e.on d' (hd e he hbd) hd'
    by_cases hic : i = c
    · subst hic
      obtain ⟨hw, W', hr, hRW, hJW⟩ := hst a' W hR hk o hlo hdeps
      have hdn : o.dst = none := by
        have h := hdst
        unfold dstC at h
        rw [Bool.and_eq_true] at h
        have h2 := h.2
        rw [ho] at h2
        simpa using h2
      have hput : a'.put o.dst undef = a' := by rw [hdn]; rfl
      refine ⟨hw, .inr (.inl ⟨W', hr, hcb.set ho hd, by rw [Array.size_setIfInBounds]; exact hsz, by rw [hput]; exact hs, by rw [hput]; exact hdf, by rw [hput]; exact hk, hRt _ _ _ hR hRW, ?_, by rw [hput]; exact fun _ => hJW⟩)⟩
      intro j dj hj hdj
      rw [hput]
      by_cases hij : j = i
      · subst hij; rw [hlo] at hdj; rw [show (some o).bind (·.dst) = o.dst from rfl, hdn] at hdj; cases hdj
      · rw [getD_oneN hij] at hj
        exact hmono _ _ _ _ (hG j dj hj hdj) hRW
    · obtain ⟨d, hdo, hdn⟩ := dstC_of hdst ho hic
      obtain ⟨hw, h2⟩ := hstep a' W hR hs hk i o d hic hlo hdo hdeps
      have next : ∀ (v : Value) (W' : World), Below W.heap.size W W' → G d v W' →
          ClB l.toArray (li.setIfInBounds i true) ∧ (li.setIfInBounds i true).size = l.length ∧ (a'.put o.dst v).tmps.size = a.tmps.size ∧ (a'.put o.dst v).defers = a.defers ∧ (∀ k, (dsts l.toArray).contains k = false → (a'.put o.dst v).eval (.tmp k) = a.eval (.tmp k)) ∧ R w W' ∧ (∀ (j dj : Nat), (li.setIfInBounds i true).getD j false = true → (l[j]?).bind (·.dst) = some dj → G dj ((a'.put o.dst v).eval (.tmp dj)) W') ∧ ((li.setIfInBounds i true).getD c false = true → J (a'.put o.dst v) W') := by
        intro v W' hb hv
        rw [hdo]
        refine ⟨hcb.set ho hd, by rw [Array.size_setIfInBounds]; exact hsz, by simp only [Act.put]; rw [Array.size_setIfInBounds]; exact hs, by simp only [Act.put]; exact hdf, ?_, hRt _ _ _ hR (hRb _ _ hb), ?_, ?_⟩
        · intro k hkn
          rw [put_ne a' v (fun e => by rw [e, List.contains_iff_mem.2 (mem_dsts ho hdo)] at hkn; cases hkn)]
          exact hk k hkn
        · intro j dj hj hdj
          by_cases hij : j = i
          · subst hij
            rw [hlo] at hdj
            have : d = dj := Option.some.inj (hdo.symm.trans hdj)
            subst this
            rw [put_eq a' v (by rw [hs]; exact hdn)]
            exact hv
          · rw [getD_oneN hij] at hj
            have hne : dj ≠ d := by
              intro e
              subst e
              cases hoj : l[j]? with
              | none => rw [hoj] at hdj; cases hdj
              | some o' =>
                rw [hoj] at hdj
                exact hij (dstC_inj hdst (show l.toArray[j]? = some o' from by simpa using hoj) ho hdj hdo)
            rw [put_ne a' v hne]
            exact hmono _ _ _ _ (hG j dj hj hdj) (hRb _ _ hb)
        · intro hcd
          rw [getD_oneN (Ne.symm hic)] at hcd
          have hco : ∃ oc, l.toArray[c]? = some oc := ⟨l[c], by simp [hcl]⟩
          obtain ⟨oc, hoc⟩ := hco
          have hx := need_done hcb f c x0 oc hoc (hcb c oc hoc hcd) hneed
          refine hJ a' d v W W' (hp hcd) (fun e => ?_) hb
          subst e
          have hix : i = x0 := by
            cases hox : l[x0]? with
            | none => rw [hox] at hx0; cases hx0
            | some o' =>
              rw [hox] at hx0
              exact dstC_inj hdst ho (show l.toArray[x0]? = some o' from by simpa using hox) hdo hx0
          subst hix
          rw [getD_one hu] at hx
          cases hx
      refine ⟨hw, ?_⟩
      rcases h2 with ⟨v, W', hr, hb, hv⟩ | ⟨f', args, hr, hc⟩
      · exact .inl ⟨v, W', hr, next v W' hb hv⟩
      · exact .inr (.inr ⟨f', args, hr, hc.mono fun e W' ⟨v, he, hb, hv⟩ => ⟨v, he, next v W' hb hv⟩⟩)
  · rintro li a' W ⟨hcb, hsz, hs, hdf, hk, hR, hG, hp⟩ he
    have hall : ∀ j, j < l.length → li.getD j false = true := fun j hj => ready_nil_allT hback (by simpa using hsz) he j j (Nat.le_refl _) (by simpa using hj)
    exact hend a' W (hp (hall c hcl)) hR hs hdf hk (fun i d hi hd => hG i d (hall i hi) hd)
  · have h0 : ∀ i, (Array.replicate l.toArray.size false).getD i false = false := fun i => by
      rw [Array.getD_eq_getD_getElem?, Array.getElem?_replicate]; split <;> rfl
    refine ⟨?_, by simp, rfl, rfl, fun _ _ => rfl, hRb _ _ ((Below.refl w.heap.size w).drew), ?_, ?_⟩
    · intro i o _ hi; rw [h0] at hi; cases hi
    · intro i d hi; rw [h0] at hi; cases hi
    · intro hi; rw [h0] at hi; cases hi
end
end Go.Proofs.YtgldkmabhmlijaaGreatDoor
