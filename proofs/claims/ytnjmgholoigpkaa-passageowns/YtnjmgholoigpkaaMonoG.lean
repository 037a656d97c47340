/- The same law, where an edge that binds nobody may point ahead. -/
import Derived.Test.YtnjmgholoigpkaaMono
namespace Go.Proofs.Ytnjmgholoigpkaa
open Go.RowKit Go.Sort
def backC (ops : Array Oper) : Bool := (List.range ops.size).all fun i => match ops[i]? with | some o => o.after.all (fun e => decide (e.on < i) || !Region.binds .any e) | none => true
theorem wp_region_monoG {P : Program} {l : List Oper} {id : Nat} {Q : Exit → Act → World → Prop} {a : Act} {w : World} (n : Nat) (G : Nat → Value → World → Prop)
    (hback : backC l.toArray = true) (hdst : dstB (l.take n).toArray a.tmps.size = true) (hn : n ≤ l.length)
    (hmono : ∀ k v W W', G k v W → Below W.heap.size W W' → G k v W')
    (hstep : ∀ (a' : Act) (W : World), Below w.heap.size w W → a'.tmps.size = a.tmps.size → (∀ k, (dsts (l.take n).toArray).contains k = false → a'.eval (.tmp k) = a.eval (.tmp k)) →
      ∀ (i : Nat) (o : Oper) (d : Nat), (l.take n)[i]? = some o → o.dst = some d →
      (∀ e ∈ o.after, Region.binds .any e = true → ∀ d', (l[e.on]?).bind (·.dst) = some d' → G d' (a'.eval (.tmp d')) W) →
      (Region.wanted o (yielded l.toArray a'.tmps) = false ∧ G d undef W) ∨
      (Region.wanted o (yielded l.toArray a'.tmps) = true ∧ ((∃ v W', (execOp a'.eval o).run P W = .ok (.value v) W' ∧ Below W.heap.size W W' ∧ G d v W') ∨
        (∃ f args, (execOp a'.eval o).run P W = .ok (.enter f args) W ∧ Calls P f args W fun e W' => ∃ v, e = .returned v ∧ Below W.heap.size W W' ∧ G d v W'))))
    (hend : ∀ a' W, Below w.heap.size w W → a'.tmps.size = a.tmps.size → a'.defers = a.defers → (∀ k, (dsts (l.take n).toArray).contains k = false → a'.eval (.tmp k) = a.eval (.tmp k)) →
      (∀ (i d : Nat), i < n → (l[i]?).bind (·.dst) = some d → G d (a'.eval (.tmp d)) W) → wpList P l.toArray Q (l.drop n) a' W) : (Code.region id l.toArray false).wp P Q a w := by
  refine wp_region_list ?_
  have main : ∀ (f i : Nat) (a' : Act) (W : World), i + f = n → Below w.heap.size w W → a'.tmps.size = a.tmps.size → a'.defers = a.defers → (∀ k, (dsts (l.take n).toArray).contains k = false → a'.eval (.tmp k) = a.eval (.tmp k)) →
      (∀ (j d : Nat), j < i → (l[j]?).bind (·.dst) = some d → G d (a'.eval (.tmp d)) W) → wpList P l.toArray Q (l.drop i) a' W := by
    intro f
    induction f with
    | zero =>
      intro i a' W hi hB hs hdf hk hG
      obtain rfl : i = n := by omega
      exact hend a' W hB hs hdf hk hG
    | succ f ih =>
      intro i a' W hi hB hs hdf hk hG
      have hin : i < n := by omega
      have hil : i < l.length := by omega
      have ho : l[i]? = some l[i] := List.getElem?_eq_getElem hil
      rw [List.drop_eq_getElem_cons hil]
      generalize l[i] = o at ho ⊢
      have ho' : (l.take n)[i]? = some o := by rw [List.getElem?_take_of_lt hin]; exact ho
      have hoa : (l.take n).toArray[i]? = some o := by simpa using ho'
      obtain ⟨d, hdo, hdn⟩ := dst_of hdst hoa
      have next : ∀ (v : Value) (W' : World), Below W.heap.size W W' → G d v W' → wpList P l.toArray Q (l.drop (i + 1)) (a'.put o.dst v) W' := by
        intro v W' hb hv
        rw [hdo]
        refine ih (i + 1) _ _ (by omega) (hB.trans (hb.mono hB.size)) (by simp only [Act.put]; rw [Array.size_setIfInBounds]; exact hs) (by simp only [Act.put]; exact hdf) ?_ ?_
        · intro k hkn
          rw [put_ne a' v (fun e => by rw [e, List.contains_iff_mem.2 (mem_dsts hoa hdo)] at hkn; cases hkn)]
          exact hk k hkn
        · intro j dj hj hdj
          by_cases hij : j = i
          · subst hij
            rw [ho] at hdj
            have : d = dj := Option.some.inj (hdo.symm.trans hdj)
            subst this
            rw [put_eq a' v (by rw [hs]; exact hdn)]
            exact hv
          · have hji : j < i := by omega
            have hne : dj ≠ d := by
              intro e
              subst e
              cases hoj : l[j]? with
              | none => rw [hoj] at hdj; cases hdj
              | some o' =>
                rw [hoj] at hdj
                exact hij (dst_inj hdst (show (l.take n).toArray[j]? = some o' from by simp [List.getElem?_take_of_lt (show j < n by omega), hoj]) hoa hdj hdo)
            rw [put_ne a' v hne]
            exact hmono _ _ _ _ (hG j dj hji hdj) hb
      have hdeps : ∀ e ∈ o.after, Region.binds .any e = true → ∀ d', (l[e.on]?).bind (·.dst) = some d' → G d' (a'.eval (.tmp d')) W := by
        intro e he hbd d' hd'
        have hlt : e.on < i := by
          have h1 := List.all_eq_true.1 hback i (List.mem_range.2 (by simpa using hil))
          rw [show l.toArray[i]? = some o from by simpa using ho] at h1
          have := Array.all_eq_true_iff_forall_mem.1 h1 e he
          rw [hbd] at this
          simpa using this
        exact hG e.on d' hlt hd'
      unfold wpList
      rcases hstep a' W hB hs hk i o d ho' hdo hdeps with ⟨hw, hg⟩ | ⟨hw, h2⟩
      · simp only [hw, Bool.false_eq_true, if_false]
        exact next undef W (Below.refl _ _) hg
      · simp only [hw, if_true]
        refine .inl ?_
        unfold Oper.wp
        rcases h2 with ⟨v, w', hr, hb, hI⟩ | ⟨f', args, hr, hc'⟩
        · rw [hr]; exact next v w' hb hI
        · rw [hr]
          exact hc'.mono fun e w'' ⟨v, he, hb, hI⟩ => by subst he; exact next v w'' hb hI
  exact main n 0 a w (by omega) (Below.refl _ _) rfl rfl (fun _ _ => rfl) (fun j d hj => absurd hj (by omega))
end Go.Proofs.Ytnjmgholoigpkaa
