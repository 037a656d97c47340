/- The same law, with what holds ahead of the change and behind it. -/
import Derived.Test.YtebcnlhgkpaghaaMonoT
namespace Go.Proofs.Ytebcnlhgkpaghaa
open Go.RowKit Go.Sort
section
variable {P : Program} {ops : Array Oper}
/-- The law: the first n operations keep all that is older, but for one, c; the others come in one order. -/
theorem wp_region_monoD {l : List Oper} {id : Nat} {Q : Exit → Act → World → Prop} {a : Act} {w : World} (f0 n c : Nat) (R : Bool → World → Prop) (G : Bool → Nat → Value → World → Prop)
    (hm : P.follows .mixedOrders = true) (hback : backB l.toArray = true) (hdst : dstB (l.take n).toArray a.tmps.size = true) (htail : tailT l.toArray f0 n = true) (hn : n ≤ l.length)
    (hseq : Region.seqB .any l.toArray (l.length - n) n (List.replicate n true ++ List.replicate (l.length - n) false).toArray = true)
    (hcn : c < n) (hRb : ∀ b A B, R b A → Below A.heap.size A B → R b B) (hR0 : R false { w with drawn := w.drawn + 1 })
    (hmono : ∀ b k v W W', G b k v W → Below W.heap.size W W' → G b k v W')
    (hstep : ∀ (a' : Act) (W : World) (b : Bool), R b W → a'.tmps.size = a.tmps.size → (∀ k, (dsts (l.take n).toArray).contains k = false → a'.eval (.tmp k) = a.eval (.tmp k)) →
      ∀ (i : Nat) (o : Oper) (d : Nat), (l.take n)[i]? = some o → o.dst = some d → (i = c ∨ needB l.toArray f0 c i = true → b = false) →
      (∀ e ∈ o.after, Region.binds .any e = true → ∀ d', (l[e.on]?).bind (·.dst) = some d' → G b d' (a'.eval (.tmp d')) W) →
      (Region.wanted o (yielded l.toArray a'.tmps) = false ∧ i ≠ c ∧ G b d undef W) ∨
      (Region.wanted o (yielded l.toArray a'.tmps) = true ∧ ((∃ v W', (execOp a'.eval o).run P W = .ok (.value v) W' ∧ ((i ≠ c ∧ Below W.heap.size W W' ∧ G b d v W') ∨ (i = c ∧ R true W' ∧ G true d v W' ∧ ∀ k u, k ≠ d → G false k u W → G true k u W'))) ∨
        (∃ f args, (execOp a'.eval o).run P W = .ok (.enter f args) W ∧ Calls P f args W fun e W' => ∃ v, e = .returned v ∧ i ≠ c ∧ Below W.heap.size W W' ∧ G b d v W'))))
    (hend : ∀ a' W, R true W → a'.tmps.size = a.tmps.size → a'.defers = a.defers → (∀ k, (dsts (l.take n).toArray).contains k = false → a'.eval (.tmp k) = a.eval (.tmp k)) →
      (∀ (i d : Nat), i < n → (l[i]?).bind (·.dst) = some d → G true d (a'.eval (.tmp d)) W) → wpList P l.toArray Q (l.drop n) a' W) : (Code.region id l.toArray true).wp P Q a w := by
  refine wp_region_any hm ?_
  have main : ∀ (f : Nat) (li : Array Bool) (a' : Act) (W : World), ClB l.toArray li → (li.toList.take n).count false = f → li.size = l.length → li.toList.drop n = List.replicate (l.length - n) false → R (li.getD c false) W → a'.tmps.size = a.tmps.size → a'.defers = a.defers → (∀ k, (dsts (l.take n).toArray).contains k = false → a'.eval (.tmp k) = a.eval (.tmp k)) →
      (∀ (i d : Nat), i < n → li.getD i false = true → (l[i]?).bind (·.dst) = some d → G (li.getD c false) d (a'.eval (.tmp d)) W) → wpAny P .any l.toArray Q (f + (l.length - n)) li a' W := by
    intro f
    induction f with
    | zero =>
      intro li a' W hcl hc hsz ht hB hs hdf hk hG
      have hall : ∀ i, i < n → li.getD i false = true := fun i hi => by
        have hlt : i < li.toList.length := by simp; omega
        have h1 : ¬ false ∈ li.toList.take n := by rw [← List.count_pos_iff]; omega
        have h2 : li.toList[i] ∈ li.toList.take n := List.mem_take_iff_getElem.2 ⟨i, by omega, rfl⟩
        have h3 : li.toList[i] = true := by
          cases hx : li.toList[i] with
          | true => rfl
          | false => rw [hx] at h2; exact absurd h2 h1
        rw [Array.getD_eq_getD_getElem?, ← Array.getElem?_toList, List.getElem?_eq_getElem hlt, h3]; rfl
      have hli : li = (List.replicate n true ++ List.replicate (l.length - n) false).toArray := by
        apply Array.toList_inj.1
        rw [← List.take_append_drop n li.toList, ht]
        congr 1
        apply List.ext_getElem (by simp; omega)
        intro i h1 h2
        simp only [List.getElem_take, List.getElem_replicate]
        have hi : i < n := by simp at h2; exact h2
        have := hall i hi
        have hlt : i < li.size := by omega
        rw [Array.getD_eq_getD_getElem?, Array.getElem?_eq_getElem hlt] at this
        simpa using this
      have hcc := hall c hcn
      rw [hcc] at hG hB
      have hw := hend a' W hB hs hdf hk fun i d hi hd => hG i d hi (hall i hi) hd
      have := wpAny_of_seq (P := P) (ops := l.toArray) (md := .any) (Q' := Q) (l.drop n) n li a' W (fun j => by simp [List.getElem?_drop]) (by rw [hli, List.length_drop]; exact hseq) hw
      rw [List.length_drop] at this
      rw [Nat.zero_add]
      exact this
    | succ f ih =>
      intro li a' W hcl hc hsz ht hB hs hdf hk hG
      rw [Nat.succ_add]
      have hnot : ¬ ∀ j, j < n → li.getD j false = true := by
        intro hall
        have hp : 0 < (li.toList.take n).count false := by omega
        have h2 := List.count_pos_iff.1 hp
        obtain ⟨i, hi, he⟩ := List.mem_take_iff_getElem.1 h2
        have hin : i < n := by omega
        have hil : i < li.toList.length := by omega
        have := hall i hin
        rw [Array.getD_eq_getD_getElem?, ← Array.getElem?_toList, List.getElem?_eq_getElem hil, he] at this
        cases this
      refine ⟨fun he => ?_, fun i hi => ?_⟩
      · exact absurd (fun j hj => ready_nil_all hback (by simpa using hsz) he j j (Nat.le_refl _) (by simp; omega)) hnot
      · obtain ⟨hu, o, ho, hd⟩ := mem_ready.1 hi
        have hin : i < n := Nat.lt_of_not_le fun h => hnot (tail_allT htail ho h hcl hd)
        have ho' : (l.take n)[i]? = some o := by rw [List.getElem?_take_of_lt hin]; simpa using ho
        have hoa : (l.take n).toArray[i]? = some o := by simpa using ho'
        obtain ⟨d, hdo, hdn⟩ := dst_of hdst hoa
        have hl : li.toList[i]? = some false := by
          rw [Array.getD_eq_getD_getElem?] at hu
          rw [Array.getElem?_toList]
          cases hx : li[i]? with
          | none => rw [hx] at hu; cases hu
          | some b => rw [hx] at hu; simpa using hu
        have hci : i = c → li.getD c false = false := fun e => by
          subst e
          rw [Array.getD_eq_getD_getElem?, ← Array.getElem?_toList, hl]; rfl
        have hcj : i = c ∨ needB l.toArray f0 c i = true → li.getD c false = false := fun e => by
          rcases e with e | e
          · exact hci e
          · cases hx : li.getD c false with
            | false => rfl
            | true =>
              have hoc : ∃ oc, l.toArray[c]? = some oc := ⟨l[c]'(by omega), by simp⟩
              obtain ⟨oc, hoc⟩ := hoc
              have := need_done hcl f0 c i oc hoc (hcl c oc hoc hx) e
              rw [Array.getD_eq_getD_getElem?, ← Array.getElem?_toList, hl] at this
              cases this
        have next : ∀ (v : Value) (W' : World) (b' : Bool), (li.setIfInBounds i true).getD c false = b' → R b' W' → (∀ k u, k ≠ d → G (li.getD c false) k u W → G b' k u W') → G b' d v W' → wpAny P .any l.toArray Q (f + (l.length - n)) (li.setIfInBounds i true) (a'.put o.dst v) W' := by
          intro v W' b' hb' hRW hcv hv
          rw [hdo]
          refine ih _ _ _ (hcl.set ho hd) ?_ (by rw [Array.size_setIfInBounds]; exact hsz) ?_ (by rw [hb']; exact hRW) (by simp only [Act.put]; rw [Array.size_setIfInBounds]; exact hs) (by simp only [Act.put]; exact hdf) ?_ ?_
          · have := cnt_take li.toList n i hin hl
            rw [Array.toList_setIfInBounds]; omega
          · rw [Array.toList_setIfInBounds, List.drop_set_of_lt hin]; exact ht
          · intro k hkn
            rw [put_ne a' v (fun e => by rw [e, List.contains_iff_mem.2 (mem_dsts hoa hdo)] at hkn; cases hkn)]
            exact hk k hkn
          · intro j dj hjn hj hdj
            rw [hb']
            by_cases hij : j = i
            · subst hij
              rw [show l[j]? = some o from by simpa using ho] at hdj
              have : d = dj := Option.some.inj (hdo.symm.trans hdj)
              subst this
              rw [put_eq a' v (by rw [hs]; exact hdn)]
              exact hv
            · have hj' : li.getD j false = true := by
                rw [Array.getD_eq_getD_getElem?, Array.getElem?_setIfInBounds_ne (Ne.symm hij)] at hj
                rw [Array.getD_eq_getD_getElem?]; exact hj
              have hne : dj ≠ d := by
                intro e
                subst e
                cases hoj : l[j]? with
                | none => rw [hoj] at hdj; cases hdj
                | some o' =>
                  rw [hoj] at hdj
                  exact hij (dst_inj hdst (show (l.take n).toArray[j]? = some o' from by simp [List.getElem?_take_of_lt hjn, hoj]) hoa hdj hdo)
              rw [put_ne a' v hne]
              exact hcv _ _ hne (hG j dj hjn hj' hdj)
        have keepB : i ≠ c → (li.setIfInBounds i true).getD c false = li.getD c false := fun hne => by
          rw [Array.getD_eq_getD_getElem?, Array.getElem?_setIfInBounds_ne hne, ← Array.getD_eq_getD_getElem?]
        have setB : i = c → (li.setIfInBounds i true).getD c false = true := fun e => by
          subst e
          have hlt : i < li.size := by have := (Array.getElem?_eq_some_iff.1 ho).1; simp at this; omega
          rw [Array.getD_eq_getD_getElem?, Array.getElem?_setIfInBounds_self_of_lt hlt]; rfl
        unfold wpOp
        rw [ho]
        simp only
        have hdeps : ∀ e ∈ o.after, Region.binds .any e = true → ∀ d', (l[e.on]?).bind (·.dst) = some d' → G (li.getD c false) d' (a'.eval (.tmp d')) W := by
          intro e he hbd d' hd'
          have hlt : e.on < i := by
            have h1 := List.all_eq_true.1 hback i (List.mem_range.2 (Array.getElem?_eq_some_iff.1 ho).1)
            rw [ho] at h1
            have := Array.all_eq_true_iff_forall_mem.1 h1 e he
            simpa using this
          exact hG e.on d' (by omega) (hd e he hbd) hd'
        rcases hstep a' W _ hB hs hk i o d ho' hdo hcj hdeps with ⟨hw, hne, hg⟩ | ⟨hw, h2⟩
        · simp only [hw, Bool.false_eq_true, if_false]
          exact next undef W _ (keepB hne) hB (fun _ _ _ h => h) hg
        · simp only [hw, if_true]
          refine .inl ?_
          unfold Oper.wp
          rcases h2 with ⟨v, w', hr, hb⟩ | ⟨f', args, hr, hc'⟩
          · rw [hr]
            rcases hb with ⟨hne, hb, hI⟩ | ⟨he, hRW, hI, hcv⟩
            · exact next v w' _ (keepB hne) (hRb _ _ _ hB hb) (fun k u _ h => hmono _ k u _ _ h hb) hI
            · exact next v w' true (setB he) hRW (fun k u hne h => hcv k u hne (by rw [hci he] at h; exact h)) hI
          · rw [hr]
            exact hc'.mono fun e w'' ⟨v, he, hne, hb, hI⟩ => by subst he; exact next v w'' _ (keepB hne) (hRb _ _ _ hB hb) (fun k u _ h => hmono _ k u _ _ h hb) hI
  have h0 : ((Array.replicate l.toArray.size false).toList.take n).count false = n := by simp [List.take_replicate]; omega
  have := main n (Array.replicate l.toArray.size false) a { w with drawn := w.drawn + 1 } (fun i o _ hi => by rw [Array.getD_eq_getD_getElem?, Array.getElem?_replicate] at hi; split at hi <;> simp at hi) h0 (by simp) (by simp) (by rw [show (Array.replicate l.toArray.size false).getD c false = false from by rw [Array.getD_eq_getD_getElem?, Array.getElem?_replicate]; split <;> rfl]; exact hR0) rfl rfl (fun _ _ => rfl) (by
    intro i d _ hi
    rw [Array.getD_eq_getD_getElem?, Array.getElem?_replicate] at hi
    split at hi <;> simp at hi)
  rw [show n + (l.length - n) = l.toArray.size from by simp; omega] at this
  exact this
end
end Go.Proofs.Ytebcnlhgkpaghaa
