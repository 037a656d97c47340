/- A row of tests joined by '&&' that has failed: what is left of the region only hands the false on. -/
import Derived.Test.YtonhdkldacghoaaRSame
namespace Go.Proofs.Ytonhdkldacghoaa
open Go.RowKit Go.Sort

/-- What is left of such a region, from a slot that holds false on. -/
def chainB (ops : Array Oper) (n : Nat) : Tmp → List Oper → Tmp → Bool
  | _, [], _ => false
  | t, o :: rest, fin =>
    match o.guard, o.dst with
    | some (j, true), some d => ((ops[j]?).bind (·.dst) == some t) && (d != t) && chainB ops n t rest fin
    | none, some d => match o.op with
      | .pick (.tmp c) _ (.const (.bool false)) => ((c == t) && decide (d < n)) && chainB ops n d rest fin
      | .move (.tmp c) => ((c == t) && decide (d < n)) && chainB ops n d rest fin
      | .assign (.tmp c) => ((c == t) && decide (d < n)) && ((d == fin) && rest.isEmpty)
      | _ => false
    | _, _ => false
theorem put_same {a : Act} {d : Tmp} {v : Value} (h : d < a.tmps.size) : (a.put (some d) v).tmps[d]? = some v := by
  simp [Act.put, h]
theorem put_ne {a : Act} {d t : Tmp} {v : Value} (h : d ≠ t) : (a.put (some d) v).tmps[t]? = a.tmps[t]? := by
  simp [Act.put, h]
theorem put_size {a : Act} {d : Option Tmp} {v : Value} : (a.put d v).tmps.size = a.tmps.size := by
  cases d <;> simp [Act.put]
theorem put_defers {a : Act} {d : Option Tmp} {v : Value} : (a.put d v).defers = a.defers := by
  cases d <;> simp [Act.put]
theorem eval_at {a : Act} {t : Tmp} {v : Value} (h : a.tmps[t]? = some v) : a.eval (.tmp t) = v := by
  simp [Act.eval, h]
theorem chain_false {P : Program} {ops : Array Oper} {Q : Exit → Act → World → Prop} {n : Nat} {fin : Tmp} {w : World} : ∀ (rest : List Oper) (t : Tmp) (a : Act), chainB ops n t rest fin = true → a.tmps.size = n → a.tmps[t]? = some (.bool false) →
    (∀ a' : Act, a'.tmps[fin]? = some (.bool false) → a'.defers = a.defers → Q .normal a' w) → wpList P ops Q rest a w
  | [], _, _, h, _, _, _ => by simp [chainB] at h
  | o :: rest, t, a, h, hs, hf, hQ => by
    have hs' : ∀ v, (a.put o.dst v).tmps.size = n := fun v => by rw [put_size]; exact hs
    have hQ' : ∀ v, ∀ a' : Act, a'.tmps[fin]? = some (.bool false) → a'.defers = (a.put o.dst v).defers → Q .normal a' w := fun v a' h1 h2 => hQ a' h1 (by rw [h2, put_defers])
    unfold chainB at h
    split at h
    · next j d hg hd =>
      simp only [Bool.and_eq_true, beq_iff_eq, bne_iff_ne, ne_eq] at h
      obtain ⟨⟨h1, h2⟩, h3⟩ := h
      have hw : Region.wanted o (yielded ops a.tmps) = false := by
        unfold Region.wanted yielded
        simp only [hg, h1, Option.bind_some, hf]
        rfl
      unfold wpList
      rw [hw]
      simp only [Bool.false_eq_true, if_false]
      refine chain_false rest t _ h3 (hs' _) ?_ (hQ' _)
      rw [hd, put_ne h2]; exact hf
    · next d hg hd =>
      split at h
      · next c x hop =>
        simp only [Bool.and_eq_true, beq_iff_eq, decide_eq_true_eq] at h
        obtain ⟨⟨rfl, hdn⟩, h3⟩ := h
        have hdl : d < a.tmps.size := by rw [hs]; exact hdn
        refine wpList_plain hg fun K hK => ?_
        unfold Oper.wp
        have hrun : (execOp a.eval o).run P w = .ok (.value (.bool false)) w := by
          unfold execOp
          simp only [hop, eval_at hf]
          simp [Act.eval, asBool]
        rw [hrun, Oper.upon_value]
        refine hK _ _ (chain_false rest d _ h3 (hs' _) ?_ (hQ' _))
        rw [hd]; exact put_same hdl
      · next c hop =>
        simp only [Bool.and_eq_true, beq_iff_eq, decide_eq_true_eq] at h
        obtain ⟨⟨rfl, hdn⟩, h3⟩ := h
        have hdl : d < a.tmps.size := by rw [hs]; exact hdn
        refine wpList_plain hg fun K hK => ?_
        unfold Oper.wp
        have hrun : (execOp a.eval o).run P w = .ok (.value (.bool false)) w := by
          unfold execOp
          simp only [hop, eval_at hf]
          rfl
        rw [hrun, Oper.upon_value]
        refine hK _ _ (chain_false rest d _ h3 (hs' _) ?_ (hQ' _))
        rw [hd]; exact put_same hdl
      · next c hop =>
        simp only [Bool.and_eq_true, beq_iff_eq, decide_eq_true_eq] at h
        obtain ⟨⟨rfl, hdn⟩, rfl, h3⟩ := h
        have hdl : d < a.tmps.size := by rw [hs]; exact hdn
        have hr : rest = [] := by simpa using h3
        subst hr
        refine wpList_plain hg fun K hK => ?_
        unfold Oper.wp
        have hrun : (execOp a.eval o).run P w = .ok (.value (.bool false)) w := by
          unfold execOp
          simp only [hop, eval_at hf]
          rfl
        rw [hrun, Oper.upon_value]
        refine hK _ _ ?_
        unfold wpList
        refine hQ _ ?_ put_defers
        rw [hd]; exact put_same hdl
      · cases h
    · cases h
/-- The same from the test itself on, where all ahead of it were true. -/
theorem chain_pick {P : Program} {ops : Array Oper} {Q : Exit → Act → World → Prop} {n : Nat} {fin : Tmp} {w : World} {o : Oper} {rest : List Oper} {a : Act} (p t d : Tmp) (hg : o.guard = none) (hd : o.dst = some d) (hop : o.op = .pick (.tmp p) (.tmp t) (.const (.bool false)))
    (hp : a.eval (.tmp p) = .bool true) (ht : a.eval (.tmp t) = .bool false) (hn : a.tmps.size = n) (hdn : d < n) (h : chainB ops n d rest fin = true)
    (hQ : ∀ a' : Act, a'.tmps[fin]? = some (.bool false) → a'.defers = a.defers → Q .normal a' w) : wpList P ops Q (o :: rest) a w := by
  refine wpList_plain hg fun K hK => ?_
  unfold Oper.wp
  have hrun : (execOp a.eval o).run P w = .ok (.value (.bool false)) w := by
    unfold execOp
    simp only [hop, hp, ht]
    simp [asBool]
  rw [hrun, Oper.upon_value]
  refine hK _ _ (chain_false rest d _ h (by rw [put_size]; exact hn) ?_ (fun a' h1 h2 => hQ a' h1 (by rw [h2, put_defers])))
  rw [hd]; exact put_same (by rw [hn]; exact hdn)
theorem eqlS_run {P : Program} {ρ : Operand → Value} {o : Oper} {t : TypeId} {x y : Operand} (ho : o.op = .binOp .eql t x y t) {u v : ByteArray} (hx : ρ x = .string u) (hy : ρ y = .string v) {w : World} : (execOp ρ o).run P w = .ok (.value (.bool (u.toList == v.toList))) w := by
  unfold execOp
  simp only [ho, hx, hy]
  simp [go_sem]
theorem eqlI_run {P : Program} {ρ : Operand → Value} {o : Oper} {t : TypeId} {x y : Operand} (ho : o.op = .binOp .eql t x y t) {k : IntKind} {u v : Int} (hx : ρ x = .int k u) (hy : ρ y = .int k v) {w : World} : (execOp ρ o).run P w = .ok (.value (.bool (u == v))) w := by
  unfold execOp
  simp only [ho, hx, hy]
  simp [go_sem]
section
variable {ops : Array Oper} {rest : List Oper} {o : Oper} {a : Act} {w : World} {Q : Exit → Act → World → Prop}
theorem wpList_eqlS (t : TypeId) (x y : Operand) (ho : o.op = .binOp .eql t x y t) (hw : Region.wanted o (yielded ops a.tmps) = true) (u v : ByteArray) (hx : a.eval x = .string u) (hy : a.eval y = .string v) (b : Bool) (hb : (u.toList == v.toList) = b) (h : wpList Try.prog ops Q rest (a.put o.dst (.bool b)) w) : wpList Try.prog ops Q (o :: rest) a w :=
  wpList_runW hw _ (eqlS_run ho hx hy) (by rw [hb]; exact h)
theorem wpList_eqlI (t : TypeId) (x y : Operand) (ho : o.op = .binOp .eql t x y t) (hw : Region.wanted o (yielded ops a.tmps) = true) (k : IntKind) (u v : Int) (hx : a.eval x = .int k u) (hy : a.eval y = .int k v) (b : Bool) (hb : (u == v) = b) (h : wpList Try.prog ops Q rest (a.put o.dst (.bool b)) w) : wpList Try.prog ops Q (o :: rest) a w :=
  wpList_runW hw _ (eqlI_run ho hx hy) (by rw [hb]; exact h)
theorem wpList_eqlA (t : TypeId) (x y : Operand) (ho : o.op = .binOp .eql t x y t) (hw : Region.wanted o (yielded ops a.tmps) = true) (u v : Array Value) (hx : a.eval x = .agg u) (hy : a.eval y = .agg v) (hg : Try.prog.eqGuardType Try.prog.depth t = false) (b : Bool) (he : (Op.equalIn 10000 t (.agg u) (.agg v)).run Try.prog w = .ok b w) (h : wpList Try.prog ops Q rest (a.put o.dst (.bool b)) w) : wpList Try.prog ops Q (o :: rest) a w :=
  wpList_runW hw _ (eql_run ho hx hy hg he) h
end
end Go.Proofs.Ytonhdkldacghoaa
