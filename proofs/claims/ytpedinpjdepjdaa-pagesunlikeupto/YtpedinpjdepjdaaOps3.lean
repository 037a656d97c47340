/- Single operations and guards of drawn regions. -/
import Derived.Test.YtpedinpjdepjdaaMonoT
import Derived.Test.YtpedinpjdepjdaaStepN
namespace Go.Proofs.Ytpedinpjdepjdaa
open Go.RowKit Go.Sort
theorem yielded_of {l : List Oper} {a' : Act} {j d : Nat} {b : Bool} {n : Nat} (hs : a'.tmps.size = n) (hd : (l[j]?).bind (·.dst) = some d) (hn : d < n) (hv : a'.eval (.tmp d) = .bool b) : yielded l.toArray a'.tmps j = some b := by
  unfold yielded
  simp only [List.getElem?_toArray]
  rw [hd]
  simp only [Option.bind_some]
  have hlt : d < a'.tmps.size := by omega
  simp only [Act.eval, Array.getD_eq_getD_getElem?, Array.getElem?_eq_getElem hlt, Option.getD_some] at hv
  rw [Array.getElem?_eq_getElem hlt, hv]
theorem want_yes {l : List Oper} {o : Oper} {a' : Act} {j d : Nat} {b : Bool} {n : Nat} (ho : o.guard = some (j, b)) (hs : a'.tmps.size = n) (hn : d < n) (hd : (l[j]?).bind (·.dst) = some d) (hv : a'.eval (.tmp d) = .bool b) : Region.wanted o (yielded l.toArray a'.tmps) = true := by
  unfold Region.wanted
  rw [ho]
  simp only
  rw [yielded_of hs hd hn hv]
  simp
theorem exec_call1 {o : Oper} {ev : Operand → Value} {f : Nat} {x0 : Operand} {ts : Array TypeId} {v0 : Value} {w : World} (ho : o.op = .call { callee := .value (.func f), args := #[x0], argTypes := ts }) (hf : ev (.func f) = .func (.func f) #[] #[]) (h0 : ev x0 = v0) (eg : ∀ args w, (callFunc f args).run Try.prog w = .ok (.enter f args) w) : (execOp ev o).run Try.prog w = .ok (.enter f #[v0]) w := by
  unfold execOp
  simp [ho, resolve, invoke, hf, h0, eg, go_sem]
theorem exec_call2 {o : Oper} {ev : Operand → Value} {f : Nat} {x0 x1 : Operand} {ts : Array TypeId} {v0 v1 : Value} {w : World} (ho : o.op = .call { callee := .value (.func f), args := #[x0, x1], argTypes := ts }) (hf : ev (.func f) = .func (.func f) #[] #[]) (h0 : ev x0 = v0) (h1 : ev x1 = v1) (eg : ∀ args w, (callFunc f args).run Try.prog w = .ok (.enter f args) w) : (execOp ev o).run Try.prog w = .ok (.enter f #[v0, v1]) w := by
  unfold execOp
  simp [ho, resolve, invoke, hf, h0, h1, eg, go_sem]
theorem exec_call3 {o : Oper} {ev : Operand → Value} {f : Nat} {x0 x1 x2 : Operand} {ts : Array TypeId} {v0 v1 v2 : Value} {w : World} (ho : o.op = .call { callee := .value (.func f), args := #[x0, x1, x2], argTypes := ts }) (hf : ev (.func f) = .func (.func f) #[] #[]) (h0 : ev x0 = v0) (h1 : ev x1 = v1) (h2 : ev x2 = v2) (eg : ∀ args w, (callFunc f args).run Try.prog w = .ok (.enter f args) w) : (execOp ev o).run Try.prog w = .ok (.enter f #[v0, v1, v2]) w := by
  unfold execOp
  simp [ho, resolve, invoke, hf, h0, h1, h2, eg, go_sem]
theorem exec_call4 {o : Oper} {ev : Operand → Value} {f : Nat} {x0 x1 x2 x3 : Operand} {ts : Array TypeId} {v0 v1 v2 v3 : Value} {w : World} (ho : o.op = .call { callee := .value (.func f), args := #[x0, x1, x2, x3], argTypes := ts }) (hf : ev (.func f) = .func (.func f) #[] #[]) (h0 : ev x0 = v0) (h1 : ev x1 = v1) (h2 : ev x2 = v2) (h3 : ev x3 = v3) (eg : ∀ args w, (callFunc f args).run Try.prog w = .ok (.enter f args) w) : (execOp ev o).run Try.prog w = .ok (.enter f #[v0, v1, v2, v3]) w := by
  unfold execOp
  simp [ho, resolve, invoke, hf, h0, h1, h2, h3, eg, go_sem]
end Go.Proofs.Ytpedinpjdepjdaa
