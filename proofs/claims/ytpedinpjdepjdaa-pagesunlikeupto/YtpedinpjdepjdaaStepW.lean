/- One step on both: Write. -/
import Derived.Test.YtpedinpjdepjdaaStepZ
namespace Go.Proofs.Ytpedinpjdepjdaa
open Go.RowKit Go.Lib
def sts (l : List ByteArray) : List Value := l.map Value.string
theorem stInfo : (Try.prog.info? 9).map (fun i => (i.zero, i.size, i.bytes)) = some (some (.string ⟨#[]⟩), 1, 16) := by kernel_rfl
theorem app_st {W : World} {ops : Array Oper} {rest : List Oper} {o : Oper} {a : Act} {Q : Exit → Act → World → Prop} (hgd : o.guard = none) (s x : Operand)
    (ho : o.op = .call { callee := .builtin .append, args := #[s, x], argTypes := #[32, 32] }) (base : Nat) (v : Value) (p : Option Addr) (cap : Nat) (xs ys : List ByteArray) (hs : a.eval s = v) (hown : W.ownsRow base 9 1 v xs.length (sts xs)) (hb : base ≤ W.heap.size) (hn : xs.length + ys.length < 1099511627778)
    (hx : a.eval x = .slice p ys.length cap) (hsrc : CsAt W p ys) (hnil : ys = [] → p = none → cap = 0)
    (h : ∀ v' w', w'.ownsRow base 9 1 v' (xs ++ ys).length (sts (xs ++ ys)) → Below base W w' → wpList Try.prog ops Q rest (a.put o.dst v') w') : wpList Try.prog ops Q (o :: rest) a W := by
  obtain ⟨i0, hi, hz0, hz1, hz2⟩ := info_parts' stInfo
  cases p with
  | none =>
    have hy : ys = [] := by
      cases ys with
      | nil => rfl
      | cons y t => obtain ⟨_, _, h, _⟩ := hsrc 0 (by simp); cases h
    subst hy
    obtain rfl := hnil rfl rfl
    refine wpList_append_own_none hgd s x 32 ho base 9 i0 1 Try.underlying32 hi v xs.length (sts xs) hs hown hx (h v W ?_ (Below.refl _ _))
    simpa using hown
  | some ad =>
    refine wpList_append_own _ hgd s x 32 ho base 9 i0 (.string ⟨#[]⟩) 1 16 Try.underlying32 hi hz0 hz1 hz2 rfl (by decide) v xs.length (sts xs) hs hown ad ys.length cap (sts ys) hx (by simp [sts]) (fun j u hu => ?_) (fun u hu => by obtain ⟨b, _, rfl⟩ := List.mem_map.1 hu; rfl) (by unfold maxLen; omega) (by omega) hb ?_
    · unfold sts at hu
      rw [List.getElem?_map] at hu
      by_cases hj : j < ys.length
      · rw [List.getElem?_eq_getElem hj] at hu
        simp only [Option.map_some, Option.some.injEq] at hu
        subst hu
        obtain ⟨blk, off, he, hc⟩ := hsrc j hj
        cases he
        rcases Nat.eq_zero_or_pos j with rfl | hj0
        · simpa [Addr.add] using hc
        · have hj1 : j ≠ 0 := by omega
          simpa [Addr.add, hj1] using hc
      · rw [List.getElem?_eq_none (by omega)] at hu; cases hu
    · intro v' w' h1 h2 _
      refine h v' w' ?_ (Below.grown (Below.refl _ _) h2 hb (fun j hj => (hown.lt j hj).1))
      rw [List.length_append, show sts (xs ++ ys) = sts xs ++ sts ys from by simp [sts]]
      exact h1
end Go.Proofs.Ytpedinpjdepjdaa
