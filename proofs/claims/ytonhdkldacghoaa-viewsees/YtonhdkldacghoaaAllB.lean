/- Two rows of objects, field by field (plain facts, no walk). -/
import Derived.Test.YtonhdkldacghoaaRSame
namespace Go.Proofs.Ytonhdkldacghoaa
open Go.RowKit Go.Sort

noncomputable def allB : List Ob → List Ob → Bool
  | [], [] => true
  | x :: xs, y :: ys => obB x y && allB xs ys
  | _, _ => false
theorem allB_len : ∀ {a b : List Ob}, a.length ≠ b.length → allB a b = false
  | [], [], h => absurd rfl h
  | [], _ :: _, _ => rfl
  | _ :: _, [], _ => rfl
  | x :: xs, y :: ys, h => by
    rw [allB, allB_len (a := xs) (b := ys) (fun e => h (by simp [e])), Bool.and_false]
theorem allB_step {a b : List Ob} {k : Nat} (ha : k < a.length) (hb : k < b.length) : allB (a.drop k) (b.drop k) = (obB a[k] b[k] && allB (a.drop (k + 1)) (b.drop (k + 1))) := by
  rw [List.drop_eq_getElem_cons ha, List.drop_eq_getElem_cons hb, allB]
theorem u16_refl (xs : List Int) : u16 xs xs = true := by unfold u16; rw [List.all_eq_true]; intro i _; simp
theorem obB_refl (a : Ob) : obB a a = true := by
  unfold obB infB refB stB
  rw [u16_refl, eqP_yes rfl]
  simp [sameS]
theorem allB_refl : ∀ (a : List Ob), allB a a = true
  | [] => rfl
  | x :: xs => by rw [allB, obB_refl, allB_refl xs]; rfl
end Go.Proofs.Ytonhdkldacghoaa
