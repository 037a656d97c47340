/- The iterator of package label: what pairs tells, for every two labels. -/
import Derived.Test.YtonhdkldacghoaaTake
import Derived.RangeFuncNested
import Derived.RangeFuncBound
import Derived.RangeFuncCalls
import Derived.RangeFuncLeaves
import Derived.Shelf.Abstract
import Derived.Shelf.RegionOpen
import Derived.OwnWalkIn
import Derived.TacticsInMore
import Derived.LoopNIn
import Derived.LoopIn
namespace Go.Proofs.Ytonhdkldacghoaa
open Go.RowKit Go.Sort Go.Shelf
attribute [local go_sem] Oper.semAt_some

def encP (x : Int × Int × Int) : Value := .agg #[.int .i64 x.1, .int .i64 x.2.1, .int .i64 x.2.2]
def prs (da db : Int) : Nat → List (Int × Int) → List (Int × Int) → List (Int × Int × Int)
  | 0, _, _ => []
  | f + 1, xs, ys => if xs.length + ys.length = 0 then [] else (leastS xs ys, tkL da (leastS xs ys) xs, tkL db (leastS xs ys) ys) :: prs da db f (tkR (leastS xs ys) xs) (tkR (leastS xs ys) ys)
def allP (da db : Int) (xs ys : List (Int × Int)) : List (Int × Int × Int) := (0, da, db) :: prs da db (xs.length + ys.length) xs ys

theorem tkR_le (c : Int) (xs : List (Int × Int)) : (tkR c xs).length ≤ xs.length := by
  cases xs with
  | nil => simp [tkR]
  | cons x xs => simp only [tkR]; split <;> simp
theorem tkR_lt (xs ys : List (Int × Int)) (h : 0 < xs.length + ys.length) : (tkR (leastS xs ys) xs).length + (tkR (leastS xs ys) ys).length < xs.length + ys.length := by
  cases xs with
  | nil => cases ys with
    | nil => simp at h
    | cons y ys => simp [tkR, leastS]
  | cons x xs => cases ys with
    | nil => simp [tkR, leastS]
    | cons y ys =>
      simp only [leastS]
      rcases Int.le_total x.1 y.1 with hxy | hxy
      · have := tkR_le (min x.1 y.1) (y :: ys)
        have e : min x.1 y.1 = x.1 := by omega
        rw [e] at this ⊢
        simp only [tkR, beq_self_eq_true, if_true, List.length_cons] at this ⊢
        omega
      · have := tkR_le (min x.1 y.1) (x :: xs)
        have e : min x.1 y.1 = y.1 := by omega
        rw [e] at this ⊢
        simp only [tkR, beq_self_eq_true, if_true, List.length_cons] at this ⊢
        omega
theorem prs_length (da db : Int) (f : Nat) (xs ys : List (Int × Int)) : (prs da db f xs ys).length ≤ f := by
  induction f generalizing xs ys with
  | zero => simp [prs]
  | succ f ih => simp only [prs]; split <;> simp [ih]

theorem prs_cons (da db : Int) (f : Nat) (xs ys : List (Int × Int)) (h : 0 < xs.length + ys.length) (hf : xs.length + ys.length ≤ f) :
    prs da db f xs ys = (leastS xs ys, tkL da (leastS xs ys) xs, tkL db (leastS xs ys) ys) :: prs da db (f - 1) (tkR (leastS xs ys) xs) (tkR (leastS xs ys) ys) := by
  cases f with
  | zero => omega
  | succ f => simp only [prs]; rw [if_neg (by omega)]; rfl
theorem prs_next {da db : Int} {f : Nat} {xs ys xs' ys' : List (Int × Int)} {pre : List (Int × Int × Int)} (hA : allP da db xs ys = pre ++ prs da db f xs' ys' ∧ xs'.length + ys'.length ≤ f ∧ pre.length + f ≤ xs.length + ys.length + 1)
    (hne : 0 < xs'.length + ys'.length) (hlt : (tkR (leastS xs' ys') xs').length + (tkR (leastS xs' ys') ys').length < xs'.length + ys'.length) :
    allP da db xs ys = (pre ++ [(leastS xs' ys', tkL da (leastS xs' ys') xs', tkL db (leastS xs' ys') ys')]) ++ prs da db (f - 1) (tkR (leastS xs' ys') xs') (tkR (leastS xs' ys') ys') ∧ (tkR (leastS xs' ys') xs').length + (tkR (leastS xs' ys') ys').length ≤ f - 1 ∧ (pre ++ [(leastS xs' ys', tkL da (leastS xs' ys') xs', tkL db (leastS xs' ys') ys')]).length + (f - 1) ≤ xs.length + ys.length + 1 := by
  obtain ⟨h1, h2, h3⟩ := hA
  refine ⟨?_, by omega, by simp; omega⟩
  rw [h1, prs_cons da db f xs' ys' hne h2]; simp
theorem prs_stop {da db : Int} {f : Nat} {xs ys xs' ys' : List (Int × Int)} {pre : List (Int × Int × Int)} (hA : allP da db xs ys = pre ++ prs da db f xs' ys' ∧ xs'.length + ys'.length ≤ f ∧ pre.length + f ≤ xs.length + ys.length + 1)
    (hne : 0 < xs'.length + ys'.length) : (pre ++ [(leastS xs' ys', tkL da (leastS xs' ys') xs', tkL db (leastS xs' ys') ys')]) <+: allP da db xs ys := by
  obtain ⟨h1, h2, h3⟩ := hA
  rw [h1, prs_cons da db f xs' ys' hne h2]
  exact ⟨prs da db (f - 1) (tkR (leastS xs' ys') xs') (tkR (leastS xs' ys') ys'), by simp⟩

def KpP (n₀ Ba Bb : Nat) (W W' : World) : Prop := Below n₀ W W' ∧ W'.heap[Ba]? = W.heap[Ba]? ∧ W'.heap[Bb]? = W.heap[Bb]?
theorem cell_same {W W' : World} {B : Nat} (h : W'.heap[B]? = W.heap[B]?) (o : Nat) : W'.cell? ⟨B, o, none⟩ = W.cell? ⟨B, o, none⟩ := by simp only [World.cell?, h]
def lenOf : Value → Nat
  | .slice _ n _ => n
  | _ => 0
theorem abides_below {β : Type} {B : Nat} {J : β → World → Prop} (h : AbidesFrom B J) {s : β} {W W' : World} (hs : J s W) (hb : Below W.heap.size W W') : J s W' :=
  h s W W' none hs ⟨hb.os, hb.tape, hb.output, hb.size, fun k hk _ => hb.block k hk⟩ (fun r e => by cases e)

end Go.Proofs.Ytonhdkldacghoaa
