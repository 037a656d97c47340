/- What Leq of package label answers, for every two labels. -/
import Derived.Test.YtonhdkldacghoaaPairs
namespace Go.Proofs.Ytonhdkldacghoaa
open Go.RowKit Go.Sort Go.Shelf
attribute [local go_sem] Oper.semAt_some

theorem kpp_t {n₀ Ba Bb : Nat} {A B C : World} (h : KpP n₀ Ba Bb A B) (k : KpP n₀ Ba Bb B C) : KpP n₀ Ba Bb A C := ⟨h.1.trans k.1, k.2.1.trans h.2.1, k.2.2.trans h.2.2⟩
theorem kpp_b {n₀ Ba Bb : Nat} {w : World} (hn : n₀ ≤ w.heap.size) (ha : Ba < w.heap.size) (hb : Bb < w.heap.size) (W : World) (l : Nat) (o o' : Obj) (hl : w.heap.size ≤ l) (h : W.heap[l]? = some o) (h1 : o.isCells = false) (h2 : o.isWalk = false) : KpP n₀ Ba Bb W (W.putObj l o') :=
  ⟨belowK_b hn W l o o' hl h h1 h2, World.putObj_heap_other (by omega), World.putObj_heap_other (by omega)⟩
theorem kpp_below {n₀ Ba Bb : Nat} {W W' : World} (h : Below W.heap.size W W') (hn : n₀ ≤ W.heap.size) (ha : Ba < W.heap.size) (hb : Bb < W.heap.size) : KpP n₀ Ba Bb W W' :=
  ⟨h.mono hn, h.block _ ha, h.block _ hb⟩

def AllLe (pre : List (Int × Int × Int)) : Prop := ∀ x ∈ pre, x.2.1 ≤ x.2.2
theorem AllLe.snoc {pre : List (Int × Int × Int)} {x : Int × Int × Int} (h : AllLe pre) (hx : x.2.1 ≤ x.2.2) : AllLe (pre ++ [x]) := fun y hy => (List.mem_append.1 hy).elim (h y) (fun e => by rw [List.mem_singleton.1 e]; exact hx)
def SomeGt (pre : List (Int × Int × Int)) : Prop := ∃ x ∈ pre, ¬ x.2.1 ≤ x.2.2
theorem SomeGt.snoc {pre : List (Int × Int × Int)} {x : Int × Int × Int} (hx : ¬ x.2.1 ≤ x.2.2) : SomeGt (pre ++ [x]) := ⟨x, List.mem_append.2 (.inr (List.mem_singleton.2 rfl)), hx⟩
def leqS (da db : Int) (xs ys : List (Int × Int)) : Bool := (allP da db xs ys).all fun x => decide (x.2.1 ≤ x.2.2)

theorem leqS_yes {da db : Int} {xs ys : List (Int × Int)} (h : AllLe (allP da db xs ys)) : leqS da db xs ys = true := by
  unfold leqS; rw [List.all_eq_true]; intro x hx; simpa using h x hx
theorem leqS_no {da db : Int} {xs ys : List (Int × Int)} {pre : List (Int × Int × Int)} (hp : pre <+: allP da db xs ys) (h : SomeGt pre) : leqS da db xs ys = false := by
  obtain ⟨x, hx, hn⟩ := h
  unfold leqS; rw [List.all_eq_false]; exact ⟨x, hp.subset hx, by simpa using hn⟩

end Go.Proofs.Ytonhdkldacghoaa
