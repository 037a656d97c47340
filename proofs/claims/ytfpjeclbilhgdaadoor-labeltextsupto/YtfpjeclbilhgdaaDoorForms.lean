/- What At, Has and their kin answer, for every label. -/
import Derived.Test.YtfpjeclbilhgdaaDoorRight
namespace Go.Proofs.YtfpjeclbilhgdaaDoor
open Go.RowKit Go.Sort

theorem ret_int {a b : Int} (h : a = b) : Ending.returned (.int .i64 a) = .returned (.int .i64 b) := by rw [h]
def atS (d : Int) : List (Int × Int) → Int → Int
  | [], _ => d
  | x :: xs, c => if (x.1 == c) = true then x.2 else atS d xs c
theorem atS_step (d c : Int) (xs : List (Int × Int)) (k : Nat) (h : k < xs.length) :
    atS d (xs.drop k) c = if (xs[k].1 == c) = true then xs[k].2 else atS d (xs.drop (k + 1)) c := by
  rw [List.drop_eq_getElem_cons h]; rfl
def hasS (d : Int) (xs : List (Int × Int)) (l : Int) : Bool := xs.any (fun x => x.2 == l) || (d == l)
theorem hasS_step (d l : Int) (xs : List (Int × Int)) (k : Nat) (h : k < xs.length) :
    hasS d (xs.drop k) l = ((xs[k].2 == l) || hasS d (xs.drop (k + 1)) l) := by
  unfold hasS; rw [List.drop_eq_getElem_cons h, List.any_cons, Bool.or_assoc]
def idxF (p : Int × Int → Bool) : List (Int × Int) → Nat → Int
  | [], _ => -1
  | x :: xs, k => if p x = true then (k : Int) else idxF p xs (k + 1)
theorem idxF_step (p : Int × Int → Bool) (xs : List (Int × Int)) (k : Nat) (h : k < xs.length) :
    idxF p (xs.drop k) k = if p xs[k] = true then (k : Int) else idxF p (xs.drop (k + 1)) (k + 1) := by
  rw [List.drop_eq_getElem_cons h]; rfl
theorem idxF_any (p : Int × Int → Bool) (xs : List (Int × Int)) (k : Nat) : decide (0 ≤ idxF p xs k) = xs.any p := by
  induction xs generalizing k with
  | nil => simp [idxF]
  | cons x xs ih =>
    by_cases h : p x = true
    · simp [idxF, h]
    · simp [idxF, h, ih (k + 1)]
theorem CatsAt.below {w w' : World} {p : Option Addr} {xs : List (Int × Int)} (h : CatsAt w p xs) (hb : Below w.heap.size w w') : CatsAt w' p xs := fun j hj => by
  obtain ⟨b, off, hp, hbl, c0, c1⟩ := h j hj
  exact ⟨b, off, hp, Nat.lt_of_lt_of_le hbl hb.size, (hb.cell (p := ⟨b, off + j * 2, none⟩) hbl).trans c0, (hb.cell (p := ⟨b, off + j * 2 + 1, none⟩) hbl).trans c1⟩

def plainS (d : Int) (xs : List (Int × Int)) : Bool := rightS d xs && !hasS d xs 5
def freeS (d : Int) (xs : List (Int × Int)) : Bool := plainS d xs && !hasS d xs 0

end Go.Proofs.YtfpjeclbilhgdaaDoor
