/- What Make of the reference answers, of any entries. -/
import Derived.Test.YtnjmgholoigpkaaMake3
import Derived.Test.YtnjmgholoigpkaaMixed
namespace Go.Proofs.Ytnjmgholoigpkaa
open Go.RowKit Go.Sort

def clash (x : Int × Int) (ys : List (Int × Int)) : Bool := ys.any fun y => x.1 == y.1 && x.2 != y.2
theorem clash_snoc (x : Int × Int) (ys : List (Int × Int)) (j : Nat) (h : j < ys.length) : clash x (ys.take (j + 1)) = (clash x (ys.take j) || (x.1 == ys[j].1 && x.2 != ys[j].2)) := by
  unfold clash; rw [List.take_succ_eq_append_getElem h, List.any_append]; simp
def clT (xs : List (Int × Int)) : Nat → Bool
  | 0 => false
  | k + 1 => clT xs k || clash (zat xs k) (xs.take k)
theorem clT_mono {xs : List (Int × Int)} {k n : Nat} (h : clT xs k = true) (hk : k ≤ n) : clT xs n = true := by
  induction n with
  | zero => obtain rfl : k = 0 := by omega
            exact h
  | succ n ih =>
    rcases Nat.lt_or_ge n k with h1 | h1
    · obtain rfl : k = n + 1 := by omega
      exact h
    · simp [clT, ih h1]
theorem labs1m {W : World} {b : Nat} {A : Lab} (h : W.heap[b]? = some (.cells #[.int .i64 A.d, .slice A.p A.xs.length A.cap] 24 (0, 0)))
    (ha : CatsAt W A.p A.xs ∧ A.xs.length ≤ maxLen) : LabsAt W b [A] := by
  intro j hj
  simp only [List.length_cons, List.length_nil] at hj
  match j, hj with
  | 0, _ => exact ⟨by simp [World.cell?, h], by simp [World.cell?, h], ha⟩
def allLab (d : Int) (xs : List (Int × Int)) : Lab := ⟨d, none, 0, xs⟩
def rmakeS (d : Int) (xs : List (Int × Int)) : List (Int × Int) := shortS d (rowS (atS d xs) (namedS [allLab d xs]))
def rkD (d : Int) (xs : List (Int × Int)) : Int := if (xs.any fun x => !can x) = true then 0 else if clT xs xs.length = true then 0 else fitD d (rmakeS d xs)
def rkL (d : Int) (xs : List (Int × Int)) : List (Int × Int) := if (xs.any fun x => !can x) = true then [] else if clT xs xs.length = true then [] else fitL (rmakeS d xs)
def rkE (d : Int) (xs : List (Int × Int)) : Int := if (xs.any fun x => !can x) = true then 1 else if clT xs xs.length = true then 2 else fitE (rmakeS d xs)

end Go.Proofs.Ytnjmgholoigpkaa
