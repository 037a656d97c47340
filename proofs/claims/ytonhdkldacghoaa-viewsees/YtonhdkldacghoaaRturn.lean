/- What turn, Up and Down of the reference answer, for every label. -/
import Derived.Test.YtonhdkldacghoaaPut
namespace Go.Proofs.Ytonhdkldacghoaa
open Go.RowKit Go.Sort

theorem turn_put (d f t : Int) (xs : List (Int × Int)) (k : Nat) (h : k < xs.length) : shortS d (turnS f t (xs.take (k + 1))) = putS d (shortS d (turnS f t (xs.take k))) xs[k].1 (ot f t xs[k].2) := by
  rw [turn_snoc f t xs k h]
  unfold shortS putS
  rw [List.filter_append]
  by_cases h : (ot f t xs[k].2 != d) = true <;> simp [h]

end Go.Proofs.Ytonhdkldacghoaa
