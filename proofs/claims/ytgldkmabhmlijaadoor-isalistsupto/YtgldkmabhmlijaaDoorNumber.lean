/- What Number, r and Text of the reference answer. -/
import Derived.Test.YtgldkmabhmlijaaDoorDigits
namespace Go.Proofs.YtgldkmabhmlijaaDoor
open Go.RowKit Go.Sort
theorem itoaB_nat (n : Nat) : (⟨(Lib.itoa (n : Int)).toArray⟩ : ByteArray) = digB n := by
  unfold Lib.itoa digB; rw [if_neg (by omega)]; rfl
end Go.Proofs.YtgldkmabhmlijaaDoor
