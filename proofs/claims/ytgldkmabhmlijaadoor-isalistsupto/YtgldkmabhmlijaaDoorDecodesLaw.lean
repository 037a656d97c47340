/- IsaDecodes walks, once lives answers true. -/
import Derived.Test.YtgldkmabhmlijaaDoorCodesLaw
import Derived.Test.YtgldkmabhmlijaaDoorDecodeM
namespace Go.Proofs.YtgldkmabhmlijaaDoor
open Go.RowKit Go.Sort
theorem dec_some {s : ByteArray} {c : Cod} (h : decC s = some c) : rightC c = true ∧ q4s (bytesC c) = s := by
  unfold decC at h
  split at h
  · rename_i hh; cases h; exact ⟨by rw [← rightI_eq]; exact hh.2.1, hh.2.2⟩
  · cases h
end Go.Proofs.YtgldkmabhmlijaaDoor
