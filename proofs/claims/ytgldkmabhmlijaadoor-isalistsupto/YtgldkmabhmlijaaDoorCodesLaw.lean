/- IsaCodes walks, once lives answers true. -/
import Derived.Test.YtgldkmabhmlijaaDoorRText
import Derived.Test.YtgldkmabhmlijaaDoorRRight
import Derived.Test.YtgldkmabhmlijaaDoorREncode
import Derived.Test.YtgldkmabhmlijaaDoorDecode
namespace Go.Proofs.YtgldkmabhmlijaaDoor
open Go.RowKit Go.Sort
/-- lives answers true, whatever the memory. -/
def Lives : Prop := ∀ w, Env w → Calls Tryd.prog 5 #[] w fun e w' => e = .returned (.bool true) ∧ Below w.heap.size w w'
end Go.Proofs.YtgldkmabhmlijaaDoor
