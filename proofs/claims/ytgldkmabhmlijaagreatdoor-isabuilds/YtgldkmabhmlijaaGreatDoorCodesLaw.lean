/- IsaCodes walks, once lives answers true. -/
import Derived.Test.YtgldkmabhmlijaaGreatDoorRText
import Derived.Test.YtgldkmabhmlijaaGreatDoorRRight
import Derived.Test.YtgldkmabhmlijaaGreatDoorREncode
import Derived.Test.YtgldkmabhmlijaaGreatDoorDecode
namespace Go.Proofs.YtgldkmabhmlijaaGreatDoor
open Go.RowKit Go.Sort
/-- lives answers true, whatever the memory. -/
def Lives : Prop := ∀ w, Env w → Calls Tryz.prog 5 #[] w fun e w' => e = .returned (.bool true) ∧ Below w.heap.size w w'
end Go.Proofs.YtgldkmabhmlijaaGreatDoor
