/- The greater and the lesser of two numbers, as the two mixers of package label answer them. -/
import Derived.Test.YtnjmgholoigpkaaCut
namespace Go.Proofs.Ytnjmgholoigpkaa
open Go.RowKit Go.Sort
def mx (a b : Int) : Int := if a < b then b else a
def mn (a b : Int) : Int := if b < a then b else a
end Go.Proofs.Ytnjmgholoigpkaa
