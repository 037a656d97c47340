/- Make, Rise, Clear and Lend of the reference. -/
import Derived.Test.YtnjmgholoigpkabRBel
import Derived.Test.YtnjmgholoigpkabMonoF
import Derived.Deep.Cut
namespace Go.Proofs.Ytnjmgholoigpkab
open Go.RowKit Go.Sort
def sayI (b : Bool) : Int := if b = true then 0 else 3
theorem ent_gatehouseref01_Leq : Enters 9 := fun args W => by go_simp
theorem ent_gatehouseref01_Up : Enters 11 := fun args W => by go_simp
def rmakeI (t c box l : ML) : Int := sayI ((((raltM t box) && (rleM t l)) && (rleM l c)) && (belM box (upM l) ((2, []) : ML)))
def rriseI (t c want : ML) : Int := if plainS want.1 want.2 = true then sayI ((rleM t want) && (rleM want c)) else 1
def rclearI (t c want : ML) : Int := if freeS want.1 want.2 = true then sayI ((rleM t want) && (belM want c (upM t))) else 1
def rlendI (t c l m : ML) : Int := if plainS l.1 l.2 = true then (if freeS m.1 m.2 = true then sayI (((rleM t l) && (rleM l m)) && (rleM m c)) else 1) else 1
end Go.Proofs.Ytnjmgholoigpkab
