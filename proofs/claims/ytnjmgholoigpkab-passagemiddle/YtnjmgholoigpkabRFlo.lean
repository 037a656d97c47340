/- floor and Below of the reference. -/
import Derived.Test.YtnjmgholoigpkabRef7
namespace Go.Proofs.Ytnjmgholoigpkab
open Go.RowKit Go.Sort
theorem run_max {ev : Operand → Value} {W : World} {dst : Option Nat} {ty : TypeId} {pos : String} {af : Array Edge} {gd : Option (Nat × Bool)} {a b : Int} {x y : Operand} (hx : ev x = .int .i64 a) (hy : ev y = .int .i64 b) :
    (execOp ev { dst := dst, op := .call { callee := .builtin .max, args := #[x, y], argTypes := #[3, 3] }, type := ty, pos := pos, after := af, guard := gd }).run Try.prog W = .ok (.value (.int .i64 (max a b))) W := by
  rw [← max_if]
  go_simp
def flZ (t g : ML) (c : Int) : Int := if aZ t c = 0 then 0 else if aZ g c = 0 then 0 else if aZ t c = 5 then 0 else if aZ g c = 5 then 0 else max (aZ t c) (aZ g c)
end Go.Proofs.Ytnjmgholoigpkab
