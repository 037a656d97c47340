/- CpuMoves answers true. -/
import Derived.Test.YtmmejicmjalibaaMovesA
import Derived.Test.YtmmejicmjalibaaMovesB
namespace Go.Proofs.Ytmmejicmjalibaa
open Go.RowKit Go.Lib
theorem CpuMoves_any (size way : Int) (x y : Int) (w : World) (hx : u64ok x) (hy : u64ok y) :
    Calls Try.prog 8 #[.int .i64 size, .int .u64 y, .int .u64 x, .int .i64 way] w fun e w' => e = .returned (.bool true) ∧ Below w.heap.size w w' := by
  obtain ⟨m, hm, hmv⟩ := mod_num size 200 (by omega) (by omega)
  by_cases hp : (way.tmod 2 == 0) = true
  · by_cases hf : y + ((1 : Nat) : Int) ≤ ((64 + m : Nat) : Int)
    · by_cases h8 : 8 ≤ y
      · exact moves_18 size way x y w hx hy m hm hmv hp hf h8
      · exact moves_10 size way x y w hx hy m hm hmv hp hf h8
    · exact moves_1f size way x y w hx hy m hm hmv hp hf
  · have hp' : (way.tmod 2 == 0) = false := by simpa using hp
    by_cases hf : y + ((8 : Nat) : Int) ≤ ((64 + m : Nat) : Int)
    · by_cases h8 : 8 ≤ y
      · exact moves_88 size way x y w hx hy m hm hmv hp' hf h8
      · exact moves_80 size way x y w hx hy m hm hmv hp' hf h8
    · exact moves_8f size way x y w hx hy m hm hmv hp' hf
end Go.Proofs.Ytmmejicmjalibaa
