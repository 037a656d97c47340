/- What Decode of package isa answers, for every string. -/
import Derived.Test.YtgldkmabhmlijaaGreatDoorEncode
import Derived.Test.YtgldkmabhmlijaaGreatDoorUnpack
namespace Go.Proofs.YtgldkmabhmlijaaGreatDoor
open Go.RowKit Go.Sort
/-- The instruction of four bytes, if there is one. -/
def decC (s : ByteArray) : Option Cod := if s.size = 4 ∧ rightI (unC s) = true ∧ q4s (bytesC (unC s)) = s then some (unC s) else none
def c0 : Cod := ⟨0, 0, 0, 0, 0⟩
def decE (o : Option Cod) : Int := if o.isSome then 0 else 12
theorem str_inj {a b : ByteArray} (h : a.toList = b.toList) : a = b := by
  rw [ByteArray.toList_eq, ByteArray.toList_eq] at h
  exact ByteArray.ext (Array.toList_inj.1 h)
end Go.Proofs.YtgldkmabhmlijaaGreatDoor
