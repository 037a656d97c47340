/- Plain words of instructions, and what the small functions of package isa and of the reference answer, for every number. -/
import Derived.Test.YtgldkmabhmlijaaDoorProg
import Derived.WalkKit
import Derived.WalkSpells
import Derived.WalkLawsBesides
import Derived.Handy
import Derived.BigQuiet
import Derived.Lib.Hide
namespace Go.Proofs.YtgldkmabhmlijaaDoor
open Go.RowKit

structure Cod where
  (op a b c n : Int)
  deriving DecidableEq
def Cod.v (c : Cod) : Value := .agg #[.int .i64 c.op, .int .i64 c.a, .int .i64 c.b, .int .i64 c.c, .int .i64 c.n]
/-- An operation's shape: 0 none, 1 A N, 2 A B, 3 A B C, 4 A B N, 5 a way, 6 A and a way. -/
def sh (op : Int) : Nat :=
  if op = 3 ∨ op = 4 then 1 else if op = 5 ∨ op = 25 then 2 else if 6 ≤ op ∧ op ≤ 17 then 3 else if 18 ≤ op ∧ op ≤ 21 then 4 else if op = 22 then 5 else if op = 23 ∨ op = 24 then 6 else 0
/-- The words of a shape. -/
def wd (s k : Nat) : Int :=
  if k = 0 then (if s = 0 then 0 else if s = 5 then 6 else 1)
  else if k = 1 then (if s = 1 then 5 else if s = 2 ∨ s = 3 ∨ s = 4 then 2 else if s = 6 then 6 else 0)
  else if k = 2 then (if s = 3 then 3 else if s = 4 then 4 else 0) else 0
def lowW (w : Int) : Int := if w = 6 then -32768 else 0
def highW (w : Int) : Int := if w = 1 ∨ w = 2 ∨ w = 3 then 15 else if w = 4 then 255 else if w = 5 then 65535 else if w = 6 then 32767 else 0
def fld (c : Cod) (w : Int) : Int := if w = 1 then c.a else if w = 2 then c.b else if w = 3 then c.c else if w = 4 ∨ w = 5 ∨ w = 6 then c.n else 0
def wth (c : Cod) (w n : Int) : Cod := if w = 1 then { c with a := n } else if w = 2 then { c with b := n } else if w = 3 then { c with c := n } else if w = 4 ∨ w = 5 ∨ w = 6 then { c with n := n } else c
def atW (w : Int) : Int := if w = 1 then 1 else if w = 2 ∨ w = 5 ∨ w = 6 then 2 else if w = 3 ∨ w = 4 then 3 else 0
def szW (w : Int) : Int := if w = 1 ∨ w = 2 ∨ w = 3 ∨ w = 4 then 1 else if w = 5 ∨ w = 6 then 2 else 0
theorem wd_lim (s k : Nat) : 0 ≤ wd s k ∧ wd s k ≤ 6 := by unfold wd; (repeat' split) <;> omega
theorem w_cases {w : Int} (h : 0 ≤ w ∧ w ≤ 6) : w = 0 ∨ w = 1 ∨ w = 2 ∨ w = 3 ∨ w = 4 ∨ w = 5 ∨ w = 6 := by omega

set_option maxHeartbeats 400000 in
theorem bounds_any (v : Int) (w : World) (h : 0 ≤ v ∧ v ≤ 6) : Calls Tryd.prog 24 #[.int .i64 v] w fun e w' => e = .returned (.tuple #[.int .i64 (lowW v), .int .i64 (highW v)]) ∧ w' = w := by
  rcases w_cases h with rfl | rfl | rfl | rfl | rfl | rfl | rfl <;>
  · go_enter Tryd.func24, Tryd.ntmps24
    go_wp2
    go_ret2
    exact ⟨rfl, rfl⟩
set_option maxHeartbeats 400000 in
theorem place_any (v : Int) (w : World) (h : 0 ≤ v ∧ v ≤ 6) : Calls Tryd.prog 27 #[.int .i64 v] w fun e w' => e = .returned (.tuple #[.int .i64 (atW v), .int .i64 (szW v)]) ∧ w' = w := by
  rcases w_cases h with rfl | rfl | rfl | rfl | rfl | rfl | rfl <;>
  · go_enter Tryd.func27, Tryd.ntmps27
    go_wp2
    go_ret2
    exact ⟨rfl, rfl⟩
set_option maxHeartbeats 400000 in
theorem isRegister_any (v : Int) (w : World) (h : 0 ≤ v ∧ v ≤ 6) : Calls Tryd.prog 28 #[.int .i64 v] w fun e w' => e = .returned (.bool (decide (1 ≤ v ∧ v ≤ 3))) ∧ w' = w := by
  rcases w_cases h with rfl | rfl | rfl | rfl | rfl | rfl | rfl <;>
  · go_enter Tryd.func28, Tryd.ntmps28
    go_wp2
    go_ret
    exact ⟨rfl, rfl⟩
set_option maxHeartbeats 800000 in
theorem field_any (c : Cod) (v : Int) (w : World) (h : 0 ≤ v ∧ v ≤ 6) : Calls Tryd.prog 25 #[c.v, .int .i64 v] w fun e w' => e = .returned (.int .i64 (fld c v)) ∧ Below w.heap.size w w' := by
  unfold Cod.v
  rcases w_cases h with rfl | rfl | rfl | rfl | rfl | rfl | rfl <;>
  · go_enter Tryd.func25, Tryd.ntmps25
    go_wp2
    go_ret
    exact ⟨rfl, by go_grown⟩
set_option maxHeartbeats 1600000 in
theorem with_any (c : Cod) (v n : Int) (w : World) (h : 0 ≤ v ∧ v ≤ 6) : Calls Tryd.prog 26 #[c.v, .int .i64 v, .int .i64 n] w fun e w' => e = .returned (wth c v n).v ∧ Below w.heap.size w w' := by
  unfold Cod.v
  rcases w_cases h with rfl | rfl | rfl | rfl | rfl | rfl | rfl <;>
  · go_enter Tryd.func26, Tryd.ntmps26
    go_wp2
    refine bodyPost_ret (by simp [results, Tryd.results26, go_sem]; exact ⟨rfl, rfl, rfl, rfl, rfl⟩) rfl ⟨rfl, by go_grown⟩
theorem isOp_any (n : Int) (w : World) : Calls Tryd.prog 23 #[.int .i64 n] w fun e w' => e = .returned (.bool (decide (0 ≤ n) && decide (n < 27))) ∧ w' = w := by
  by_cases h1 : 0 ≤ n <;> by_cases h2 : n < 27 <;>
  · go_enter Tryd.func23, Tryd.ntmps23
    go_wp2
    go_ret
    exact ⟨by simp [h1, h2], rfl⟩
end Go.Proofs.YtgldkmabhmlijaaDoor
