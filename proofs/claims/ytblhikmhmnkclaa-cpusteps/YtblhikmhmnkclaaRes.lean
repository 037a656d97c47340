/- What the small functions of package cpu answer, for every instruction and all numbers. -/
import Derived.Test.YtblhikmhmnkclaaCodes
import Derived.IntWalk
namespace Go.Proofs.Ytblhikmhmnkclaa
open Go.RowKit
/-- A number of 64 bits. -/
def u64ok (x : Int) : Prop := 0 ≤ x ∧ x < 18446744073709551616
def quoI (b c : Int) : Int := if c = 0 then 18446744073709551615 else IntKind.u64.wrap (b.tdiv c)
def remI (b c : Int) : Int := if c = 0 then b else b.tmod c
theorem quotient_any (b c : Int) (w : World) : Calls Try.prog 46 #[.int .u64 b, .int .u64 c] w fun e w' => e = .returned (.int .u64 (quoI b c)) ∧ w' = w := by
  unfold quoI
  by_cases h : c = 0
  · rw [if_pos h]
    subst h
    go_enter Try.func46, Try.ntmps46
    go_wp2
    go_ret
    exact ⟨rfl, rfl⟩
  · rw [if_neg h]
    go_enter Try.func46, Try.ntmps46
    go_wp2
    go_ret
    exact ⟨rfl, rfl⟩
theorem rest_any (b c : Int) (w : World) : Calls Try.prog 47 #[.int .u64 b, .int .u64 c] w fun e w' => e = .returned (.int .u64 (remI b c)) ∧ w' = w := by
  unfold remI
  by_cases h : c = 0
  · rw [if_pos h]
    subst h
    go_enter Try.func47, Try.ntmps47
    go_wp2
    go_ret
    exact ⟨rfl, rfl⟩
  · rw [if_neg h]
    go_enter Try.func47, Try.ntmps47
    go_wp2
    go_ret
    exact ⟨rfl, rfl⟩
theorem truth_any (b : Bool) (w : World) : Calls Try.prog 48 #[.bool b] w fun e w' => e = .returned (.int .u64 (if b = true then 1 else 0)) ∧ w' = w := by
  cases b <;>
  · go_enter Try.func48, Try.ntmps48
    go_wp2
    go_ret
    exact ⟨rfl, rfl⟩
/-- What becomes of a register. -/
def resI (op n a b c : Int) : Int :=
  if op = 3 then IntKind.u64.wrap n else if op = 4 then IntKind.u64.wrap (IntKind.u64.wrap (a * 65536) + IntKind.u64.wrap n) else if op = 5 then b
  else if op = 6 then IntKind.u64.wrap (b + c) else if op = 7 then IntKind.u64.wrap (b - c) else if op = 8 then IntKind.u64.wrap (b * c)
  else if op = 9 then quoI b c else if op = 10 then remI b c
  else if op = 11 then bits BinOp.and IntKind.u64 b c else if op = 12 then bits BinOp.or IntKind.u64 b c else if op = 13 then bits BinOp.xor IntKind.u64 b c
  else if op = 14 then IntKind.u64.wrap (b * 2 ^ min c.toNat 64) else if op = 15 then b / 2 ^ min c.toNat 64
  else if op = 16 then (if decide (b < c) = true then 1 else 0) else if op = 17 then (if (b == c) = true then 1 else 0) else a
set_option maxRecDepth 100000 in
set_option maxHeartbeats 4000000 in
theorem result_any (d : Cod) (a b c : Int) (w : World) (hc : u64ok c) (ho : 3 ≤ d.op ∧ d.op ≤ 17) : Calls Try.prog 32 #[d.v, .int .u64 a, .int .u64 b, .int .u64 c] w fun e w' => e = .returned (.int .u64 (resI d.op d.n a b c)) ∧ Below w.heap.size w w' := by
  obtain ⟨op, x, y, z, n⟩ := d
  simp only [Cod.v] at ho ⊢
  have h0 : ¬ c < 0 := by have := hc.1; omega
  obtain ⟨k, rfl⟩ : ∃ k : Nat, op = k := ⟨op.toNat, by omega⟩
  have hk : k = 3 ∨ k = 4 ∨ k = 5 ∨ k = 6 ∨ k = 7 ∨ k = 8 ∨ k = 9 ∨ k = 10 ∨ k = 11 ∨ k = 12 ∨ k = 13 ∨ k = 14 ∨ k = 15 ∨ k = 16 ∨ k = 17 := by omega
  rcases hk with rfl | rfl | rfl | rfl | rfl | rfl | rfl | rfl | rfl | rfl | rfl | rfl | rfl | rfl | rfl <;>
  · go_enter Try.func32, Try.ntmps32
    go_wp2_with (first | (go_at_call 46; refine (quotient_any _ _ _).mono ?_; rintro e w' ⟨rfl, rfl⟩) | (go_at_call 47; refine (rest_any _ _ _).mono ?_; rintro e w' ⟨rfl, rfl⟩) | (go_at_call 48; refine (truth_any _ _).mono ?_; rintro e w' ⟨rfl, rfl⟩))
    all_goals
      go_ret
      first
        | exact ⟨rfl, by go_grown⟩
        | (refine ⟨?_, by go_grown⟩; simp_all [resI])
/-- Where go, zero and not lead. -/
def brI (op n next a : Int) : Int := if (op = 23 ∧ a ≠ 0) ∨ (op = 24 ∧ a = 0) then next else IntKind.u64.wrap (next + IntKind.u64.wrap (4 * IntKind.u64.wrap n))
set_option maxRecDepth 100000 in
set_option maxHeartbeats 4000000 in
theorem branch_any (d : Cod) (next a : Int) (w : World) (ho : d.op = 22 ∨ d.op = 23 ∨ d.op = 24) : Calls Try.prog 31 #[d.v, .int .u64 next, .int .u64 a] w fun e w' => e = .returned (.int .u64 (brI d.op d.n next a)) ∧ Below w.heap.size w w' := by
  obtain ⟨op, x, y, z, n⟩ := d
  simp only [Cod.v] at ho ⊢
  unfold brI
  by_cases ha : a = 0
  · subst ha
    rcases ho with rfl | rfl | rfl <;>
    · go_enter Try.func31, Try.ntmps31
      go_wp2
      go_ret
      exact ⟨rfl, by go_grown⟩
  · have h1 : (a == 0) = false := by simpa using ha
    have h2 : (a != 0) = true := by simpa using ha
    simp only [ha, ne_eq, not_false_eq_true, and_true, and_false, or_false]
    rcases ho with rfl | rfl | rfl <;>
    · go_enter Try.func31, Try.ntmps31
      go_wp2
      go_ret
      exact ⟨rfl, by go_grown⟩
end Go.Proofs.Ytblhikmhmnkclaa
