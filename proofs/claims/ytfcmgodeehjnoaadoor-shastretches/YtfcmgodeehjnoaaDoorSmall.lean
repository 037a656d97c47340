/- What the small functions over words answer. -/
import Derived.Test.YtfcmgodeehjnoaaDoorWd
import Derived.Deep.QuietTactic
namespace Go.Proofs.YtfcmgodeehjnoaaDoor
open Go.RowKit Go.Sort
theorem mask31 (i : Nat) (h1 : 1 ≤ i) (h2 : i ≤ 31) : bits .and .u64 (IntKind.u64.wrap (-(i : Int))) 31 = ((32 - i : Nat) : Int) := by
  have e : IntKind.u64.wrap (-(i : Int)) = ((18446744073709551616 - i : Nat) : Int) := by rw [IntKind.wrap_u64]; omega
  rw [e, show (31 : Int) = ((31 : Nat) : Int) from rfl, u64_and_nat _ _ (by omega) (by omega), nat_mask5]
  congr 1; omega
theorem ret_u32 {a b : Int} (h : a = b) : Ending.returned (.int .u32 a) = .returned (.int .u32 b) := by rw [h]
theorem shl_nat (x n : Nat) : (x : Int) * 2 ^ n % 4294967296 = (((x <<< n) % 4294967296 : Nat) : Int) := by
  rw [Nat.shiftLeft_eq]; simp
theorem rot_bits (x i : Nat) (hx : x < 4294967296) (_h2 : i ≤ 31) : bits .or .u32 ((x : Int) * 2 ^ (32 - i) % 4294967296) ((x : Int) / 2 ^ i) = ((rotN x i : Nat) : Int) := by
  rw [shl_nat, shrI, u32_or_nat _ _ (Nat.mod_lt _ (by decide)) (shr_lt32 _ hx), Nat.or_comm]; rfl
theorem not_xor (x : Nat) (hx : x < 4294967296) : 4294967295 ^^^ x = notN x := by
  apply Nat.eq_of_testBit_eq
  intro i
  rw [not_bit x i hx, Nat.testBit_xor, show (4294967295 : Nat) = 2 ^ 32 - 1 from rfl, Nat.testBit_two_pow_sub_one]
  by_cases h : i < 32
  · simp [h]
  · have : x.testBit i = false := Nat.testBit_lt_two_pow (Nat.lt_of_lt_of_le (m := 2 ^ 32) hx (Nat.pow_le_pow_right (by decide) (by omega : 32 ≤ i)))
    simp [h, this]
set_option maxRecDepth 100000 in
theorem rotl_any (x i : Nat) (w : World) (hx : x < 4294967296) (h1 : 1 ≤ i) (h2 : i ≤ 31) : Calls Tryd.prog 36 #[.int .u32 x, .int .i64 (-(i : Int))] w fun e w' => e = .returned (.int .u32 (rotN x i : Nat)) ∧ w' = w := by
  have hm := mask31 i h1 h2
  have hk : (32 : Int) - ((32 - i : Nat) : Int) = (i : Nat) := by omega
  have hw : IntKind.u64.wrap (i : Int) = (i : Nat) := by rw [IntKind.wrap_u64]; omega
  have e1 : min (32 - i) 32 = 32 - i := by omega
  have e2 : min i 32 = i := by omega
  go_enter Tryd.func36, Tryd.ntmps36
  go_wp2
  go_ret
  exact ⟨ret_u32 (rot_bits x i hx h2), rfl⟩
set_option maxRecDepth 100000 in
theorem turned_any (x i j k : Nat) (w : World) (hx : x < 4294967296) (hi : 1 ≤ i ∧ i ≤ 31) (hj : 1 ≤ j ∧ j ≤ 31) (hk : 1 ≤ k ∧ k ≤ 31) : Calls Tryd.prog 29 #[.int .u32 x, .int .i64 i, .int .i64 j, .int .i64 k] w fun e w' => e = .returned (.int .u32 (((rotN x i ^^^ rotN x j) ^^^ rotN x k : Nat))) ∧ w' = w := by
  have h1 := rotl_any x i w hx hi.1 hi.2
  have h2 := rotl_any x j w hx hj.1 hj.2
  have h3 := rotl_any x k w hx hk.1 hk.2
  have l1 := rot_lt i hx
  have l2 := rot_lt j hx
  have l3 := rot_lt k hx
  generalize rotN x i = a at *
  generalize rotN x j = b at *
  generalize rotN x k = c at *
  have e1 := u32_xor_nat a b l1 l2
  have e2 := u32_xor_nat _ c (xor_lt32 l1 l2) l3
  go_enter Tryd.func29, Tryd.ntmps29
  go_wp2_with (first
    | (go_at_call_of 36 (Value.int .u32 (x : Int)); go_fit h1; rintro e w' ⟨rfl, hw⟩; rw [hw]; clear h1)
    | (go_at_call_of 36 (Value.int .u32 (x : Int)); go_fit h2; rintro e w' ⟨rfl, hw⟩; rw [hw]; clear h2)
    | (go_at_call_of 36 (Value.int .u32 (x : Int)); go_fit h3; rintro e w' ⟨rfl, hw⟩; rw [hw]; clear h3))
  go_ret
  exact ⟨rfl, rfl⟩
theorem neg_wrap (i : Nat) (h : i ≤ 31) : IntKind.i64.wrap (-(i : Int)) = -(i : Int) := by rw [IntKind.wrap_i64]; omega
/-- Only numbers were drawn. -/
def Drew (w w' : World) : Prop := ∃ n, w' = w.drewN n
set_option maxRecDepth 100000 in
theorem shifted_any (x i j k : Nat) (w : World) (hx : x < 4294967296) (hi : 1 ≤ i ∧ i ≤ 31) (hj : 1 ≤ j ∧ j ≤ 31) (hk : 1 ≤ k ∧ k ≤ 31) : Calls Tryd.prog 35 #[.int .u32 x, .int .i64 i, .int .i64 j, .int .i64 k] w fun e w' => e = .returned (.int .u32 (((rotN x i ^^^ rotN x j) ^^^ (x >>> k) : Nat))) ∧ Drew w w' := by
  have h1 := fun W => rotl_any x i W hx hi.1 hi.2
  have h2 := fun W => rotl_any x j W hx hj.1 hj.2
  have l1 := rot_lt i hx
  have l2 := rot_lt j hx
  have e1 := u32_xor_nat _ _ l1 l2
  have e2 := u32_xor_nat _ (x >>> k) (xor_lt32 l1 l2) (shr_lt32 k hx)
  have e3 : min k 32 = k := by omega
  have e4 := shrI x k
  have n1 := neg_wrap i hi.2
  have n2 := neg_wrap j hj.2
  go_enter Tryd.func35, Tryd.ntmps35
  go_upto_region 1 with fail
  go_quiet (first
    | (go_at_call_of 36 (Value.int .u32 (x : Int)); with_reducible exact Calls.quiet_of_same (h1 _))
    | (go_at_call_of 36 (Value.int .u32 (x : Int)); with_reducible exact Calls.quiet_of_same (h2 _)))
  go_wp2
  go_ret
  exact ⟨ret_u32 (by rw [← e2]; rfl), _, rfl⟩
set_option maxRecDepth 100000 in
theorem chosen_any (x y z : Nat) (w : World) (hx : x < 4294967296) (hy : y < 4294967296) (hz : z < 4294967296) : Calls Tryd.prog 30 #[.int .u32 x, .int .u32 y, .int .u32 z] w fun e w' => e = .returned (.int .u32 (((x &&& y) ||| (notN x &&& z) : Nat))) ∧ w' = w := by
  go_enter Tryd.func30, Tryd.ntmps30
  go_wp2
  go_ret
  refine ⟨ret_u32 ?_, rfl⟩
  rw [u32_and_nat _ _ hx hy, show IntKind.u32.max = ((4294967295 : Nat) : Int) from rfl, u32_xor_nat _ _ (by decide) hx, not_xor x hx, u32_and_nat _ _ (not_lt x) hz, u32_xor_nat _ _ (and_lt32 _ hx) (and_lt32 _ (not_lt x)), chosen_eq _ _ _ hx]
set_option maxRecDepth 100000 in
theorem most_any (x y z : Nat) (w : World) (hx : x < 4294967296) (hy : y < 4294967296) (hz : z < 4294967296) : Calls Tryd.prog 31 #[.int .u32 x, .int .u32 y, .int .u32 z] w fun e w' => e = .returned (.int .u32 ((((x &&& y) ||| (x &&& z)) ||| (y &&& z) : Nat))) ∧ w' = w := by
  go_enter Tryd.func31, Tryd.ntmps31
  go_wp2
  go_ret
  refine ⟨ret_u32 ?_, rfl⟩
  rw [u32_and_nat _ _ hx hy, u32_and_nat _ _ hx hz, u32_and_nat _ _ hy hz, u32_xor_nat _ _ (and_lt32 _ hx) (and_lt32 _ hx), u32_xor_nat _ _ (xor_lt32 (and_lt32 _ hx) (and_lt32 _ hx)) (and_lt32 _ hy), most_eq]
end Go.Proofs.YtfcmgodeehjnoaaDoor
