/- What Reckon of the reference answers: what the program's result is. -/
import Derived.Test.YtbccckjkmlmhhaaRun
namespace Go.Proofs.Ytbccckjkmlmhhaa
open Go.RowKit Go.Lib
theorem wrap_idR {x : Int} (h : u64ok x) : IntKind.u64.wrap x = x := by rw [IntKind.wrap_u64]; exact Int.emod_eq_of_lt h.1 h.2
theorem shl_step (x : Int) (k : Nat) : IntKind.u64.wrap (IntKind.u64.wrap (x * 2 ^ k) * 2) = IntKind.u64.wrap (x * 2 ^ (k + 1)) := by
  rw [IntKind.wrap_u64, IntKind.wrap_u64, IntKind.wrap_u64, Int.pow_succ, ← Int.mul_assoc]
  generalize x * 2 ^ k = y
  omega
theorem shr_step (x : Int) (k : Nat) : (x / 2 ^ k) / 2 = x / 2 ^ (k + 1) := by
  rw [Int.pow_succ, Int.ediv_ediv_of_nonneg (Int.le_of_lt (Int.pow_pos (by decide)))]
theorem rem_eq {x y : Int} (hx : u64ok x) (hy : u64ok y) (h0 : y ≠ 0) : IntKind.u64.wrap (x - IntKind.u64.wrap (x / y * y)) = x.tmod y := by
  obtain ⟨x1, x2⟩ := hx
  obtain ⟨y1, y2⟩ := hy
  have e2 : x.tmod y = x % y := Int.tmod_eq_emod_of_nonneg x1
  have q1 : 0 ≤ x / y := Int.ediv_nonneg x1 y1
  have q3 : x % y = x - y * (x / y) := by have := Int.mul_ediv_add_emod x y; omega
  have q4 : 0 ≤ x % y := Int.emod_nonneg _ h0
  have q5 : y * (x / y) ≤ x := by omega
  have q6 : 0 ≤ y * (x / y) := Int.mul_nonneg y1 q1
  rw [e2, Int.mul_comm (x / y) y, wrap_idR ⟨q6, by omega⟩, q3, wrap_idR ⟨by omega, by omega⟩]
theorem xor_eq (x y : Int) : bits BinOp.or IntKind.u64 (bits BinOp.andNot IntKind.u64 x y) (bits BinOp.andNot IntKind.u64 y x) = bits BinOp.xor IntKind.u64 x y := by
  have hb : ∀ v : BitVec 64, BitVec.ofInt 64 (IntKind.u64.wrap (v.toNat : Int)) = v := fun v => by
    rw [wrap_idR ⟨by omega, by have := v.isLt; omega⟩]
    simp
  show IntKind.u64.wrap ((BitVec.ofInt 64 (IntKind.u64.wrap ((BitVec.ofInt 64 x &&& ~~~ BitVec.ofInt 64 y).toNat : Int)) ||| BitVec.ofInt 64 (IntKind.u64.wrap ((BitVec.ofInt 64 y &&& ~~~ BitVec.ofInt 64 x).toNat : Int))).toNat : Int) = IntKind.u64.wrap ((BitVec.ofInt 64 x ^^^ BitVec.ofInt 64 y).toNat : Int)
  rw [hb, hb]
  congr 2
  congr 1
  apply BitVec.eq_of_getLsbD_eq
  intro i hi
  simp only [BitVec.getLsbD_or, BitVec.getLsbD_and, BitVec.getLsbD_not, BitVec.getLsbD_xor, hi, decide_true, Bool.true_and]
  cases (BitVec.ofInt 64 x).getLsbD i <;> cases (BitVec.ofInt 64 y).getLsbD i <;> rfl
set_option maxRecDepth 100000 in
set_option maxHeartbeats 4000000 in
theorem Reckon_any (op x y : Int) (w : World) (hop : 6 ≤ op ∧ op ≤ 17) (hx : u64ok x) (hy : u64ok y) : Calls Try.prog 43 #[.int .i64 op, .int .u64 x, .int .u64 y] w fun e w' => e = .returned (.int .u64 (resI op 0 0 x y)) ∧ w' = w := by
  obtain ⟨k, rfl⟩ : ∃ k : Nat, op = k := ⟨op.toNat, by omega⟩
  have hk : k = 6 ∨ k = 7 ∨ k = 8 ∨ k = 9 ∨ k = 10 ∨ k = 11 ∨ k = 12 ∨ k = 13 ∨ k = 14 ∨ k = 15 ∨ k = 16 ∨ k = 17 := by omega
  have hy1 := hy.1
  have hy2 := hy.2
  have hx1 := hx.1
  have hx2 := hx.2
  rcases hk with rfl | rfl | rfl | rfl | rfl | rfl | rfl | rfl | rfl | rfl | rfl | rfl
  · go_enter Try.func43, Try.ntmps43
    go_wp2
    go_ret
    exact ⟨rfl, rfl⟩
  · go_enter Try.func43, Try.ntmps43
    go_wp2
    go_ret
    exact ⟨rfl, rfl⟩
  · go_enter Try.func43, Try.ntmps43
    go_wp2
    go_ret
    exact ⟨rfl, rfl⟩
  · show Calls _ _ _ _ fun e w' => e = .returned (.int .u64 (quoI x y)) ∧ w' = w
    unfold quoI
    by_cases h0 : y = 0
    · rw [if_pos h0]
      subst h0
      go_enter Try.func43, Try.ntmps43
      go_wp2
      go_ret
      exact ⟨rfl, rfl⟩
    · rw [if_neg h0]
      have h0' : (y == 0) = false := by simpa using h0
      rw [show IntKind.u64.wrap (x.tdiv y) = x / y from by
        rw [Int.tdiv_eq_ediv_of_nonneg hx1]; exact wrap_idR ⟨Int.ediv_nonneg hx1 hy1, by have := Int.ediv_le_self y hx1; omega⟩]
      go_enter Try.func43, Try.ntmps43
      go_wp2
      go_ret
      exact ⟨rfl, rfl⟩
  · show Calls _ _ _ _ fun e w' => e = .returned (.int .u64 (remI x y)) ∧ w' = w
    unfold remI
    by_cases h0 : y = 0
    · rw [if_pos h0]
      subst h0
      go_enter Try.func43, Try.ntmps43
      go_wp2
      go_ret
      exact ⟨rfl, rfl⟩
    · rw [if_neg h0]
      have h0' : (y == 0) = false := by simpa using h0
      have HR := Lib.hid (rem_eq hx hy h0)
      go_enter Try.func43, Try.ntmps43
      go_wp2
      go_ret
      refine ⟨?_, rfl⟩
      rw [← HR.out]
      rfl
  · go_enter Try.func43, Try.ntmps43
    go_wp2
    go_ret
    exact ⟨rfl, rfl⟩
  · go_enter Try.func43, Try.ntmps43
    go_wp2
    go_ret
    exact ⟨rfl, rfl⟩
  · have HX := Lib.hid (xor_eq x y)
    go_enter Try.func43, Try.ntmps43
    go_wp2
    go_ret
    refine ⟨?_, rfl⟩
    show _ = Ending.returned (.int .u64 (bits BinOp.xor IntKind.u64 x y))
    rw [← HX.out]
    rfl
  · show Calls _ _ _ _ fun e w' => e = .returned (.int .u64 (IntKind.u64.wrap (x * 2 ^ min y.toNat 64))) ∧ w' = w
    by_cases h64 : 64 ≤ y
    · have hz : IntKind.u64.wrap (x * 2 ^ min y.toNat 64) = 0 := by
        rw [Nat.min_eq_right (by omega), IntKind.wrap_u64, show (2 : Int) ^ 64 = 18446744073709551616 from by decide]
        omega
      rw [hz]
      clear hz
      go_enter Try.func43, Try.ntmps43
      go_wp2
      go_ret
      exact ⟨rfl, rfl⟩
    · rw [Nat.min_eq_left (by omega)]
      obtain ⟨n, rfl⟩ : ∃ n : Nat, y = n := ⟨y.toNat, by omega⟩
      rw [Int.toNat_natCast]
      have hw0 : IntKind.u64.wrap (x * 2 ^ 0) = x := by rw [Int.pow_zero, Int.mul_one, wrap_idR hx]
      go_enter Try.func43, Try.ntmps43
      go_wp2_with fail
      go_loopw [1, 8] (fun a i wr => ∃ k : Nat, k ≤ n ∧ a = .int .u64 (IntKind.u64.wrap (x * 2 ^ k)) ∧ i = .int .u64 k ∧ wr = w) (fun _ i _ => (n - RowKit.intOf i).toNat)
      case atStart => exact ⟨0, by omega, by rw [hw0], rfl, rfl⟩
      case round =>
        obtain ⟨k, hkn, rfl, rfl, rfl⟩ := hrel
        by_cases hlt : k < n
        · have hki : (k : Int) < (n : Int) := by omega
          have HS := Lib.hid (shl_step x k)
          have hki2 : IntKind.u64.wrap ((k : Int) + 1) = (k : Int) + 1 := wrap_idR ⟨by omega, by omega⟩
          generalize IntKind.u64.wrap (x * 2 ^ k) = a at *
          go_wp2
          exact ⟨⟨k + 1, by omega, by rw [HS.out], by go_num, trivial⟩, by simp only [RowKit.intOf]; omega⟩
        · obtain rfl : k = n := by omega
          go_wp2
          go_ret
          exact ⟨rfl, rfl⟩
  · show Calls _ _ _ _ fun e w' => e = .returned (.int .u64 (x / 2 ^ min y.toNat 64)) ∧ w' = w
    by_cases h64 : 64 ≤ y
    · have hz : x / 2 ^ min y.toNat 64 = 0 := by
        rw [Nat.min_eq_right (by omega), show (2 : Int) ^ 64 = 18446744073709551616 from by decide]
        omega
      rw [hz]
      clear hz
      go_enter Try.func43, Try.ntmps43
      go_wp2
      go_ret
      exact ⟨rfl, rfl⟩
    · rw [Nat.min_eq_left (by omega)]
      obtain ⟨n, rfl⟩ : ∃ n : Nat, y = n := ⟨y.toNat, by omega⟩
      rw [Int.toNat_natCast]
      have hw0 : x / 2 ^ 0 = x := by rw [Int.pow_zero, Int.ediv_one]
      go_enter Try.func43, Try.ntmps43
      go_wp2_with fail
      go_loopw [1, 9] (fun a i wr => ∃ k : Nat, k ≤ n ∧ a = .int .u64 (x / 2 ^ k) ∧ i = .int .u64 k ∧ wr = w) (fun _ i _ => (n - RowKit.intOf i).toNat)
      case atStart => exact ⟨0, by omega, by rw [hw0], rfl, rfl⟩
      case round =>
        obtain ⟨k, hkn, rfl, rfl, rfl⟩ := hrel
        by_cases hlt : k < n
        · have hki : (k : Int) < (n : Int) := by omega
          have HS := Lib.hid (shr_step x k)
          have hok := shr_ok k hx
          have hki2 : IntKind.u64.wrap ((k : Int) + 1) = (k : Int) + 1 := wrap_idR ⟨by omega, by omega⟩
          generalize x / 2 ^ k = a at *
          have ha1 := hok.1
          have ha2 := hok.2
          have hq : IntKind.u64.wrap (a.tdiv 2) = a / 2 := by rw [Int.tdiv_eq_ediv_of_nonneg ha1, wrap_idR ⟨by omega, by omega⟩]
          go_wp2
          exact ⟨⟨k + 1, by omega, by rw [HS.out], by go_num, trivial⟩, by simp only [RowKit.intOf]; omega⟩
        · obtain rfl : k = n := by omega
          go_wp2
          go_ret
          exact ⟨rfl, rfl⟩
  · show Calls _ _ _ _ fun e w' => e = .returned (.int .u64 (if decide (x < y) = true then 1 else 0)) ∧ w' = w
    by_cases h : x < y
    · rw [show (if decide (x < y) = true then (1 : Int) else 0) = 1 from by simp [h]]
      go_enter Try.func43, Try.ntmps43
      go_wp2
      all_goals first
        | (exfalso; omega)
        | (go_ret; exact ⟨rfl, rfl⟩)
    · rw [show (if decide (x < y) = true then (1 : Int) else 0) = 0 from by simp [h]]
      go_enter Try.func43, Try.ntmps43
      go_wp2
      all_goals first
        | (exfalso; omega)
        | (go_ret; exact ⟨rfl, rfl⟩)
  · show Calls _ _ _ _ fun e w' => e = .returned (.int .u64 (if (x == y) = true then 1 else 0)) ∧ w' = w
    by_cases h : x = y
    · subst h
      go_enter Try.func43, Try.ntmps43
      go_wp2
      all_goals
        go_ret
        exact ⟨by simp, rfl⟩
    · have hb : (x == y) = false := by simpa using h
      rw [hb]
      go_enter Try.func43, Try.ntmps43
      go_wp2
      all_goals
        go_ret
        exact ⟨by simp, rfl⟩
end Go.Proofs.Ytbccckjkmlmhhaa
