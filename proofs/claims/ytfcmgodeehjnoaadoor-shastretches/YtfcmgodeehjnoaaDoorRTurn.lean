/- A word's bits turned, and the primes, as the reference has them. -/
import Derived.Test.YtfcmgodeehjnoaaDoorSmall
import Derived.Test.YtfcmgodeehjnoaaDoorRootM
namespace Go.Proofs.YtfcmgodeehjnoaaDoor
open Go.RowKit Go.Sort
theorem ret_u64 {a b : Int} (h : a = b) : Ending.returned (.int .u64 a) = .returned (.int .u64 b) := by rw [h]
set_option maxRecDepth 100000 in
theorem turn_any (x n : Nat) (w : World) (hx : x < 4294967296) (h1 : 1 ≤ n) (h2 : n ≤ 31) : Calls Tryd.prog 22 #[.int .u32 (x : Int), .int .u64 (n : Int)] w fun e w' => e = .returned (.int .u32 (rotN x n : Nat)) ∧ w' = w := by
  have hk : (32 : Int) - (n : Int) = ((32 - n : Nat) : Int) := by omega
  have hw : IntKind.u64.wrap ((32 - n : Nat) : Int) = ((32 - n : Nat) : Int) := by rw [IntKind.wrap_u64]; omega
  have e1 : min (32 - n) 32 = 32 - n := by omega
  have e2 : min n 32 = n := by omega
  have HB : Hid (bits .or .u32 ((x : Int) / 2 ^ n) ((x : Int) * 2 ^ (32 - n) % 4294967296) = ((rotN x n : Nat) : Int)) := Lib.hid (by
    rw [shl_nat, shrI, u32_or_nat _ _ (shr_lt32 _ hx) (Nat.mod_lt _ (by decide))]; rfl)
  go_enter Tryd.func22, Tryd.ntmps22
  go_wp2
  go_ret
  exact ⟨ret_u32 HB.out, rfl⟩
/-- What the inner loop has found when it has come to d. -/
def okD (p d : Nat) : Bool := (List.range (d - 2)).all fun k => decide (p % (k + 2) ≠ 0)
theorem okD_two (p : Nat) : okD p 2 = true := rfl
theorem okD_succ (p d : Nat) (h : 2 ≤ d) : okD p (d + 1) = (okD p d && decide (p % d ≠ 0)) := by
  unfold okD
  rw [show d + 1 - 2 = (d - 2) + 1 from by omega, List.range_succ, List.all_append]
  simp only [List.all_cons, List.all_nil, Bool.and_true]
  rw [show d - 2 + 2 = d from by omega]
theorem okD_prime (p d : Nat) (h2 : 2 ≤ d) (hp : p < 400) (h : p < d * d) (hlt : ∀ k, 2 ≤ k → k < d → k * k ≤ p) : okD p d = isPrimeR p := by
  have hd : d ≤ 20 := by
    rcases Nat.lt_or_ge 20 d with h20 | h20
    · have := hlt 20 (by decide) h20; omega
    · exact h20
  unfold okD isPrimeR
  rw [Bool.eq_iff_iff, List.all_eq_true, List.all_eq_true]
  constructor
  · intro hh k hk
    rw [List.mem_range] at hk
    by_cases hkd : k < d - 2
    · have := hh k (List.mem_range.2 hkd)
      rw [this, Bool.or_true]
    · have : d * d ≤ (k + 2) * (k + 2) := Nat.mul_le_mul (by omega) (by omega)
      rw [Bool.or_eq_true, decide_eq_true_eq]; left; omega
  · intro hh k hk
    rw [List.mem_range] at hk
    have := hh k (List.mem_range.2 (by omega))
    rw [Bool.or_eq_true, decide_eq_true_eq] at this
    rcases this with h' | h'
    · have := hlt (k + 2) (by omega) (by omega); omega
    · exact h'
theorem prime_yes {f p n : Nat} (h : isPrimeR p = true) : primeR (f + 1) p n = if n = 0 then p else primeR f (p + 1) (n - 1) := by rw [primeR, if_pos h]
theorem prime_no {f p n : Nat} (h : isPrimeR p = false) : primeR (f + 1) p n = primeR f (p + 1) n := by rw [primeR, if_neg (by rw [h]; decide)]
set_option maxRecDepth 100000 in
set_option maxHeartbeats 1000000 in
theorem prime_any (n : Nat) (w : World) (hn : n < 1000) : Calls Tryd.prog 15 #[.int .i64 (n : Int)] w fun e w' => e = .returned (.int .u64 ((primeR 398 2 n : Nat) : Int)) ∧ w' = w := by
  go_enter Tryd.func15, Tryd.ntmps15
  go_wp2_with fail
  go_loopw [0, 3] (fun nv pv wr => ∃ m p : Nat, nv = .int .i64 m ∧ pv = .int .u64 p ∧ 2 ≤ p ∧ p ≤ 400 ∧ m < 1000 ∧ primeR 398 2 n = primeR (400 - p) p m ∧ wr = w) (fun _ pv _ => (400 - intOf pv).toNat)
  case atStart => exact ⟨n, 2, rfl, rfl, by omega, by omega, hn, rfl, rfl⟩
  case round =>
    obtain ⟨m, p, rfl, rfl, hp2, hp, hm, hpr, rfl⟩ := hrel
    by_cases hlt : p < 400
    · have hpi : (p : Int) < 400 := by omega
      go_wp2_with fail
      go_loopw [4, 5] (fun bv dv wz => ∃ d : Nat, dv = .int .u64 d ∧ bv = .bool (okD p d) ∧ 2 ≤ d ∧ d ≤ 21 ∧ (∀ k, 2 ≤ k → k < d → k * k ≤ p) ∧ wz = wr) (fun _ dv _ => (21 - intOf dv).toNat)
      case atStart => exact ⟨2, rfl, by rw [okD_two], by omega, by omega, fun k h1 h2 => by omega, rfl⟩
      case round =>
        obtain ⟨d, rfl, rfl, hd2, hd21, hdk, rfl⟩ := hrel
        obtain ⟨q, hq⟩ : ∃ q, d * d = q := ⟨_, rfl⟩
        have hqI : (d : Int) * (d : Int) = (q : Int) := by rw [← hq]; simp
        have hq441 : q ≤ 441 := by rw [← hq]; exact Nat.mul_le_mul hd21 hd21
        have hd0 : ¬ (d : Int) = 0 := by omega
        have hdi : (d : Int) ≤ 21 := by omega
        have hqi : (q : Int) ≤ 441 := by omega
        by_cases hqp : q ≤ p
        · have hqpi : (q : Int) ≤ (p : Int) := by omega
          obtain ⟨r, hr⟩ : ∃ r, p % d = r := ⟨_, rfl⟩
          have hrI : (p : Int) % (d : Int) = (r : Int) := by rw [← hr]; simp
          have hrT : (p : Int).tmod (d : Int) = (r : Int) := by rw [Int.tmod_eq_emod_of_nonneg (by omega)]; exact hrI
          have HS := Lib.hid (okD_succ p d hd2)
          rw [hr] at HS
          have HK : Hid (∀ k, 2 ≤ k → k < d + 1 → k * k ≤ p) := Lib.hid (fun k h1 h2 => by
            by_cases e : k = d
            · subst e; omega
            · exact hdk k h1 (by omega))
          have HD : Hid (2 ≤ d ∧ d ≤ 20) := Lib.hid ⟨hd2, by
            rcases Nat.lt_or_ge 20 d with h | h
            · have : 21 * 21 ≤ d * d := Nat.mul_le_mul h h
              omega
            · exact h⟩
          by_cases hr0 : r = 0
          · have hr0i : (r : Int) = 0 := by omega
            rw [hr0] at HS
            clear hr hq hdk hd2 hd21 hpr hr0
            go_wp2
            exact ⟨⟨d + 1, by go_num, by rw [HS.out]; simp, by have := HD.out; omega, by have := HD.out; omega, HK.out, trivial⟩, by simp only [intOf]; have := HD.out; omega⟩
          · have hr0i : ¬ (r : Int) = 0 := by omega
            have HS2 : Hid (okD p (d + 1) = okD p d) := Lib.hid (by rw [HS.out]; simp [hr0])
            clear hr hq hdk hd2 hd21 hpr HS
            go_wp2
            exact ⟨⟨d + 1, by go_num, by rw [HS2.out], by have := HD.out; omega, by have := HD.out; omega, HK.out, trivial⟩, by simp only [intOf]; have := HD.out; omega⟩
        · have hqpi : ¬ (q : Int) ≤ (p : Int) := by omega
          have hpq : p < d * d := by omega
          have HO := Lib.hid (okD_prime p d hd2 hlt hpq hdk)
          obtain ⟨f, hf⟩ : ∃ f, 400 - p = f + 1 := ⟨399 - p, by omega⟩
          have hf2 : 400 - (p + 1) = f := by omega
          rw [hf] at hpr
          have HF2 := Lib.hid hf2
          have HP := Lib.hid hpr
          have HL := Lib.hid hlt
          have HP2 := Lib.hid hp2
          have HM := Lib.hid hm
          rw [HO.out]
          cases hpp : isPrimeR p
          · have HN := Lib.hid (prime_no (f := f) (n := m) hpp)
            clear hq hdk hd2 hd21 hpr hpp hf hf2 hlt hp hm hpq HO
            go_wp2
            exact ⟨⟨m, p + 1, rfl, by go_num, by have := HP2.out; omega, by have := HL.out; omega, HM.out, by rw [HP.out, HN.out, HF2.out], trivial⟩, by simp only [intOf]; have := HL.out; omega⟩
          · have HY := Lib.hid (prime_yes (f := f) (n := m) hpp)
            by_cases hm0 : m = 0
            · have hm0i : (m : Int) = 0 := by omega
              rw [if_pos hm0] at HY
              clear hq hdk hd2 hd21 hpr hpp hf hf2 hlt hp hm hpq HO hm0
              go_wp2
              go_ret
              exact ⟨ret_u64 (by rw [HP.out, HY.out]), rfl⟩
            · have hm0i : ¬ (m : Int) = 0 := by omega
              have hm1 : 1 ≤ (m : Int) := by omega
              have hm2 : (m : Int) < 1000 := by omega
              rw [if_neg hm0] at HY
              have HM0 := Lib.hid hm0
              clear hq hdk hd2 hd21 hpr hpp hf hf2 hlt hp hm hpq HO hm0
              go_wp2
              exact ⟨⟨m - 1, p + 1, by have := HM0.out; exact congrArg _ (by omega), by go_num, by have := HP2.out; omega, by have := HL.out; omega, by have := HM.out; omega, by rw [HP.out, HY.out, HF2.out], trivial⟩, by simp only [intOf]; have := HL.out; omega⟩
    · obtain rfl : p = 400 := by omega
      have hpi : ¬ ((400 : Nat) : Int) < 400 := by omega
      have HP : Hid (primeR 398 2 n = 0) := Lib.hid (by rw [hpr]; rfl)
      clear hpr
      go_wp2
      go_ret
      exact ⟨ret_u64 (by rw [HP.out]; rfl), rfl⟩
end Go.Proofs.YtfcmgodeehjnoaaDoor
