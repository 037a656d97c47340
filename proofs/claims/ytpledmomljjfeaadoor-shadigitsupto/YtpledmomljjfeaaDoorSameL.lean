/- Same, and the law over it. -/
import Derived.Test.YtpledmomljjfeaaDoorLives
namespace Go.Proofs.YtpledmomljjfeaaDoor
open Go.RowKit Go.Sort
/-- A byte, 0 behind the end. -/
def atB (s : ByteArray) (i : Nat) : UInt8 := s.data.toList.getD i 0
set_option maxRecDepth 100000 in
theorem at_any (s : ByteArray) (i : Nat) (w : World) : Calls Tryd.prog 36 #[.string s, .int .i64 (i : Int)] w fun e w' => e = .returned (.int .u8 ((atB s i).toNat : Int)) ∧ w' = w := by
  by_cases h : i < s.size
  · have hi : (i : Int) < (s.size : Int) := by omega
    have hb : atB s i = s[i] := by
      unfold atB
      rw [List.getD_eq_getElem?_getD, List.getElem?_eq_getElem (by simpa using h)]; rfl
    rw [hb]
    go_enter Tryd.func36, Tryd.ntmps36
    go_wp2
    go_ret
    exact ⟨rfl, rfl⟩
  · have hi : ¬ (i : Int) < (s.size : Int) := by omega
    have hb : atB s i = 0 := by
      unfold atB
      rw [List.getD_eq_getElem?_getD, List.getElem?_eq_none (by simpa using h)]; rfl
    rw [hb]
    go_enter Tryd.func36, Tryd.ntmps36
    go_wp2
    go_ret
    exact ⟨rfl, rfl⟩
/-- What is or'd together from the front: is it nought? -/
theorem or_zero (a b : Nat) : a ||| b = 0 ↔ a = 0 ∧ b = 0 := by
  constructor
  · intro h
    constructor
    · apply Nat.eq_of_testBit_eq; intro i; have := congrArg (·.testBit i) h; simp [Nat.testBit_or] at this; simp [this.1]
    · apply Nat.eq_of_testBit_eq; intro i; have := congrArg (·.testBit i) h; simp [Nat.testBit_or] at this; simp [this.2]
  · rintro ⟨rfl, rfl⟩; rfl
theorem xor_zero (a b : Nat) : a ^^^ b = 0 ↔ a = b := by
  constructor
  · intro h
    apply Nat.eq_of_testBit_eq; intro i
    have := congrArg (·.testBit i) h
    simp only [Nat.testBit_xor, Nat.zero_testBit] at this
    cases h1 : a.testBit i <;> cases h2 : b.testBit i <;> simp_all
  · rintro rfl; exact Nat.xor_self a
theorem i64_xor_nat (a b : Nat) (ha : a < 9223372036854775808) (hb : b < 9223372036854775808) : bits .xor .i64 (a : Int) (b : Int) = ((a ^^^ b : Nat) : Int) := by
  show IntKind.i64.wrap ((BitVec.ofInt 64 (a : Int) ^^^ BitVec.ofInt 64 (b : Int)).toNat : Int) = _
  rw [BitVec.toNat_xor, ofInt_u64 a (by omega), ofInt_u64 b (by omega)]
  have : a ^^^ b < 2 ^ 63 := Nat.xor_lt_two_pow (n := 63) ha hb
  rw [IntKind.wrap_i64]; omega
theorem i64_or_nat (a b : Nat) (ha : a < 9223372036854775808) (hb : b < 9223372036854775808) : bits .or .i64 (a : Int) (b : Int) = ((a ||| b : Nat) : Int) := by
  show IntKind.i64.wrap ((BitVec.ofInt 64 (a : Int) ||| BitVec.ofInt 64 (b : Int)).toNat : Int) = _
  rw [BitVec.toNat_or, ofInt_u64 a (by omega), ofInt_u64 b (by omega)]
  have : a ||| b < 2 ^ 63 := Nat.or_lt_two_pow (n := 63) ha hb
  rw [IntKind.wrap_i64]; omega
theorem same_iff (a b : ByteArray) (h : a.size = b.size) (he : ∀ i, i < max a.size b.size → atB a i = atB b i) : a = b := by
  apply ByteArray.ext
  apply Array.ext'
  apply List.ext_getElem?
  intro i
  have la : a.data.toList.length = a.size := by simp
  have lb : b.data.toList.length = b.size := by simp
  by_cases hi : i < a.size
  · have := he i (by omega)
    unfold atB at this
    rw [List.getD_eq_getElem?_getD, List.getD_eq_getElem?_getD, List.getElem?_eq_getElem (by omega), List.getElem?_eq_getElem (by omega)] at this
    rw [List.getElem?_eq_getElem (by omega), List.getElem?_eq_getElem (by omega)]
    exact congrArg some this
  · rw [List.getElem?_eq_none (by omega), List.getElem?_eq_none (by omega)]
set_option maxRecDepth 100000 in
set_option maxHeartbeats 1000000 in
theorem Same_any (a b : ByteArray) (w : World) (ha : a.size ≤ 9223372036854775807) (hb : b.size ≤ 9223372036854775807) : Calls Tryd.prog 23 #[.string a, .string b] w fun e w' => e = .returned (.bool (decide (a = b))) ∧ w' = w := by
  have hx := i64_xor_nat a.size b.size (by omega) (by omega)
  have hX0 : a.size ^^^ b.size < 9223372036854775808 := Nat.xor_lt_two_pow (n := 63) (by omega) (by omega)
  have hXz := xor_zero a.size b.size
  obtain ⟨X, hX⟩ : ∃ X, a.size ^^^ b.size = X := ⟨_, rfl⟩
  rw [hX] at hx hX0 hXz
  clear hX
  go_enter Tryd.func23, Tryd.ntmps23
  have hmx : ∀ (ts : Array TypeId) (t : TypeId) (W : World), (Builtin.max_ ts t #[.int .i64 (a.size : Int), .int .i64 (b.size : Int)]).run Tryd.prog W = .ok (.int .i64 ((max a.size b.size : Nat) : Int)) W := fun ts t W => by
    simp [Builtin.max_, Builtin.max2]
    omega
  obtain ⟨M, hM⟩ : ∃ M, max a.size b.size = M := ⟨_, rfl⟩
  have HSI := Lib.hid (same_iff a b)
  rw [hM] at hmx HSI
  go_wp2_with fail
  go_loopw [5, 17] (fun u v wr => ∃ k y : Nat, v = .int .i64 k ∧ u = .int .i64 y ∧ k ≤ M ∧ y < 9223372036854775808 ∧ (y = 0 ↔ a.size = b.size ∧ ∀ i, i < k → atB a i = atB b i) ∧ wr = w) (fun _ v _ => (M - intOf v).toNat)
  case atStart => exact ⟨0, X, rfl, rfl, by omega, hX0, by rw [hXz]; simp, rfl⟩
  case round =>
    obtain ⟨k, y, rfl, rfl, hk, hy, hyk, rfl⟩ := hrel
    clear hx hXz hX0 hmx
    by_cases hlt : k < M
    · have hki : (k : Int) < (M : Int) := by omega
      have hkM : (k : Int) + 1 ≤ 9223372036854775807 := by omega
      have hw1 : wrap64 ((k : Int) + 1) = (k : Int) + 1 := by unfold wrap64; omega
      have h1 := at_any a k wr
      have h2 := at_any b k wr
      have HI := Lib.hid hyk
      have HS : Hid ((∀ i, i < k + 1 → atB a i = atB b i) ↔ (∀ i, i < k → atB a i = atB b i) ∧ atB a k = atB b k) := Lib.hid (by
        constructor
        · intro h; exact ⟨fun i hi => h i (by omega), h k (by omega)⟩
        · rintro ⟨h, h'⟩ i hi
          by_cases e : i = k
          · subst e; exact h'
          · exact h i (by omega))
      obtain ⟨p, hp⟩ : ∃ p, atB a k = p := ⟨_, rfl⟩
      obtain ⟨q, hq⟩ : ∃ q, atB b k = q := ⟨_, rfl⟩
      rw [hp] at h1 HS
      rw [hq] at h2 HS
      have hpl := p.toNat_lt
      have hql := q.toNat_lt
      have e1 := u8_xor_nat p.toNat q.toNat hpl hql
      have hz := xor_zero p.toNat q.toNat
      have hzl : p.toNat ^^^ q.toNat < 256 := Nat.xor_lt_two_pow (n := 8) hpl hql
      obtain ⟨z, hze⟩ : ∃ z, p.toNat ^^^ q.toNat = z := ⟨_, rfl⟩
      rw [hze] at e1 hz hzl
      have e2 : IntKind.i64.wrap (z : Int) = (z : Int) := by rw [IntKind.wrap_i64]; omega
      have e3 := i64_or_nat y z hy (by omega)
      have HZ := Lib.hid (or_zero y z)
      have hrl : y ||| z < 9223372036854775808 := Nat.or_lt_two_pow (n := 63) hy (by omega)
      obtain ⟨r, hr⟩ : ∃ r, y ||| z = r := ⟨_, rfl⟩
      rw [hr] at e3 HZ hrl
      have HPQ : Hid (z = 0 ↔ p = q) := Lib.hid (by rw [hz]; exact UInt8.toNat_inj)
      have HR := Lib.hid hrl
      clear hyk hp hq hze hr hz hpl hql hzl hrl hM
      go_wp2_with (first
        | (go_at_call_of 36 (Value.string a); refine h1.mono ?_; rintro e w' ⟨rfl, hw⟩; rw [hw]; clear h1)
        | (go_at_call_of 36 (Value.string b); refine h2.mono ?_; rintro e w' ⟨rfl, hw⟩; rw [hw]; clear h2))
      exact ⟨⟨k + 1, r, by go_num, rfl, by omega, HR.out, by rw [HZ.out, HI.out, HPQ.out, HS.out, and_assoc], trivial⟩, by simp only [intOf]; omega⟩
    · obtain rfl : k = M := by omega
      have hki : ¬ (k : Int) < (k : Int) := by omega
      have hd : decide ((y : Int) = 0) = decide (a = b) := by
        have e : ((y : Int) = 0) ↔ a = b := by
          rw [show ((y : Int) = 0) ↔ y = 0 from by omega, hyk]
          constructor
          · rintro ⟨h1, h2⟩; exact HSI.out h1 h2
          · rintro rfl; exact ⟨rfl, fun _ _ => rfl⟩
        simp only [e]
      have HD := Lib.hid hd
      clear hyk hd hM
      go_wp2
      go_ret
      exact ⟨ret_bool (by rw [← HD.out]; rfl), rfl⟩
set_option maxRecDepth 100000 in
theorem ShaSame_any (a b : ByteArray) (w : World) (hE : Env w) (ha : a.size ≤ 9223372036854775807) (hb : b.size ≤ 9223372036854775807) : Calls Tryd.prog 7 #[.string a, .string b] w fun e w' => e = .returned (.bool true) ∧ Below w.heap.size w w' := by
  have hLv := lives_any w hE
  have HAB := Lib.hid (fun W => Same_any a b W ha hb)
  have HAA := Lib.hid (fun W => Same_any a a W ha ha)
  rw [decide_eq_true rfl] at HAA
  by_cases h : a = b
  · subst h
    clear HAB
    go_enter Tryd.func7, Tryd.ntmps7
    go_wp2_with (first
      | (go_at_call 9; refine hLv.mono ?_; rintro e w1 ⟨rfl, hb1⟩)
      | (go_at_call 23; refine (HAA.out _).mono ?_; rintro e w2 ⟨rfl, hw⟩; rw [hw]))
    go_ret
    exact ⟨ret_bool (by simp), hb1⟩
  · have hd : decide (a = b) = false := decide_eq_false h
    rw [hd] at HAB
    have hne : ¬ a.toList = b.toList := fun h2 => h (by rw [tlE, tlE] at h2; exact ByteArray.ext (Array.ext' h2))
    have hbe : (a.toList == b.toList) = false := by rw [Bool.eq_false_iff]; intro h3; exact hne (by simpa using h3)
    clear hd
    go_enter Tryd.func7, Tryd.ntmps7
    go_wp2_with (first
      | (go_at_call 9; refine hLv.mono ?_; rintro e w1 ⟨rfl, hb1⟩)
      | (go_at_call 23; with_reducible refine (HAB.out _).mono ?_; rintro e w2 ⟨rfl, hw⟩; rw [hw])
      | (go_at_call 23; with_reducible refine (HAA.out _).mono ?_; rintro e w2 ⟨rfl, hw⟩; rw [hw]))
    go_ret
    exact ⟨ret_bool (by first | rfl | simp [hbe]), hb1⟩
end Go.Proofs.YtpledmomljjfeaaDoor
