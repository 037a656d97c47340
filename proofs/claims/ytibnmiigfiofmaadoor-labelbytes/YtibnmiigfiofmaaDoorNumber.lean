/- What number of package label answers: the sum of eight bytes, the lowest first. -/
import Derived.Test.YtibnmiigfiofmaaDoorBytes
import Derived.Laws.BitsAllLaws
namespace Go.Proofs.YtibnmiigfiofmaaDoor
open Go.RowKit Go.Sort

def sumB (f : Nat → Nat) : Nat → Nat
  | 0 => 0
  | k + 1 => sumB f k + f k * 2 ^ (8 * k)
theorem pow8 (k : Nat) : 2 ^ (8 * (k + 1)) = 256 * 2 ^ (8 * k) := by rw [Nat.mul_add, Nat.pow_add, Nat.mul_comm]
theorem sumB_lt {f : Nat → Nat} (hf : ∀ i, f i < 256) (k : Nat) : sumB f k < 2 ^ (8 * k) := by
  induction k with
  | zero => simp [sumB]
  | succ k ih =>
    rw [sumB, pow8]
    have h1 : f k * 2 ^ (8 * k) ≤ 255 * 2 ^ (8 * k) := Nat.mul_le_mul_right _ (by have := hf k; omega)
    omega
theorem sumB_digit {f : Nat → Nat} (hf : ∀ i, f i < 256) (i d : Nat) : sumB f (i + 1 + d) / 2 ^ (8 * i) % 256 = f i := by
  induction d with
  | zero =>
    rw [Nat.add_zero, sumB, Nat.add_mul_div_right _ _ (Nat.two_pow_pos _), Nat.div_eq_of_lt (sumB_lt hf i), Nat.zero_add, Nat.mod_eq_of_lt (hf i)]
  | succ d ih =>
    rw [← Nat.add_assoc, sumB]
    have e : 2 ^ (8 * (i + 1 + d)) = 256 * 2 ^ (8 * d) * 2 ^ (8 * i) := by
      rw [← pow8, ← Nat.pow_add]; congr 1; omega
    rw [e, ← Nat.mul_assoc, Nat.add_mul_div_right _ _ (Nat.two_pow_pos _), ← Nat.mul_assoc, Nat.mul_right_comm, Nat.add_mul_mod_self_right, ih]
theorem sumB_back (c k : Nat) : sumB (fun i => c / 2 ^ (8 * i) % 256) k = c % 2 ^ (8 * k) := by
  induction k with
  | zero => simp [sumB, Nat.mod_one]
  | succ k ih => rw [sumB, ih, pow8, Nat.mul_comm 256, Nat.mod_mul, Nat.mul_comm (2 ^ (8 * k))]
theorem sumB_congr {f g : Nat → Nat} {k : Nat} (h : ∀ i, i < k → f i = g i) : sumB f k = sumB g k := by
  induction k with
  | zero => rfl
  | succ k ih => rw [sumB, sumB, ih (fun i hi => h i (by omega)), h k (by omega)]
theorem wrap64_id {n : Int} (h0 : -9223372036854775808 ≤ n) (h1 : n < 9223372036854775808) : wrap64 n = n := by unfold wrap64; omega
theorem ofInt_wrap (n : Int) : BitVec.ofInt 64 (wrap64 n) = BitVec.ofInt 64 n := by
  apply BitVec.eq_of_toInt_eq
  rw [BitVec.toInt_ofInt, BitVec.toInt_ofInt]
  unfold wrap64
  rw [Int.bmod_def, Int.bmod_def]
  have : ((n + 9223372036854775808) % 18446744073709551616 - 9223372036854775808) % ((2 ^ 64 : Nat) : Int) = n % ((2 ^ 64 : Nat) : Int) := by omega
  rw [this]
theorem or_step (a b k : Nat) (hk : k < 8) (ha : a < 2 ^ (8 * k)) (hb : b < 256) : bits BinOp.or IntKind.i64 (a : Int) (wrap64 (wrap64 (b : Int) * 2 ^ (8 * k))) = wrap64 ((a + b * 2 ^ (8 * k) : Nat) : Int) := by
  have hp : (2 : Nat) ^ (8 * k) ≤ 2 ^ 56 := Nat.pow_le_pow_right (by decide) (by omega)
  have e1 : wrap64 (b : Int) = b := wrap64_id (by omega) (by omega)
  have hx : b * 2 ^ (8 * k) < 18446744073709551616 := by
    have : b * 2 ^ (8 * k) ≤ 255 * 2 ^ 56 := Nat.mul_le_mul (by omega) hp
    omega
  have e2 : ((b : Int) * 2 ^ (8 * k)) = ((b * 2 ^ (8 * k) : Nat) : Int) := by simp
  rw [e1, e2]
  have ha' : a < 18446744073709551616 := by omega
  show IntKind.i64.wrap ((BitVec.ofInt 64 (a : Int) ||| BitVec.ofInt 64 (wrap64 ((b * 2 ^ (8 * k) : Nat) : Int))).toNat : Int) = _
  rw [ofInt_wrap, BitVec.toNat_or, ofInt_u64 a ha', ofInt_u64 _ hx, Nat.or_comm, nat_join (8 * k) _ _ (Nat.mul_mod_left _ _) ha, Nat.add_comm]
  generalize ((a + b * 2 ^ (8 * k) : Nat) : Int) = z
  rw [IntKind.wrap_i64, wrap64]

def byteAt (bs : ByteArray) (o i : Nat) : Nat := (bs.data.getD (o + i) 0).toNat
theorem byteAt_lt (bs : ByteArray) (o i : Nat) : byteAt bs o i < 256 := UInt8.toNat_lt _
set_option maxRecDepth 100000 in
theorem number_any (bs : ByteArray) (w : World) (hl : bs.size = 8) : Calls Tryd.prog 66 #[.string bs] w fun e w' => e = .returned (.int .i64 (wrap64 (sumB (byteAt bs 0) 8 : Nat))) ∧ w' = w := by
  go_enter Tryd.func66, Tryd.ntmps66
  go_wp2
  go_loopw [3, 7] (fun r i wr => ∃ k : Nat, k ≤ 8 ∧ i = .int .i64 k ∧ r = .int .i64 (wrap64 (sumB (byteAt bs 0) k : Nat)) ∧ wr = w) (fun _ i _ => 8 - (intOf i).toNat)
  case atStart => exact ⟨0, by omega, rfl, by simp [sumB, wrap64], rfl⟩
  case round =>
    obtain ⟨k, hk, rfl, rfl, rfl⟩ := hrel
    by_cases hlt : k < 8
    · have h1 : k < bs.size := by omega
      have h2 : (k : Int) < (bs.size : Int) := by omega
      have hsl := sumB_lt (byteAt_lt bs 0) k
      have hp : (2 : Nat) ^ (8 * k) ≤ 2 ^ 56 := Nat.pow_le_pow_right (by decide) (by omega)
      have e0 : wrap64 (sumB (byteAt bs 0) k : Nat) = (sumB (byteAt bs 0) k : Nat) := wrap64_id (by omega) (by omega)
      have hb : bs[k].toNat = byteAt bs 0 k := by simp [byteAt, ByteArray.getElem_eq_getElem_data, Array.getD, h1]
      have HO : Hid (bits BinOp.or IntKind.i64 ((sumB (byteAt bs 0) k : Nat) : Int) (wrap64 (wrap64 ((bs[k].toNat : Nat) : Int) * 2 ^ (8 * k))) = wrap64 (sumB (byteAt bs 0) (k + 1) : Nat)) := by
        rw [hb]; exact or_step _ _ k hlt hsl (byteAt_lt bs 0 k)
      clear hb
      rw [e0]
      clear e0
      go_wp2
      go_roundw
      case rel => exact ⟨k + 1, by omega, by go_num, by rw [HO.out], trivial⟩
      case measure => simp [intOf]; omega
    · obtain rfl : k = 8 := by omega
      go_wp2
      go_ret
      exact ⟨rfl, rfl⟩
end Go.Proofs.YtibnmiigfiofmaaDoor
