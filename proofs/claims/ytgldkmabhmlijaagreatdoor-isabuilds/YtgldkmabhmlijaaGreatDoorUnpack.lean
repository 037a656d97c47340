/- What unpack of package isa answers, for every four bytes. -/
import Derived.Test.YtgldkmabhmlijaaGreatDoorPack
import Derived.Laws.Strings2
import Derived.Laws.BitsAllLaws
namespace Go.Proofs.YtgldkmabhmlijaaGreatDoor
open Go.RowKit Go.Sort
def byS (s : ByteArray) (i : Nat) : Nat := (s.data.getD i 0).toNat
theorem byS_lt (s : ByteArray) (i : Nat) : byS s i < 256 := UInt8.toNat_lt _
theorem byS_get (s : ByteArray) (i : Nat) (h : i < s.size) : s[i].toNat = byS s i := by
  simp [byS, ByteArray.getElem_eq_getElem_data, Array.getD, h]
theorem wrap64_id {n : Int} (h0 : -9223372036854775808 ≤ n) (h1 : n < 9223372036854775808) : wrap64 n = n := by unfold wrap64; omega
theorem ofInt_wrap (n : Int) : BitVec.ofInt 64 (wrap64 n) = BitVec.ofInt 64 n := by
  apply BitVec.eq_of_toInt_eq
  rw [BitVec.toInt_ofInt, BitVec.toInt_ofInt]
  unfold wrap64
  rw [Int.bmod_def, Int.bmod_def]
  have : ((n + 9223372036854775808) % 18446744073709551616 - 9223372036854775808) % ((2 ^ 64 : Nat) : Int) = n % ((2 ^ 64 : Nat) : Int) := by omega
  rw [this]
theorem or_step (a b k : Nat) (hk : k < 8) (ha : a < 2 ^ (8 * k)) (hb : b < 256) : bits BinOp.or IntKind.i64 (a : Int) (wrap64 (wrap64 (b : Int) * 2 ^ (8 * k))) = wrap64 ((a + b * 2 ^ (8 * k) : Nat) : Int) := by
  have hp : (2 : Nat) ^ (8 * k) ≤ 2 ^ 56 := Nat.pow_le_pow_right (by decide) (by omega)
  have e1 : wrap64 (b : Int) = b := wrap64_id (by omega) (by omega)
  have hx : b * 2 ^ (8 * k) < 18446744073709551616 := by
    have : b * 2 ^ (8 * k) ≤ 255 * 2 ^ 56 := Nat.mul_le_mul (by omega) hp
    omega
  have e2 : ((b : Int) * 2 ^ (8 * k)) = ((b * 2 ^ (8 * k) : Nat) : Int) := by simp
  rw [e1, e2]
  have ha' : a < 18446744073709551616 := by omega
  show IntKind.i64.wrap ((BitVec.ofInt 64 (a : Int) ||| BitVec.ofInt 64 (wrap64 ((b * 2 ^ (8 * k) : Nat) : Int))).toNat : Int) = _
  rw [ofInt_wrap, BitVec.toNat_or, ofInt_u64 a ha', ofInt_u64 _ hx, Nat.or_comm, nat_join (8 * k) _ _ (Nat.mul_mod_left _ _) ha, Nat.add_comm]
  generalize ((a + b * 2 ^ (8 * k) : Nat) : Int) = z
  rw [IntKind.wrap_i64, wrap64]
theorem or0 (b : Nat) (hb : b < 256) : bits BinOp.or IntKind.i64 0 (b : Int) = b := by
  have := or_step 0 b 0 (by omega) (by simp) hb
  rw [wrap64_id (n := (b : Int)) (by omega) (by omega)] at this
  simp only [Nat.mul_zero, Int.pow_zero, Int.mul_one, Nat.pow_zero, Nat.mul_one, Nat.zero_add] at this
  rw [wrap64_id (n := (b : Int)) (by omega) (by omega)] at this
  exact this
theorem or1 (a b : Nat) (ha : a < 256) (hb : b < 256) : bits BinOp.or IntKind.i64 (a : Int) ((b : Int) * 256) = (a : Int) + 256 * b := by
  have := or_step a b 1 (by omega) ha hb
  rw [wrap64_id (n := (b : Int)) (by omega) (by omega)] at this
  simp only [Nat.mul_one, Int.reducePow, Nat.reducePow] at this
  rw [wrap64_id (n := (b : Int) * 256) (by omega) (by omega), wrap64_id (by omega) (by omega)] at this
  rw [this, Int.natCast_add, Int.natCast_mul]; omega
theorem bdn {B : Nat} {w w' : World} (h : Below B w w') (n : Nat) : Below B w (w'.drewN n) := ⟨h.os, h.tape, h.output, h.size, h.block⟩
theorem i16w (x : Int) (h0 : 0 ≤ x) (h1 : x < 65536) : wrap64 (IntKind.i16.wrap x) = if x < 32768 then x else x - 65536 := by
  have e : IntKind.i16.wrap x = if x % 65536 ≥ 32768 then x % 65536 - 65536 else x % 65536 := by
    show (if (true && decide (x % (2 ^ 16 : Int) ≥ (2 ^ (16 - 1) : Int))) = true then x % (2 ^ 16 : Int) - (2 ^ 16 : Int) else x % (2 ^ 16 : Int)) = _
    simp
  rw [e]; unfold wrap64; repeat' split
  all_goals omega
def upW (s : ByteArray) (w : Int) : Int :=
  if w = 1 then byS s 1 else if w = 2 then byS s 2 else if w = 3 ∨ w = 4 then byS s 3
  else if w = 5 then (byS s 2 : Int) + 256 * byS s 3
  else if w = 6 then (if (byS s 2 : Int) + 256 * byS s 3 < 32768 then (byS s 2 : Int) + 256 * byS s 3 else (byS s 2 : Int) + 256 * byS s 3 - 65536) else 0
def up (s : ByteArray) (h : Nat) : Nat → Cod
  | 0 => ⟨byS s 0, 0, 0, 0, 0⟩
  | k + 1 => wth (up s h k) (wd h k) (upW s (wd h k))
def unC (s : ByteArray) : Cod := up s (sh (byS s 0)) 3
end Go.Proofs.YtgldkmabhmlijaaGreatDoor
