/- Words of 32 bits as numbers, and what the small functions over them answer. -/
import Derived.Test.YtfcmgodeehjnoaaDoorShaM
import Derived.Laws.BitsAllLaws
import Derived.Deep.Cut
import Derived.StillTail
namespace Go.Proofs.YtfcmgodeehjnoaaDoor
open Go.RowKit Go.Sort
theorem or_lt32 {a b : Nat} (ha : a < 4294967296) (hb : b < 4294967296) : a ||| b < 4294967296 := Nat.or_lt_two_pow (n := 32) ha hb
theorem xor_lt32 {a b : Nat} (ha : a < 4294967296) (hb : b < 4294967296) : a ^^^ b < 4294967296 := Nat.xor_lt_two_pow (n := 32) ha hb
theorem and_lt32 {a : Nat} (b : Nat) (ha : a < 4294967296) : a &&& b < 4294967296 := Nat.lt_of_le_of_lt Nat.and_le_left ha
theorem shr_lt32 {a : Nat} (n : Nat) (ha : a < 4294967296) : a >>> n < 4294967296 := by
  rw [Nat.shiftRight_eq_div_pow]; exact Nat.lt_of_le_of_lt (Nat.div_le_self _ _) ha
theorem rot_lt {x : Nat} (n : Nat) (hx : x < 4294967296) : rotN x n < 4294967296 := or_lt32 (shr_lt32 _ hx) (Nat.mod_lt _ (by decide))
theorem add_lt (a b : Nat) : addN a b < 4294967296 := Nat.mod_lt _ (by decide)
theorem not_lt (x : Nat) : notN x < 4294967296 := by unfold notN; omega
theorem not_bit (x i : Nat) (hx : x < 4294967296) : (notN x).testBit i = (decide (i < 32) && !x.testBit i) := by
  have h := Nat.testBit_two_pow_sub_succ (n := 32) (by simpa using hx) i
  rw [← h]; unfold notN; congr 1; omega
theorem chosen_eq (x y z : Nat) (hx : x < 4294967296) : (x &&& y) ^^^ (notN x &&& z) = (x &&& y) ||| (notN x &&& z) := by
  apply Nat.eq_of_testBit_eq
  intro i
  simp only [Nat.testBit_xor, Nat.testBit_and, Nat.testBit_or, not_bit x i hx]
  cases x.testBit i <;> cases y.testBit i <;> cases z.testBit i <;> simp
theorem most_eq (x y z : Nat) : ((x &&& y) ^^^ (x &&& z)) ^^^ (y &&& z) = ((x &&& y) ||| (x &&& z)) ||| (y &&& z) := by
  apply Nat.eq_of_testBit_eq
  intro i
  simp only [Nat.testBit_xor, Nat.testBit_and, Nat.testBit_or]
  cases x.testBit i <;> cases y.testBit i <;> cases z.testBit i <;> rfl
theorem addI (a b : Nat) : IntKind.u32.wrap ((a : Int) + (b : Int)) = ((addN a b : Nat) : Int) := by
  rw [IntKind.wrap_u32']; unfold addN; omega
theorem notI (x : Nat) (hx : x < 4294967296) : IntKind.u32.wrap (-1 - (x : Int)) = ((notN x : Nat) : Int) := by
  rw [IntKind.wrap_u32']; unfold notN; omega
theorem shrI (x n : Nat) : (x : Int) / 2 ^ n = ((x >>> n : Nat) : Int) := by
  rw [Nat.shiftRight_eq_div_pow]; simp
theorem shlI (x n : Nat) : IntKind.u32.wrap ((x : Int) * 2 ^ n) = (((x <<< n) % 4294967296 : Nat) : Int) := by
  rw [IntKind.wrap_u32', Nat.shiftLeft_eq]; simp
end Go.Proofs.YtfcmgodeehjnoaaDoor
