/- What Word of package pages answers. -/
import Derived.Test.YtpedinpjdepjdaaCopy
import Derived.Laws.Strings2
import Derived.Laws.BitsAllLaws
namespace Go.Proofs.Ytpedinpjdepjdaa
open Go.RowKit Go.Lib
/-- The number that a row of bytes is, the lowest first. -/
def numL : List UInt8 → Nat
  | [] => 0
  | b :: l => b.toNat + 256 * numL l
theorem numL_snoc (l : List UInt8) (b : UInt8) : numL (l ++ [b]) = numL l + b.toNat * 2 ^ (8 * l.length) := by
  induction l with
  | nil => simp [numL]
  | cons x l ih =>
    show x.toNat + 256 * numL (l ++ [b]) = x.toNat + 256 * numL l + _
    rw [ih, List.length_cons, show 8 * (l.length + 1) = 8 * l.length + 8 from by omega, Nat.pow_add, Nat.mul_add]
    have : 256 * (b.toNat * 2 ^ (8 * l.length)) = b.toNat * (2 ^ (8 * l.length) * 2 ^ 8) := by
      rw [show (2 : Nat) ^ 8 = 256 from rfl, Nat.mul_comm 256, Nat.mul_assoc]
    omega
theorem numL_lt (l : List UInt8) : numL l < 2 ^ (8 * l.length) := by
  induction l with
  | nil => simp [numL]
  | cons x l ih =>
    show x.toNat + 256 * numL l < _
    rw [List.length_cons, show 8 * (l.length + 1) = 8 * l.length + 8 from by omega, Nat.pow_add]
    have := UInt8.toNat_lt x
    show _ < 2 ^ (8 * l.length) * 256
    omega
theorem orU_step (a b k : Nat) (hk : k < 8) (ha : a < 2 ^ (8 * k)) (hb : b < 256) : bits BinOp.or IntKind.u64 (a : Int) (IntKind.u64.wrap (IntKind.u64.wrap (b : Int) * 2 ^ (8 * k))) = ((a + b * 2 ^ (8 * k) : Nat) : Int) := by
  have hp : (2 : Nat) ^ (8 * k) ≤ 2 ^ 56 := Nat.pow_le_pow_right (by decide) (by omega)
  have e1 : IntKind.u64.wrap (b : Int) = b := by rw [IntKind.wrap_u64]; omega
  have hx : b * 2 ^ (8 * k) ≤ 255 * 2 ^ 56 := Nat.mul_le_mul (by omega) hp
  have e2 : ((b : Int) * 2 ^ (8 * k)) = ((b * 2 ^ (8 * k) : Nat) : Int) := by simp
  rw [e1, e2]
  have e3 : IntKind.u64.wrap ((b * 2 ^ (8 * k) : Nat) : Int) = ((b * 2 ^ (8 * k) : Nat) : Int) := by rw [IntKind.wrap_u64]; omega
  rw [e3]
  have ha' : a < 18446744073709551616 := by omega
  show IntKind.u64.wrap ((BitVec.ofInt 64 (a : Int) ||| BitVec.ofInt 64 ((b * 2 ^ (8 * k) : Nat) : Int)).toNat : Int) = _
  rw [BitVec.toNat_or, ofInt_u64 a ha', ofInt_u64 _ (by omega), Nat.or_comm, nat_join (8 * k) _ _ (Nat.mul_mod_left _ _) ha, Nat.add_comm]
  rw [IntKind.wrap_u64]
  generalize b * 2 ^ (8 * k) = z at *
  omega
set_option maxRecDepth 100000 in
set_option maxHeartbeats 1000000 in
theorem Word_any (base Bb : Nat) (a : Nat) (d : List UInt8) (ls : List (Nat × Bool)) (w : World) (h : BAt w base Bb d ls) (ha : a + 8 ≤ d.length) :
    Calls Try.prog 22 #[.pointer (some ⟨Bb, 0, none⟩), .int .i64 a] w fun e w' => e = .returned (.tuple #[.int .u64 (numL ((d.drop a).take 8) : Nat), .int .i64 0]) ∧ Below w.heap.size w w' := by
  have HR := Lib.hid (Read_any base Bb a 8 d ls w h ha)
  have hl8 : ((d.drop a).take 8).length = 8 := by simp; omega
  generalize (d.drop a).take 8 = s at HR hl8 ⊢
  clear h
  go_enter Try.func22, Try.ntmps22
  go_wp2_with (first | (go_at_call 14; refine HR.out.mono ?_; rintro e w1 ⟨rfl, hb⟩))
  obtain ⟨S, hS⟩ : ∃ S : ByteArray, (⟨s.toArray⟩ : ByteArray) = S := ⟨_, rfl⟩
  have hS8 : S.size = 8 := by rw [← hS]; show s.toArray.size = 8; simpa using hl8
  rw [hS]
  go_loopw [8, 19] (fun x y wr => ∃ k : Nat, y = .int .i64 k ∧ k ≤ 8 ∧ x = .int .u64 (numL (s.take k) : Nat) ∧ wr = w1) (fun _ y _ => (8 - RowKit.intOf y).toNat)
  case atStart => exact ⟨0, rfl, by omega, by simp [numL], rfl⟩
  case round =>
    obtain ⟨k, rfl, hk, rfl, rfl⟩ := hrel
    by_cases hlt : k < 8
    · have hki : (k : Int) < 8 := by omega
      have hkS : k < S.size := by omega
      have HL : Hid (numL (s.take (k + 1)) = numL (s.take k) + S[k].toNat * 2 ^ (8 * k)) := by
        have h1 : s.take (k + 1) = s.take k ++ [s[k]'(by omega)] := List.take_succ_eq_append_getElem (by omega)
        rw [h1, numL_snoc, List.length_take, Nat.min_eq_left (by omega)]
        congr 2
        subst hS
        rfl
      have HT : Hid (numL (s.take k) < 2 ^ (8 * k)) := by
        have := numL_lt (s.take k)
        rwa [List.length_take, Nat.min_eq_left (by omega)] at this
      go_wp2
      exact ⟨⟨k + 1, by go_num, by omega, by rw [orU_step _ _ k hlt HT.out (UInt8.toNat_lt _), HL.out], trivial⟩, by simp [RowKit.intOf]; omega⟩
    · obtain rfl : k = 8 := by omega
      rw [List.take_of_length_le (by omega)]
      go_wp2
      go_ret2
      exact ⟨rfl, hb⟩
/-- A word that isn't there. -/
theorem Word_no (base Bb : Nat) (a : Int) (d : List UInt8) (ls : List (Nat × Bool)) (w : World) (h : BAt w base Bb d ls) (ha : a ≤ 9223372036854775807) (hf : fitsB d.length a 8 = false) :
    Calls Try.prog 22 #[.pointer (some ⟨Bb, 0, none⟩), .int .i64 a] w fun e w' => e = .returned (.tuple #[.int .u64 0, .int .i64 9]) ∧ Below w.heap.size w w' := by
  have HR := Lib.hid (Read_no base Bb a 8 d ls w h ha hf)
  clear h
  go_enter Try.func22, Try.ntmps22
  go_wp2_with (first | (go_at_call 14; refine HR.out.mono ?_; rintro e w1 ⟨rfl, hb⟩))
  go_ret2
  exact ⟨rfl, hb⟩
theorem eight_len (x : Int) : (eight x).length = 8 := by unfold eight; simp
/-- The eight bytes of a number are the number. -/
theorem numL_eight (x : Nat) (hx : x < 18446744073709551616) : numL (eight x) = x := by
  have e : ∀ j, (byteOf (x : Int) j).toNat = x / 2 ^ (8 * j) % 256 := fun j => by
    have := byteOf_nat (x : Int) j
    have h2 : ((x : Int) / 2 ^ (8 * j) % 256) = ((x / 2 ^ (8 * j) % 256 : Nat) : Int) := by simp
    rw [h2] at this
    exact_mod_cast this
  show (byteOf x 0).toNat + 256 * ((byteOf x 1).toNat + 256 * ((byteOf x 2).toNat + 256 * ((byteOf x 3).toNat + 256 * ((byteOf x 4).toNat + 256 * ((byteOf x 5).toNat + 256 * ((byteOf x 6).toNat + 256 * ((byteOf x 7).toNat + 256 * 0))))))) = x
  rw [e, e, e, e, e, e, e, e]
  simp only [Nat.mul_zero, Nat.pow_zero, Nat.div_one, Nat.reduceMul, Nat.reducePow]
  omega
end Go.Proofs.Ytpedinpjdepjdaa
