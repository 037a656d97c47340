/- What number and first of package dir answer. -/
import Derived.Test.YthifejdphflfpaaDoorFind
import Derived.Test.YthifejdphflfpaaDoorTail
import Derived.Laws.BitsAllLaws
namespace Go.Proofs.YthifejdphflfpaaDoor
open Go.RowKit Go.Sort
/-- The number that a row of bytes is, the lowest first. -/
def numL : List UInt8 → Nat
  | [] => 0
  | b :: l => b.toNat + 256 * numL l
theorem numL_snoc (l : List UInt8) (b : UInt8) : numL (l ++ [b]) = numL l + b.toNat * 2 ^ (8 * l.length) := by
  induction l with
  | nil => simp [numL]
  | cons x l ih =>
    show x.toNat + 256 * numL (l ++ [b]) = x.toNat + 256 * numL l + _
    rw [ih, List.length_cons, show 8 * (l.length + 1) = 8 * l.length + 8 from by omega, Nat.pow_add, Nat.mul_add]
    have : 256 * (b.toNat * 2 ^ (8 * l.length)) = b.toNat * (2 ^ (8 * l.length) * 2 ^ 8) := by
      rw [show (2 : Nat) ^ 8 = 256 from rfl, Nat.mul_comm 256, Nat.mul_assoc]
    omega
theorem numL_lt (l : List UInt8) : numL l < 2 ^ (8 * l.length) := by
  induction l with
  | nil => simp [numL]
  | cons x l ih =>
    show x.toNat + 256 * numL l < _
    rw [List.length_cons, show 8 * (l.length + 1) = 8 * l.length + 8 from by omega, Nat.pow_add]
    have := UInt8.toNat_lt x
    show _ < 2 ^ (8 * l.length) * 256
    omega
theorem orU_step (a b k : Nat) (hk : k < 8) (ha : a < 2 ^ (8 * k)) (hb : b < 256) : bits BinOp.or IntKind.u64 (a : Int) (IntKind.u64.wrap (IntKind.u64.wrap (b : Int) * 2 ^ (8 * k))) = ((a + b * 2 ^ (8 * k) : Nat) : Int) := by
  have hp : (2 : Nat) ^ (8 * k) ≤ 2 ^ 56 := Nat.pow_le_pow_right (by decide) (by omega)
  have e1 : IntKind.u64.wrap (b : Int) = b := by rw [IntKind.wrap_u64]; omega
  have hx : b * 2 ^ (8 * k) ≤ 255 * 2 ^ 56 := Nat.mul_le_mul (by omega) hp
  have e2 : ((b : Int) * 2 ^ (8 * k)) = ((b * 2 ^ (8 * k) : Nat) : Int) := by simp
  rw [e1, e2]
  have e3 : IntKind.u64.wrap ((b * 2 ^ (8 * k) : Nat) : Int) = ((b * 2 ^ (8 * k) : Nat) : Int) := by rw [IntKind.wrap_u64]; omega
  rw [e3]
  have ha' : a < 18446744073709551616 := by omega
  show IntKind.u64.wrap ((BitVec.ofInt 64 (a : Int) ||| BitVec.ofInt 64 ((b * 2 ^ (8 * k) : Nat) : Int)).toNat : Int) = _
  rw [BitVec.toNat_or, ofInt_u64 a ha', ofInt_u64 _ (by omega), Nat.or_comm, nat_join (8 * k) _ _ (Nat.mul_mod_left _ _) ha, Nat.add_comm]
  rw [IntKind.wrap_u64]
  generalize b * 2 ^ (8 * k) = z at *
  omega
set_option maxRecDepth 100000 in
set_option maxHeartbeats 1000000 in
theorem number_any (S : ByteArray) (w : World) (hs : 8 ≤ S.size) (hm : S.size ≤ 1000000) : Calls Tryd.prog 59 #[.string S] w fun e w' => e = .returned (.int .i64 (wrap64 (numL (S.data.toList.take 8) : Nat))) ∧ w' = w := by
  have hl : S.data.toList.length = S.size := by simp
  go_enter Tryd.func59, Tryd.ntmps59
  go_wp2_with fail
  go_loopw [3, 5] (fun x y wr => ∃ k : Nat, y = .int .i64 k ∧ k ≤ 8 ∧ x = .int .u64 (numL (S.data.toList.take k) : Nat) ∧ w = wr) (fun _ y _ => (8 - RowKit.intOf y).toNat)
  case atStart => exact ⟨0, rfl, by omega, by simp [numL], rfl⟩
  case round =>
    obtain ⟨k, rfl, hk, rfl, hww⟩ := hrel
    subst hww
    by_cases hlt : k < 8
    · have hki : (k : Int) < 8 := by omega
      have hki2 : (k : Int) < (S.size : Int) := by omega
      have hkS : k < S.size := by omega
      have HL : Hid (numL (S.data.toList.take (k + 1)) = numL (S.data.toList.take k) + S[k].toNat * 2 ^ (8 * k)) := by
        have h1 : S.data.toList.take (k + 1) = S.data.toList.take k ++ [S.data.toList[k]'(by omega)] := List.take_succ_eq_append_getElem (by omega)
        simp only [Hid]
        rw [h1, numL_snoc, List.length_take, Nat.min_eq_left (by omega)]
        congr 2
      have HT : Hid (numL (S.data.toList.take k) < 2 ^ (8 * k)) := by
        have := numL_lt (S.data.toList.take k)
        simp only [Hid]
        rwa [List.length_take, Nat.min_eq_left (by omega)] at this
      clear hl
      go_wp2
      exact ⟨⟨k + 1, by go_num, by omega, by rw [orU_step _ _ k (by omega) HT.out (UInt8.toNat_lt _), HL.out], trivial⟩, by simp [RowKit.intOf]; omega⟩
    · obtain rfl : k = 8 := by omega
      have hki : ¬ ((8 : Nat) : Int) < 8 := by omega
      clear hl
      go_wp2
      go_ret
      exact ⟨rfl, rfl⟩
end Go.Proofs.YthifejdphflfpaaDoor
