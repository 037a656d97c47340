/- What Word of the reference answers. -/
import Derived.Test.YtpedinpjdepjdaaRefE
namespace Go.Proofs.Ytpedinpjdepjdaa
open Go.RowKit
def numR : List UInt8 → Nat
  | [] => 0
  | b :: l => b.toNat + 256 * numR l
theorem numR_lt : ∀ l : List UInt8, numR l < 256 ^ l.length
  | [] => by simp [numR]
  | b :: l => by
    have h1 := numR_lt l
    have h2 : b.toNat < 256 := b.toNat_lt
    simp only [numR, List.length_cons, Nat.pow_succ]
    omega
theorem numR_drop (S : List UInt8) (k : Nat) (h : k < S.length) : numR (S.drop k) = S[k].toNat + 256 * numR (S.drop (k + 1)) := by
  rw [List.drop_eq_getElem_cons h]; rfl
theorem numR_8 (S : List UInt8) (hS : S.length ≤ 8) (k : Nat) : numR (S.drop k) < 18446744073709551616 := by
  have h1 := numR_lt (S.drop k)
  have h2 : 256 ^ (S.drop k).length ≤ 256 ^ 8 := Nat.pow_le_pow_right (by decide) (by rw [List.length_drop]; omega)
  have h3 : (256 : Nat) ^ 8 = 18446744073709551616 := by decide
  omega
set_option maxRecDepth 100000 in
set_option maxHeartbeats 2000000 in
/-- Out of whatever Read answers. -/
theorem Word_of (v : Value) (a : Int) (S : ByteArray) (err : Int) (w : World) (hS : S.size ≤ 8) (HR : Calls Try.prog 18 #[v, .int .i64 a, .int .i64 8] w fun e w' => e = .returned (.tuple #[.string S, .int .i64 err]) ∧ Below w.heap.size w w') :
    Calls Try.prog 23 #[v, .int .i64 a] w fun e w' => e = .returned (.tuple #[.int .u64 (numR S.data.toList : Nat), .int .i64 err]) ∧ Below w.heap.size w w' := by
  have HRd := Lib.hid HR
  clear HR
  have hsl : S.data.toList.length = S.size := by simp
  go_enter Try.func23, Try.ntmps23
  go_wp2_with (go_at_call 18; refine HRd.out.mono ?_; rintro e w2 ⟨rfl, hb2⟩; refine Hid.out ?_)
  refine Lib.hid ?_
  go_wp2_with fail
  go_loopw [8, 9] (fun xv iv wr => ∃ k : Nat, xv = .int .u64 (numR (S.data.toList.drop k) : Nat) ∧ iv = .int .i64 ((k : Int) - 1) ∧ k ≤ S.size ∧ Below w.heap.size w wr) (fun _ iv _ => (intOf iv + 1).toNat)
  case atStart => exact ⟨S.size, by rw [List.drop_of_length_le (by omega)]; rfl, rfl, Nat.le_refl _, hb2⟩
  case round =>
    obtain ⟨k, rfl, rfl, hk, hbr⟩ := hrel
    by_cases h1 : 0 < k
    · obtain ⟨m, rfl⟩ : ∃ m, k = m + 1 := ⟨k - 1, by omega⟩
      have hm : m < S.data.toList.length := by omega
      have hmi : (((m + 1 : Nat) : Int) - 1) = (m : Int) := by omega
      have hsm : (m : Int) < (S.size : Int) := by omega
      have hst := numR_drop S.data.toList m hm
      have hlt := numR_8 S.data.toList (by omega) m
      have hse : S.data.toList[m] = S[m] := by simp [Array.getElem_toList]; rfl
      rw [hse] at hst
      have HST := Lib.hid hst
      obtain ⟨X, hX⟩ : ∃ X, numR (S.data.toList.drop (m + 1)) = X := ⟨_, rfl⟩
      rw [hX] at HST
      have h2 : S[m].toNat < 256 := S[m].toNat_lt
      have hb : S[m].toNat + 256 * X < 18446744073709551616 := by rw [HST.out] at hlt; exact hlt
      have hw1 : IntKind.u64.wrap ((X : Int) * 256) = (X : Int) * 256 := by rw [IntKind.wrap_u64]; omega
      have hw2 : IntKind.u64.wrap ((X : Int) * 256 + (S[m].toNat : Int)) = (X : Int) * 256 + (S[m].toNat : Int) := by rw [IntKind.wrap_u64]; omega
      have hw3 : IntKind.u64.wrap (S[m].toNat : Int) = (S[m].toNat : Int) := by rw [IntKind.wrap_u64]; omega
      have hge : (0 : Int) ≤ (m : Int) := by omega
      rw [hX, hmi]
      clear hX hst hlt hse hmi
      go_wp2
      refine ⟨⟨m, ?_, rfl, by omega, hbr⟩, ?_⟩
      · rw [HST.out]; congr 1; push_cast; omega
      · simp only [intOf]; omega
    · obtain rfl : k = 0 := by omega
      have hge : ¬ (0 : Int) ≤ ((0 : Nat) : Int) - 1 := by omega
      have hge2 : decide ((0 : Int) ≤ ((0 : Nat) : Int) - 1) = false := by decide
      rw [List.drop_zero]
      obtain ⟨X, hX⟩ : ∃ X, numR S.data.toList = X := ⟨_, rfl⟩
      rw [hX]
      have HX := Lib.hid hX
      clear hX
      go_wp2
      go_ret2
      exact ⟨by rw [HX.out]; rfl, hbr⟩
end Go.Proofs.Ytpedinpjdepjdaa
