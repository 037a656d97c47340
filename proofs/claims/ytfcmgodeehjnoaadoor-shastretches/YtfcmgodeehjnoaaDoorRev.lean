/- A count's eight bytes, the highest first; what stands behind the bytes. -/
import Derived.Test.YtfcmgodeehjnoaaDoorLow
namespace Go.Proofs.YtfcmgodeehjnoaaDoor
open Go.RowKit Go.Sort
theorem mask_a (x : Nat) (hx : x < 65536) : x &&& 71777214294589695 = x % 256 := by
  have h := Nat.and_mod_two_pow (a := x) (b := 71777214294589695) (n := 16)
  have hl : x &&& 71777214294589695 ≤ x := Nat.and_le_left
  rw [Nat.mod_eq_of_lt (by omega : x &&& 71777214294589695 < 2 ^ 16), Nat.mod_eq_of_lt (by omega : x < 2 ^ 16), show 71777214294589695 % 2 ^ 16 = 255 from rfl, nat_mask8] at h
  exact h
theorem mask_b (x : Nat) (hx : x < 65536) : x &&& 281470681808895 = x := by
  have h := Nat.and_mod_two_pow (a := x) (b := 281470681808895) (n := 16)
  have hl : x &&& 281470681808895 ≤ x := Nat.and_le_left
  rw [Nat.mod_eq_of_lt (by omega : x &&& 281470681808895 < 2 ^ 16), Nat.mod_eq_of_lt (by omega : x < 2 ^ 16), show 281470681808895 % 2 ^ 16 = 65535 from rfl, show x &&& 65535 = x % 65536 from Nat.and_two_pow_sub_one_eq_mod x 16] at h
  omega
set_option maxRecDepth 100000 in
set_option maxHeartbeats 1000000 in
theorem rev_any (x : Nat) (w : World) (hx : x < 65536) : Calls Tryd.prog 43 #[.int .u64 (x : Int)] w fun e w' => e = .returned (.int .u64 ((((x / 256 + x % 256 * 256) * 281474976710656 : Nat)) : Int)) ∧ w' = w := by
  have f1 : bits .and .u64 ((x : Int) / 256) 71777214294589695 = ((x / 256 : Nat) : Int) := by
    have := u64_and_nat (x / 256) 71777214294589695 (by omega) (by omega)
    rw [mask_a _ (by omega)] at this
    rw [show ((x : Int) / 256) = ((x / 256 : Nat) : Int) from by omega, show (71777214294589695 : Int) = ((71777214294589695 : Nat) : Int) from rfl, this]; omega
  have f2 : bits .and .u64 (x : Int) 71777214294589695 = ((x % 256 : Nat) : Int) := by
    have := u64_and_nat x 71777214294589695 (by omega) (by omega)
    rw [mask_a _ hx] at this
    exact this
  have f3 : IntKind.u64.wrap (((x % 256 : Nat) : Int) * 256) = ((x % 256 * 256 : Nat) : Int) := by rw [IntKind.wrap_u64]; omega
  have f4 : bits .or .u64 ((x / 256 : Nat) : Int) ((x % 256 * 256 : Nat) : Int) = ((x / 256 + x % 256 * 256 : Nat) : Int) := by
    rw [u64_or_nat _ _ (by omega) (by omega), Nat.or_comm, nat_join 8 _ _ (by omega) (by omega), Nat.add_comm]
  have hy : x / 256 + x % 256 * 256 < 65536 := by omega
  obtain ⟨y, hye⟩ : ∃ y, x / 256 + x % 256 * 256 = y := ⟨_, rfl⟩
  rw [hye] at f4 hy ⊢
  obtain ⟨p, hp⟩ : ∃ p, x / 256 = p := ⟨_, rfl⟩
  obtain ⟨q, hq⟩ : ∃ q, x % 256 = q := ⟨_, rfl⟩
  obtain ⟨r, hr⟩ : ∃ r, x % 256 * 256 = r := ⟨_, rfl⟩
  rw [hr] at f3 f4
  rw [hq] at f2 f3
  rw [hp] at f1 f4
  clear hye hp hq hr hx
  have g1 : (y : Int) / 65536 = 0 := by omega
  have g2 : bits .and .u64 0 281470681808895 = 0 := rfl
  have g3 : bits .and .u64 (y : Int) 281470681808895 = (y : Int) := by
    have := u64_and_nat y 281470681808895 (by omega) (by omega)
    rw [mask_b _ hy] at this
    exact this
  have g4 : IntKind.u64.wrap ((y : Int) * 65536) = ((y * 65536 : Nat) : Int) := by rw [IntKind.wrap_u64]; omega
  have hz : y * 65536 < 4294967296 := by omega
  have hfin : y * 281474976710656 = y * 65536 * 4294967296 := by omega
  rw [hfin]
  obtain ⟨z, hze⟩ : ∃ z, y * 65536 = z := ⟨_, rfl⟩
  rw [hze] at g4 hz ⊢
  clear hfin hze
  have g5 : bits .or .u64 0 (z : Int) = (z : Int) := by
    have := u64_or_nat 0 z (by omega) (by omega)
    rw [Nat.zero_or] at this
    exact this
  have k1 : (z : Int) / 4294967296 = 0 := by omega
  have k2 : IntKind.u64.wrap ((z : Int) * 4294967296) = ((z * 4294967296 : Nat) : Int) := by rw [IntKind.wrap_u64]; omega
  have k3 : bits .or .u64 0 ((z * 4294967296 : Nat) : Int) = ((z * 4294967296 : Nat) : Int) := by
    have := u64_or_nat 0 (z * 4294967296) (by omega) (by omega)
    rw [Nat.zero_or] at this
    exact this
  obtain ⟨v, hv⟩ : ∃ v, z * 4294967296 = v := ⟨_, rfl⟩
  rw [hv] at k2 k3 ⊢
  clear hv hy hz
  go_enter Tryd.func43, Tryd.ntmps43
  go_wp2
  go_ret
  exact ⟨rfl, rfl⟩
theorem low_rev (x : Nat) (hx : x < 65536) : lowL ((x / 256 + x % 256 * 256) * 281474976710656) = bytes8 x := by
  have hr : List.range 8 = [0, 1, 2, 3, 4, 5, 6, 7] := rfl
  unfold lowL bytes8 bytes4
  rw [hr]
  simp only [List.map_cons, List.map_nil, List.cons_append, List.nil_append, Nat.shiftRight_eq_div_pow]
  have h : ∀ a b : Nat, a % 256 = b % 256 → UInt8.ofNat a = UInt8.ofNat b := fun a b h => by
    apply UInt8.toNat_inj.1; simpa using h
  congr 1
  · exact h _ _ (by omega)
  congr 1
  · exact h _ _ (by omega)
  congr 1
  · exact h _ _ (by omega)
  congr 1
  · exact h _ _ (by omega)
  congr 1
  · exact h _ _ (by omega)
  congr 1
  · exact h _ _ (by omega)
  congr 1
  · exact h _ _ (by omega)
  congr 1
  have e : (x / 256 + x % 256 * 256) * 281474976710656 / 72057594037927936 = x % 256 := by
    rw [show 72057594037927936 = 256 * 281474976710656 from rfl, Nat.mul_div_mul_right _ _ (by decide)]; omega
  exact h _ _ (by rw [show (2 : Nat) ^ (8 * 7) = 72057594037927936 from rfl, e]; omega)
set_option maxRecDepth 100000 in
theorem highFirst_any (x : Nat) (w : World) (hx : x < 65536) : Calls Tryd.prog 33 #[.int .u64 (x : Int)] w fun e w' => e = .returned (.string ⟨(bytes8 x).toArray⟩) ∧ Below w.heap.size w w' := by
  have h1 := rev_any x w hx
  have h2 := lowFirst_any ((x / 256 + x % 256 * 256) * 281474976710656) w
  rw [low_rev x hx] at h2
  generalize (x / 256 + x % 256 * 256) * 281474976710656 = y at *
  go_enter Tryd.func33, Tryd.ntmps33
  go_wp2_with (first
    | (go_at_call 43; refine h1.mono ?_; rintro e w' ⟨rfl, rfl⟩)
    | (go_at_call 17; refine h2.mono ?_; rintro e w' ⟨rfl, hb⟩))
  go_ret
  exact ⟨rfl, hb⟩
end Go.Proofs.YtfcmgodeehjnoaaDoor
