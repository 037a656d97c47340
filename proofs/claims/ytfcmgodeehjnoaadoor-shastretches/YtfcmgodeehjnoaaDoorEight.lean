/- What Eight of the reference 03 answers. -/
import Derived.Test.YtfcmgodeehjnoaaDoorLow
import Derived.Test.YtfcmgodeehjnoaaDoorHex2
namespace Go.Proofs.YtfcmgodeehjnoaaDoor
open Go.RowKit Go.Sort
/-- The first k bytes, the lowest first. -/
def lowK (x k : Nat) : List UInt8 := (List.range k).map fun i => UInt8.ofNat (x >>> (8 * i))
theorem lowK_eight (x : Nat) : lowK x 8 = lowL x := rfl
theorem lowK_succ (x k : Nat) : lowK x (k + 1) = lowK x k ++ [UInt8.ofNat (x >>> (8 * k))] := by unfold lowK; rw [List.range_succ, List.map_append]; rfl
theorem lowK_len (x k : Nat) : (lowK x k).length = k := by simp [lowK]
theorem shr_eight (x k : Nat) : (x >>> (8 * k)) / 256 = x >>> (8 * (k + 1)) := by
  rw [Nat.shiftRight_eq_div_pow, Nat.shiftRight_eq_div_pow, Nat.div_div_eq_div_mul, show 8 * (k + 1) = 8 * k + 8 from by omega, Nat.pow_add]
set_option maxRecDepth 100000 in
set_option maxHeartbeats 2000000 in
theorem Eight_any (x : Nat) (w : World) (hx : x < 18446744073709551616) : Calls Tryd.prog 18 #[.int .u64 (x : Int)] w fun e w' => e = .returned (.string ⟨(lowL x).toArray⟩) ∧ Below w.heap.size w w' := by
  obtain ⟨i0, hi, hz0, hz1, hz2⟩ := info_parts' byteInfo
  have hO0 : (w.alloc (.cells #[] 5)).ownsRow w.heap.size 5 1 (.slice (some ⟨w.heap.size, 0, none⟩) 0 0) 0 (B (lowK x 0)) := World.ownsRow_lit (base := w.heap.size) (e := 5) (size := 1) w #[] 0 (Nat.le_refl _) (by unfold maxLen; omega) rfl
  have hB0 : Below w.heap.size w (w.alloc (.cells #[] 5)) := (Below.refl _ _).alloc (Nat.le_refl _) _
  go_enter Tryd.func18, Tryd.ntmps18
  go_wp2_with fail
  go_loopw [0, 3, 4] (fun xv v iv wr => ∃ k y : Nat, xv = .int .u64 y ∧ y = x >>> (8 * k) ∧ y ≤ x ∧ iv = .int .i64 k ∧ k ≤ 8 ∧ wr.ownsRow w.heap.size 5 1 v k (B (lowK x k)) ∧ Below w.heap.size w wr) (fun _ _ iv _ => (8 - intOf iv).toNat)
  case atStart => exact ⟨0, x, rfl, by simp, Nat.le_refl _, rfl, by omega, hO0, hB0⟩
  case round =>
    obtain ⟨k, y, rfl, hy, hyx, rfl, hk, hown, hbr⟩ := hrel
    clear hO0 hB0
    by_cases hlt : k < 8
    · have hki : (k : Int) < 8 := by omega
      have HS := Lib.hid (lowK_succ x k)
      rw [← hy] at HS
      have HN := Lib.hid (shr_eight x k)
      rw [← hy] at HN
      obtain ⟨d, hd⟩ : ∃ d, UInt8.ofNat y = d := ⟨_, rfl⟩
      have e1 : IntKind.u8.wrap ((y : Int) % 256) = (d.toNat : Int) := by rw [← hd, IntKind.wrap_u8']; simp
      have e0 : (y : Int) % 256 = (d.toNat : Int) := by rw [← hd]; simp
      have e2 : (y : Int) / 256 = ((y / 256 : Nat) : Int) := by omega
      have e3 : IntKind.u64.wrap ((y / 256 : Nat) : Int) = ((y / 256 : Nat) : Int) := by rw [IntKind.wrap_u64]; omega
      have hle : y / 256 ≤ x := by omega
      have hdl := d.toNat_lt
      have e4 : IntKind.u8.wrap (d.toNat : Int) = (d.toNat : Int) := by rw [IntKind.wrap_u8']; omega
      obtain ⟨z, hz⟩ : ∃ z, y / 256 = z := ⟨_, rfl⟩
      rw [hz] at e2 e3 HN hle
      rw [hd] at HS
      have HOA := Lib.hid (hown.alloc (.cells #[.int .u8 (d.toNat : Int)] 5))
      have HL := Lib.hid hle
      have HLt := Lib.hid hlt
      obtain ⟨sp, cap, hr⟩ := row_form hown
      subst hr
      have HNw : Hid (∀ j u, [Value.int .u8 (d.toNat : Int)][j]? = some u → (wr.alloc (.cells #[.int .u8 (d.toNat : Int)] 5)).cell? ((⟨wr.heap.size, 0, none⟩ : Addr).add j) = some u) := fun j u hu => by
        match j, hu with
        | 0, hu => simp at hu; subst hu; simp [Addr.add, go_sem]
      have hzA : w.heap.size ≤ (wr.alloc (.cells #[.int .u8 (d.toNat : Int)] 5)).heap.size := by have := hbr.size; simp; omega
      have hbX : Below w.heap.size w (wr.alloc (.cells #[.int .u8 (d.toNat : Int)] 5)) := hbr.alloc hbr.size _
      clear hown hd hz hy hyx hle hlt hbr hdl
      go_wp2_with (at_builtin; refine wpList_append_own _ rfl _ _ 35 rfl w.heap.size 5 i0 (.int .u8 0) 1 1 Tryd.underlying35 hi hz0 hz1 hz2 rfl (by decide) _ _ _ rfl HOA.out ⟨wr.heap.size, 0, none⟩ 1 1 [.int .u8 (d.toNat : Int)] rfl rfl HNw.out (fun u hu => by simp at hu; subst hu; rfl) (by unfold maxLen; omega) (by omega) hzA ?_; intro v' w5 hown' hgrow5 hnil5; have HO5 := Lib.hid hown'; have HG := Lib.hid hgrow5; clear hown' hgrow5 hnil5)
      refine ⟨⟨k + 1, z, rfl, HN.out, HL.out, by go_num, by have := HLt.out; omega, ?_, Below.grown hbX HG.out hzA (fun j hj => (HOA.out.lt j hj).1)⟩, by simp only [intOf]; have := HLt.out; omega⟩
      rw [HS.out, show B (lowK x k ++ [d]) = B (lowK x k) ++ [.int .u8 (d.toNat : Int)] from by unfold B; rw [List.map_append]; rfl]
      exact HO5.out
    · obtain rfl : k = 8 := by omega
      have hki : ¬ ((8 : Nat) : Int) < 8 := by omega
      rw [lowK_eight] at hown
      have hcv := own_str hown
      obtain ⟨sp, cap, rfl⟩ := row_form hown
      clear hown hy hyx
      go_wp2
      go_ret
      exact ⟨rfl, hbr⟩
end Go.Proofs.YtfcmgodeehjnoaaDoor
