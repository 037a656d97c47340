/- Counts as eight bytes. -/
import Derived.Test.YtfcmgodeehjnoaaDoorFillM
namespace Go.Proofs.YtfcmgodeehjnoaaDoor
open Go.RowKit Go.Sort
theorem zero8 : B (List.replicate 8 0) = [.int .u8 0, .int .u8 0, .int .u8 0, .int .u8 0, .int .u8 0, .int .u8 0, .int .u8 0, .int .u8 0] := rfl
set_option maxRecDepth 100000 in
set_option maxHeartbeats 1000000 in
theorem lowFirst_any (x : Nat) (w : World) : Calls Tryd.prog 17 #[.int .u64 (x : Int)] w fun e w' => e = .returned (.string ⟨(lowL x).toArray⟩) ∧ Below w.heap.size w w' := by
  obtain ⟨W0, hW0, hb0, hA0, hs0⟩ := one_new w (B (fill (lowL x) 0 0)).toArray 54
  have HZ : Hid (fill (lowL x) 0 0 = List.replicate 8 0) := Lib.hid (by rw [fill_zero, low_len])
  rw [HZ.out, zero8] at hW0
  go_enter Tryd.func17, Tryd.ntmps17
  go_upto_region 2 with fail
  clear hW0 hs0
  go_wp2_with fail
  go_loopw [5] (fun v wr => ∃ k : Nat, v = .int .i64 k ∧ k ≤ 8 ∧ At wr w.heap.size 0 (B (fill (lowL x) 0 k)) ∧ Below w.heap.size w wr) (fun v _ => (8 - intOf v).toNat)
  case atStart => exact ⟨0, rfl, by omega, by simpa using hA0, hb0⟩
  case round =>
    obtain ⟨k, rfl, hk, hA, hbr⟩ := hrel
    clear hA0 hb0
    by_cases hlt : k < 8
    · have hki : (k : Int) < 8 := by omega
      have h8 : (8 * (k : Int)).toNat = 8 * k := by omega
      have h80 : 0 ≤ 8 * (k : Int) := by omega
      have hm : min (8 * k) 64 = 8 * k := by omega
      have HB := Lib.hid (byteD x (8 * k))
      have HS := Lib.hid (fill_set (lowL x) 0 k _ (low_at x k hlt))
      have hf := hA.fz k (by rw [B_len, fill_len, low_len]; omega)
      have hc := B_at hA k (by rw [fill_len, low_len]; omega)
      rw [Nat.zero_add] at hf hc
      have HA := Lib.hid hA
      have Hb := Lib.hid hbr
      have HK := Lib.hid hlt
      clear hA hbr hk hlt
      go_wp2
      rw [HB.out]
      refine ⟨⟨k + 1, by go_num, by have := HK.out; omega, ?_, Below.setCell Hb.out (Nat.le_refl _) _⟩, by simp [intOf]; have := HK.out; omega⟩
      rw [← HS.out, ← B_set]
      have := HA.out.set k (.int .u8 ((UInt8.ofNat (x >>> (8 * k))).toNat : Int)) (by rw [B_len, fill_len, low_len]; exact HK.out)
      rw [Nat.zero_add] at this
      exact this
    · obtain rfl : k = 8 := by omega
      have hki : ¬ ((8 : Nat) : Int) < 8 := by omega
      have hA8 : At wr w.heap.size 0 (B (lowL x)) := by rw [show fill (lowL x) 0 8 = lowL x from by conv => { lhs; rw [← low_len x] }; exact fill_full _ _] at hA; exact hA
      have hcv := B_back (P := Tryd.prog) (cap := 8) hA8 Tryd.underlying35 Tryd.underlying5 Tryd.underlying9
      rw [low_len] at hcv
      clear hA hA8
      go_wp2
      go_ret
      exact ⟨rfl, hbr⟩
end Go.Proofs.YtfcmgodeehjnoaaDoor
