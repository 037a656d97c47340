/- The eight words as bytes. -/
import Derived.Test.YtfcmgodeehjnoaaDoorMix2
import Derived.Test.YtfcmgodeehjnoaaDoorLow
namespace Go.Proofs.YtfcmgodeehjnoaaDoor
open Go.RowKit Go.Sort
theorem out_at (s : St8) (i j : Nat) (hi : i < 8) (hj : j < 4) : (outN s)[4 * i + j]? = some (UInt8.ofNat ((lst s).getD i 0 >>> (8 * (3 - j)))) := by
  obtain ⟨a, b, c, d, e, f, g, h⟩ := s
  exact match i, j, hi, hj with
  | 0, 0, _, _ => rfl
  | 0, 1, _, _ => rfl
  | 0, 2, _, _ => rfl
  | 0, 3, _, _ => rfl
  | 1, 0, _, _ => rfl
  | 1, 1, _, _ => rfl
  | 1, 2, _, _ => rfl
  | 1, 3, _, _ => rfl
  | 2, 0, _, _ => rfl
  | 2, 1, _, _ => rfl
  | 2, 2, _, _ => rfl
  | 2, 3, _, _ => rfl
  | 3, 0, _, _ => rfl
  | 3, 1, _, _ => rfl
  | 3, 2, _, _ => rfl
  | 3, 3, _, _ => rfl
  | 4, 0, _, _ => rfl
  | 4, 1, _, _ => rfl
  | 4, 2, _, _ => rfl
  | 4, 3, _, _ => rfl
  | 5, 0, _, _ => rfl
  | 5, 1, _, _ => rfl
  | 5, 2, _, _ => rfl
  | 5, 3, _, _ => rfl
  | 6, 0, _, _ => rfl
  | 6, 1, _, _ => rfl
  | 6, 2, _, _ => rfl
  | 6, 3, _, _ => rfl
  | 7, 0, _, _ => rfl
  | 7, 1, _, _ => rfl
  | 7, 2, _, _ => rfl
  | 7, 3, _, _ => rfl
set_option maxRecDepth 100000 in
set_option maxHeartbeats 2000000 in
theorem bytes_any (g : Nat) (s : St8) (T : List Value) (w : World) (h : At w g 0 (U (lst s) ++ T)) : Calls Tryd.prog 26 #[.pointer (some ⟨g, 0, none⟩)] w fun e w' => e = .returned (.string ⟨(outN s).toArray⟩) ∧ Below w.heap.size w w' := by
  have hg : g < w.heap.size := h.lt (by simp [U, lst])
  have hl : (outN s).length = 32 := out_len s
  have HO := Lib.hid (out_at s)
  obtain ⟨L, hL⟩ : ∃ L, outN s = L := ⟨_, rfl⟩
  rw [hL] at hl HO ⊢
  clear hL
  obtain ⟨W0, hW0, hb0, hA0, hs0⟩ := one_new w (B (fill L 0 0)).toArray 65
  have HZ : Hid (B (fill L 0 0) = [.int .u8 0, .int .u8 0, .int .u8 0, .int .u8 0, .int .u8 0, .int .u8 0, .int .u8 0, .int .u8 0, .int .u8 0, .int .u8 0, .int .u8 0, .int .u8 0, .int .u8 0, .int .u8 0, .int .u8 0, .int .u8 0, .int .u8 0, .int .u8 0, .int .u8 0, .int .u8 0, .int .u8 0, .int .u8 0, .int .u8 0, .int .u8 0, .int .u8 0, .int .u8 0, .int .u8 0, .int .u8 0, .int .u8 0, .int .u8 0, .int .u8 0, .int .u8 0]) := Lib.hid (by rw [fill_zero, hl]; rfl)
  rw [HZ.out] at hW0
  go_enter Tryd.func26, Tryd.ntmps26
  go_upto_region 2 with fail
  clear hW0 hs0
  have HH := Lib.hid h
  clear h
  go_wp2_with fail
  go_loopw [8] (fun v wr => ∃ k : Nat, v = .int .i64 k ∧ k ≤ 8 ∧ At wr w.heap.size 0 (B (fill L 0 (4 * k))) ∧ Below w.heap.size w wr) (fun v _ => (8 - intOf v).toNat)
  case atStart => exact ⟨0, rfl, by omega, by simpa using hA0, hb0⟩
  case round =>
    obtain ⟨k, rfl, hk, hA, hbr⟩ := hrel
    clear hA0 hb0
    by_cases hlt : k < 8
    · have hki : (k : Int) < 8 := by omega
      have hG := HH.out.below hbr hg
      have c1 := hd_at hG k (by rw [lst_len]; exact hlt)
      obtain ⟨x, hx⟩ : ∃ x, (lst s).getD k 0 = x := ⟨_, rfl⟩
      have HO2 : Hid (∀ j, j < 4 → L[4 * k + j]? = some (UInt8.ofNat (x >>> (8 * (3 - j))))) := fun j hj => by rw [← hx]; exact HO.out k j hlt hj
      rw [hx] at c1
      have HA := Lib.hid hA
      have Hb := Lib.hid hbr
      have HK := Lib.hid hlt
      clear hA hbr hx hG hk hlt
      go_upto_region 4 with fail
      go_quiet (fail)
      obtain ⟨W1, hW1⟩ : ∃ W1, wr.drewN nq = W1 := ⟨_, rfl⟩
      have hA1 : At W1 w.heap.size 0 (B (fill L 0 (4 * k))) := by rw [← hW1]; exact HA.out.drewN _
      have hb1 : Below w.heap.size w W1 := by rw [← hW1]; exact bdn Hb.out _
      rw [hW1]
      clear hW1 HA Hb c1
      go_wp2_with fail
      go_loopw [14] (fun v wz => ∃ j : Nat, v = .int .i64 j ∧ j ≤ 4 ∧ At wz w.heap.size 0 (B (fill L 0 (4 * k + j))) ∧ Below w.heap.size w wz) (fun v _ => (4 - intOf v).toNat)
      case atStart => exact ⟨0, rfl, by omega, hA1, hb1⟩
      case round =>
        clear hA1 hb1
        obtain ⟨j, rfl, hj, hA, hbz⟩ := hrel
        by_cases hlt : j < 4
        · have hji : (j : Int) < 4 := by omega
          have hK := HK.out
          have i1 : (4 * (k : Int) + (j : Int)).toNat = 4 * k + j := by omega
          have i2 : 0 ≤ 4 * (k : Int) + (j : Int) := by omega
          have i3 : 4 * (k : Int) + (j : Int) < 32 := by omega
          have i4 : (8 * (3 - (j : Int))).toNat = 8 * (3 - j) := by omega
          have i5 : 0 ≤ 8 * (3 - (j : Int)) := by omega
          have HB := Lib.hid (byteD x (8 * (3 - j)))
          have HS := Lib.hid (fill_set L 0 (4 * k + j) _ (HO2.out j hlt))
          have hf := hA.fz (4 * k + j) (by rw [B_len, fill_len, hl]; omega)
          have hc := B_at hA (4 * k + j) (by rw [fill_len, hl]; omega)
          rw [Nat.zero_add] at hf hc
          have HA := Lib.hid hA
          have Hb := Lib.hid hbz
          have HJ := Lib.hid hlt
          clear hA hbz hj hlt hK
          go_wp2
          rw [HB.out]
          refine ⟨⟨j + 1, by go_num, by have := HJ.out; omega, ?_, Below.setCell Hb.out (Nat.le_refl _) _⟩, by simp [intOf]; have := HJ.out; omega⟩
          rw [show 4 * k + (j + 1) = 4 * k + j + 1 from rfl, ← HS.out, ← B_set]
          have := HA.out.set (4 * k + j) (.int .u8 ((UInt8.ofNat (x >>> (8 * (3 - j)))).toNat : Int)) (by rw [B_len, fill_len, hl]; have := HJ.out; have := HK.out; omega)
          rw [Nat.zero_add] at this
          exact this
        · obtain rfl : j = 4 := by omega
          have hji : ¬ ((4 : Nat) : Int) < 4 := by omega
          have HA := Lib.hid hA
          have Hb := Lib.hid hbz
          have hKK := HK.out
          clear hA hbz hj hlt
          go_wp2
          exact ⟨⟨k + 1, by go_num, by omega, HA.out, Hb.out⟩, by simp [intOf]; omega⟩
    · obtain rfl : k = 8 := by omega
      have hki : ¬ ((8 : Nat) : Int) < 8 := by omega
      have hA8 : At wr w.heap.size 0 (B L) := by rw [show 4 * 8 = L.length from by rw [hl], fill_full] at hA; exact hA
      have hcv := B_back (P := Tryd.prog) (cap := 32) hA8 Tryd.underlying35 Tryd.underlying5 Tryd.underlying9
      rw [hl] at hcv
      clear hA hA8
      go_wp2
      go_ret
      exact ⟨rfl, hbr⟩
end Go.Proofs.YtfcmgodeehjnoaaDoor
