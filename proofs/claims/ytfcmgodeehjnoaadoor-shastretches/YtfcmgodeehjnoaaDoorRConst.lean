/- The reference's constants are FIPS 180-4's. -/
import Derived.Test.YtfcmgodeehjnoaaDoorRRoot
import Derived.Test.YtfcmgodeehjnoaaDoorFillM
namespace Go.Proofs.YtfcmgodeehjnoaaDoor
open Go.RowKit Go.Sort
theorem range_at (f : Nat → Nat) (n i : Nat) (h : i < n) : ((List.range n).map f).getD i 0 = f i := by
  rw [List.getD_eq_getElem?_getD, List.getElem?_map, List.getElem?_range h]; rfl
theorem k_at (i : Nat) (h : i < 64) : rootR (primeR 398 2 i) 3 37 0 % 4294967296 = kN.getD i 0 := by
  rw [← k_are, range_at _ 64 i h]
theorem h_at (i : Nat) (h : i < 8) : rootR (primeR 398 2 i) 2 37 0 % 4294967296 = hN.getD i 0 := by
  rw [← h_are, range_at _ 8 i h]
set_option maxRecDepth 100000 in
set_option maxHeartbeats 1000000 in
theorem Constants_any (w : World) : Calls Tryd.prog 13 #[] w fun e w' => e = .returned (.agg (U kN).toArray) ∧ Below w.heap.size w w' := by
  have hl : kN.length = 64 := kN_len
  have HK := Lib.hid k_at
  obtain ⟨L, hL⟩ : ∃ L, kN = L := ⟨_, rfl⟩
  rw [hL] at hl HK ⊢
  clear hL
  have HI := Lib.hid arrInfo
  obtain ⟨W0, hW0, hb0, hR0, hV0, hs0⟩ := two_new w (U (List.replicate 64 0)).toArray (U (fill L 0 0)).toArray 33 33
  have hz : fill L 0 0 = List.replicate 64 0 := by rw [fill_zero, hl]
  rw [hz] at hW0
  go_enter Tryd.func13, Tryd.ntmps13
  go_upto_region 2 with fail
  change Code.wp _ _ _ _ ((w.alloc (.cells (U (List.replicate 64 0)).toArray 33)).alloc (.cells (U (List.replicate 64 0)).toArray 33))
  rw [hW0]
  clear hW0 hz
  go_wp2_with fail
  go_loopw [2] (fun v wr => ∃ i : Nat, v = .int .i64 i ∧ i ≤ 64 ∧ At wr (w.heap.size + 1) 0 (U (fill L 0 i)) ∧ At wr w.heap.size 0 (U (List.replicate 64 0)) ∧ Below w.heap.size w wr) (fun v _ => (64 - intOf v).toNat)
  case atStart => exact ⟨0, rfl, by omega, by simpa using hV0, by simpa using hR0, hb0⟩
  case round =>
    obtain ⟨i, rfl, hi, hV, hR, hbr⟩ := hrel
    clear hV0 hR0 hb0 hs0
    by_cases hlt : i < 64
    · have hii : (i : Int) < 64 := by omega
      have HPr := Lib.hid (fun W => prime_any i W (by omega))
      have HRt := Lib.hid (fun W => root_any (primeR 398 2 i) 3 W (by decide) (by decide))
      rw [HK.out i hlt] at HRt
      obtain ⟨p, hp⟩ : ∃ p, primeR 398 2 i = p := ⟨_, rfl⟩
      rw [hp] at HPr HRt
      have hil : i < L.length := by omega
      have HS := Lib.hid (fill_set L 0 i (L.getD i 0) (by rw [List.getElem?_eq_getElem hil, List.getD_eq_getElem?_getD, List.getElem?_eq_getElem hil]; rfl))
      obtain ⟨x, hx⟩ : ∃ x, L.getD i 0 = x := ⟨_, rfl⟩
      rw [hx] at HRt HS
      have HV := Lib.hid hV
      have HR := Lib.hid hR
      have HB := Lib.hid hbr
      have HLt := Lib.hid hlt
      clear hp hx hV hR hbr hlt hil hi
      go_wp2_with (first
        | (go_at_call 15; refine (HPr.out _).mono ?_; rintro r w2 ⟨rfl, hw⟩; rw [hw]; clear hw)
        | (go_at_call 14; refine (HRt.out _).mono ?_; rintro r w3 ⟨rfl, hb3⟩; refine Hid.out ?_))
      refine Lib.hid ?_
      have hz3 : w.heap.size + 1 < wr.heap.size := HV.out.lt (by rw [U_len, fill_len]; omega)
      have hV3 := HV.out.below hb3 hz3
      have HR3 := Lib.hid (HR.out.below hb3 (by omega))
      have HB3 := Lib.hid (HB.out.trans (hb3.mono HB.out.size))
      have hf := hV3.fz i (by rw [U_len, fill_len]; have := HLt.out; omega)
      have hc := U_at hV3 i (by rw [fill_len]; have := HLt.out; omega)
      rw [Nat.zero_add] at hf hc
      have HV3 := Lib.hid hV3
      clear hV3 hb3
      go_wp2
      refine ⟨⟨i + 1, by go_num, by have := HLt.out; omega, ?_, HR3.out.otherCell _ (.inl (by omega)), Below.setCell HB3.out (by show w.heap.size ≤ w.heap.size + 1; omega) _⟩, by simp only [intOf]; have := HLt.out; omega⟩
      rw [← HS.out, ← U_set]
      have := HV3.out.set i (.int .u32 (x : Int)) (by rw [U_len, fill_len]; have := HLt.out; omega)
      rw [Nat.zero_add] at this
      exact this
    · obtain rfl : i = 64 := by omega
      have hii : ¬ ((64 : Nat) : Int) < 64 := by omega
      have hf : fill L 0 64 = L := by rw [← hl]; exact fill_full L 0
      rw [hf] at hV
      have hsz : (U L).length = 64 := by rw [U_len]; exact hl
      have h1 := all_oneCell_toArray (U_one L)
      have hRs : (U (List.replicate 64 0)).length = 64 := by rw [U_len, List.length_replicate]
      have ht : wr.there w.heap.size 0 (U L).toArray.size := by
        have := hR.there
        rw [hRs] at this
        rw [show (U L).toArray.size = 64 from by rw [List.size_toArray]; exact hsz]; exact this
      have hrs := World.rangeAt_setCells_same wr w.heap.size 0 (U L) (by rw [List.size_toArray] at ht; exact ht)
      have hbe : Below w.heap.size w (wr.setCells w.heap.size 0 (U L)) := (Oth.setCells _ _ _ _).below hbr (Nat.le_refl _) (Nat.le_refl _)
      obtain ⟨CL, hCL⟩ : ∃ CL, U L = CL := ⟨_, rfl⟩
      rw [hCL] at hV h1 hsz ht hrs hbe
      have HCL : Hid (U L = CL) := hCL
      clear hR hbr hCL hl hRs HK hf
      go_wp2_with (first
        | (refine wpList_load_mid rfl 33 _ rfl (w.heap.size + 1) 0 rfl CL _ hV.rng Tryd.underlying33 rfl (by rw [hsz]; exact HI.out) ?_)
        | (refine wpList_store_mid rfl 33 _ _ rfl w.heap.size 0 CL.toArray rfl rfl ht (by rw [List.size_toArray, hsz]; exact HI.out) h1 ?_))
      refine bodyPost_ret (v := .agg CL.toArray) ?_ rfl ⟨by rw [HCL.out], hbe⟩
      exact results_cell_mid Tryd.results13 _ _ w.heap.size 0 CL _ rfl hrs Tryd.underlying33 rfl (by rw [hsz]; exact HI.out)
end Go.Proofs.YtfcmgodeehjnoaaDoor
