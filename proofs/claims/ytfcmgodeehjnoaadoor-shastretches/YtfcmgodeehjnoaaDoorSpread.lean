/- The words that a block has for the steps, as package sha makes them. -/
import Derived.Test.YtfcmgodeehjnoaaDoorRowM
import Derived.Test.YtfcmgodeehjnoaaDoorRng
import Derived.Test.YtfcmgodeehjnoaaDoorWord
import Derived.Test.YtfcmgodeehjnoaaDoorTail
namespace Go.Proofs.YtfcmgodeehjnoaaDoor
open Go.RowKit Go.Sort
def U (l : List Nat) : List Value := l.map fun n : Nat => Value.int .u32 (n : Int)
def B (l : List UInt8) : List Value := l.map fun b : UInt8 => Value.int .u8 (b.toNat : Int)
theorem U_len (l : List Nat) : (U l).length = l.length := by simp [U]
theorem B_len (l : List UInt8) : (B l).length = l.length := by simp [B]
theorem U_set (l : List Nat) (j n : Nat) : (U l).set j (.int .u32 (n : Int)) = U (l.set j n) := by unfold U; rw [List.map_set]
theorem U_at {w : World} {b o : Nat} {l : List Nat} (h : At w b o (U l)) (j : Nat) (hj : j < l.length) : w.cell? ⟨b, o + j, none⟩ = some (.int .u32 (l.getD j 0 : Nat)) := by
  refine h.cell ?_
  unfold U; rw [List.getElem?_map, List.getElem?_eq_getElem hj, List.getD_eq_getElem?_getD, List.getElem?_eq_getElem hj]; rfl
theorem B_at {w : World} {b o : Nat} {l : List UInt8} (h : At w b o (B l)) (j : Nat) (hj : j < l.length) : w.cell? ⟨b, o + j, none⟩ = some (.int .u8 ((l.getD j 0).toNat : Int)) := by
  refine h.cell ?_
  unfold B; rw [List.getElem?_map, List.getElem?_eq_getElem hj, List.getD_eq_getElem?_getD, List.getElem?_eq_getElem hj]; rfl
theorem arrInfo : (Tryd.prog.info? 33).map (·.size) = some 64 := by kernel_rfl
set_option maxRecDepth 100000 in
set_option maxHeartbeats 2000000 in
theorem spread_any (g o : Nat) (m : List UInt8) (w : World) (hm : m.length = 64) (h : At w g o (B m)) :
    Calls Tryd.prog 28 #[.pointer (some ⟨g, o, none⟩)] w fun e w' => e = .returned (.agg (U (rowN m)).toArray) ∧ Below w.heap.size w w' := by
  have hg : g < w.heap.size := h.lt (by rw [B_len]; omega)
  go_enter Tryd.func28, Tryd.ntmps28
  go_upto_region 2 with fail
  obtain ⟨W0, hW0, hb0, hR0, hV0, hs0⟩ := two_new w (U (rowK m 0)).toArray (U (rowK m 0)).toArray 33 33
  change Code.wp _ _ _ _ ((w.alloc (.cells (U (rowK m 0)).toArray 33)).alloc (.cells (U (rowK m 0)).toArray 33))
  rw [hW0]
  have h0 := h.below hb0 hg
  have hgV : g ≠ w.heap.size + 1 := by omega
  clear hW0
  go_wp2_with fail
  go_loopw [6] (fun v wr => ∃ k : Nat, v = .int .i64 k ∧ k ≤ 16 ∧ At wr (w.heap.size + 1) 0 (U (rowK m k)) ∧ At wr w.heap.size 0 (U (rowK m 0)) ∧ At wr g o (B m) ∧ Below w.heap.size w wr) (fun v _ => (16 - intOf v).toNat)
  case atStart => exact ⟨0, rfl, by omega, hV0, hR0, h0, hb0⟩
  case round =>
    obtain ⟨k, rfl, hk, hV, hR, hB, hbr⟩ := hrel
    by_cases hlt : k < 16
    · have hki : (k : Int) < 16 := by omega
      have hk4 : 4 * (k : Int) ≤ 64 := by omega
      have hk0 : 0 ≤ 4 * (k : Int) := by omega
      have hkn : (4 * (k : Int)).toNat = 4 * k := by omega
      have hlen : 4 ≤ 64 - 4 * k := by omega
      have hW : ∀ n, Calls Tryd.prog 34 #[.slice (some ⟨g, o + 4 * k, none⟩) (64 - 4 * k) (64 - 4 * k)] (wr.drewN n) fun e w' => e = .returned (.int .u32 ((rowN m).getD k 0 : Nat)) ∧ Drew (wr.drewN n) w' := fun n => by
        rw [row_first m k hlt]
        have c := hB.drewN n
        exact word_any g (o + 4 * k) _ _ _ _ _ _ _ hlen (B_at c (4 * k) (by omega)) (by have := B_at c (4 * k + 1) (by omega); rw [← Nat.add_assoc] at this; exact this) (by have := B_at c (4 * k + 2) (by omega); rw [← Nat.add_assoc] at this; exact this) (by have := B_at c (4 * k + 3) (by omega); rw [← Nat.add_assoc] at this; exact this)
      have HS := Lib.hid (rowK_set m k (by omega))
      obtain ⟨X, hX⟩ : ∃ X, (rowN m).getD k 0 = X := ⟨_, rfl⟩
      rw [hX] at hW HS
      have HW := Lib.hid hW
      clear hW hX
      have hV2 := hV
      have hfz := hV.fz k (by rw [U_len, rowK_len m k (by omega)]; omega)
      have hcv := U_at hV k (by rw [rowK_len m k (by omega)]; omega)
      rw [Nat.zero_add] at hfz hcv
      have HV := Lib.hid hV
      have HR := Lib.hid hR
      have HB := Lib.hid hB
      have Hbr := Lib.hid hbr
      have hk64 : (k : Int) < 64 := by omega
      clear hV hR hB hbr hV2 hV0 hR0 h0 hb0 h
      go_wp2_with (go_at_call 34; refine (HW.out 0).mono ?_; rintro e w' ⟨rfl, n, rfl⟩)
      refine ⟨⟨k + 1, by go_num, by omega, ?_, ?_, ?_, ?_⟩, by simp [intOf]; omega⟩
      · have := (HV.out.drewN (0 + n)).set k (.int .u32 (X : Nat)) (by rw [U_len, rowK_len m k (by omega)]; omega)
        rw [U_set, HS.out, Nat.zero_add, Nat.zero_add] at this
        exact this
      · exact (HR.out.drewN _).otherCell _ (.inl (by omega))
      · exact (HB.out.drewN _).otherCell _ (.inl hgV)
      · exact Below.setCell (bdn Hbr.out _) (by show w.heap.size ≤ w.heap.size + 1; omega) _
    · obtain rfl : k = 16 := by omega
      have hki : ¬ ((16 : Nat) : Int) < 16 := by omega
      clear h0 hV0 hR0 hb0 h
      go_wp2_with fail
      go_loopw [5] (fun v wr => ∃ k : Nat, v = .int .i64 k ∧ 16 ≤ k ∧ k ≤ 64 ∧ At wr (w.heap.size + 1) 0 (U (rowK m k)) ∧ At wr w.heap.size 0 (U (rowK m 0)) ∧ Below w.heap.size w wr) (fun v _ => (64 - intOf v).toNat)
      case atStart => exact ⟨16, rfl, by omega, by omega, hV, hR, hbr⟩
      case round =>
        clear hV hR hB hbr hk hki
        obtain ⟨k, rfl, hk16, hk, hV, hR, hbr⟩ := hrel
        by_cases hlt : k < 64
        · have hki : (k : Int) < 64 := by omega
          have hln : (rowK m k).length = 64 := rowK_len m k hk
          have i1 : ((k : Int) - 16).toNat = k - 16 := by omega
          have i2 : ((k : Int) - 15).toNat = k - 15 := by omega
          have i3 : ((k : Int) - 7).toNat = k - 7 := by omega
          have i4 : ((k : Int) - 2).toNat = k - 2 := by omega
          have j1 : 0 ≤ (k : Int) - 16 ∧ (k : Int) - 16 < 64 := by omega
          have j2 : 0 ≤ (k : Int) - 15 ∧ (k : Int) - 15 < 64 := by omega
          have j3 : 0 ≤ (k : Int) - 7 ∧ (k : Int) - 7 < 64 := by omega
          have j4 : 0 ≤ (k : Int) - 2 ∧ (k : Int) - 2 < 64 := by omega
          obtain ⟨j1, j1'⟩ := j1
          obtain ⟨j2, j2'⟩ := j2
          obtain ⟨j3, j3'⟩ := j3
          obtain ⟨j4, j4'⟩ := j4
          have c1 := U_at hV (k - 16) (by omega)
          have c2 := U_at hV (k - 15) (by omega)
          have c3 := U_at hV (k - 7) (by omega)
          have c4 := U_at hV (k - 2) (by omega)
          have c0 := U_at hV k (by omega)
          rw [rowK_at m k _ (by omega) hk, Nat.zero_add] at c1 c2 c3 c4
          rw [Nat.zero_add] at c0
          have hfz := hV.fz k (by rw [U_len]; omega)
          rw [Nat.zero_add] at hfz
          have HS := Lib.hid (row_step m k hk16 hlt)
          have l2 := row_lt m (k - 15)
          have l4 := row_lt m (k - 2)
          have HX := Lib.hid (rowK_set m k hlt)
          obtain ⟨x1, hx1⟩ : ∃ x1, (rowN m).getD (k - 16) 0 = x1 := ⟨_, rfl⟩
          obtain ⟨x2, hx2⟩ : ∃ x2, (rowN m).getD (k - 15) 0 = x2 := ⟨_, rfl⟩
          obtain ⟨x3, hx3⟩ : ∃ x3, (rowN m).getD (k - 7) 0 = x3 := ⟨_, rfl⟩
          obtain ⟨x4, hx4⟩ : ∃ x4, (rowN m).getD (k - 2) 0 = x4 := ⟨_, rfl⟩
          rw [hx1] at c1 HS
          rw [hx2] at c2 HS l2
          rw [hx3] at c3 HS
          rw [hx4] at c4 HS l4
          have HA : Hid (∀ W, Calls Tryd.prog 35 #[.int .u32 (x2 : Int), .int .i64 7, .int .i64 18, .int .i64 3] W fun e w' => e = .returned (.int .u32 (sig0 x2 : Nat)) ∧ Drew W w') := fun W => shifted_any x2 7 18 3 W l2 (by decide) (by decide) (by decide)
          have HC : Hid (∀ W, Calls Tryd.prog 35 #[.int .u32 (x4 : Int), .int .i64 17, .int .i64 19, .int .i64 10] W fun e w' => e = .returned (.int .u32 (sig1 x4 : Nat)) ∧ Drew W w') := fun W => shifted_any x4 17 19 10 W l4 (by decide) (by decide) (by decide)
          have a1 := addI x1 (sig0 x2)
          have a2 := addI (addN x1 (sig0 x2)) x3
          have a3 := addI (addN (addN x1 (sig0 x2)) x3) (sig1 x4)
          have HV := Lib.hid hV
          have HR := Lib.hid hR
          have Hbr := Lib.hid hbr
          clear hV hR hbr hx1 hx2 hx3 hx4 l2 l4
          go_upto_region 10 with fail
          refine wp_region_tail_d 23 (by kernel_rfl) (by kernel_rfl) ?_
          simp only [List.take_succ_cons, List.take_zero, List.drop_succ_cons, List.drop_zero]
          repeat (go_big_quiet_step (first
            | (go_at_call_of 35 (Value.int .u32 (x2 : Int)); with_reducible exact Calls.quiet_of (HA.out _))
            | (go_at_call_of 35 (Value.int .u32 (x4 : Int)); with_reducible exact Calls.quiet_of (HC.out _))))
          refine wpQuiet_nil ?_
          intro _ hw'
          obtain ⟨nq, hw''⟩ := hw'
          subst hw''
          go_wp2
          refine ⟨⟨k + 1, by go_num, by omega, by omega, ?_, ?_, ?_⟩, by simp [intOf]; omega⟩
          · have e : (rowK m k).set k (addN (addN (addN x1 (sig0 x2)) x3) (sig1 x4)) = rowK m (k + 1) := by rw [HS.out]; exact HX.out
            have := (HV.out.drewN nq).set k (.int .u32 ((addN (addN (addN x1 (sig0 x2)) x3) (sig1 x4) : Nat) : Int)) (by rw [U_len]; omega)
            rw [U_set, e, Nat.zero_add] at this
            exact this
          · exact (HR.out.drewN _).otherCell _ (.inl (by omega))
          · exact Below.setCell (bdn Hbr.out _) (by show w.heap.size ≤ w.heap.size + 1; omega) _
        · obtain rfl : k = 64 := by omega
          have hki : ¬ ((64 : Nat) : Int) < 64 := by omega
          rw [rowK_full] at hV
          have hl := row_len m
          have hl0 : (rowK m 0).length = 64 := rowK_len m 0 (by omega)
          obtain ⟨L, hL⟩ : ∃ L, rowN m = L := ⟨_, rfl⟩
          rw [hL] at hV hl
          have h1 := all_oneCell_toArray (cs := U L) (by intro v hv; unfold U at hv; obtain ⟨x, _, rfl⟩ := List.mem_map.1 hv; rfl)
          have hsz : (U L).length = 64 := by rw [U_len]; exact hl
          have hRs : (U (rowK m 0)).length = 64 := by rw [U_len]; exact hl0
          have ht : wr.there w.heap.size 0 (U L).toArray.size := by
            have := hR.there
            rw [hRs] at this
            rw [show (U L).toArray.size = 64 from by rw [List.size_toArray]; exact hsz]; exact this
          have hrs := World.rangeAt_setCells_same wr w.heap.size 0 (U L) (by rw [List.size_toArray] at ht; exact ht)
          have hbe : Below w.heap.size w (wr.setCells w.heap.size 0 (U L)) := (Oth.setCells _ _ _ _).below hbr (Nat.le_refl _) (Nat.le_refl _)
          obtain ⟨CL, hCL⟩ : ∃ CL, U L = CL := ⟨_, rfl⟩
          rw [hCL] at hV h1 hsz ht hrs hbe
          have HCL : Hid (U (rowN m) = CL) := Lib.hid (by rw [hL]; exact hCL)
          have HI := Lib.hid arrInfo
          clear hR hbr hL hCL hl hl0 hRs hm
          go_wp2_with (first
            | (refine wpList_load_mid rfl 33 _ rfl (w.heap.size + 1) 0 rfl CL _ hV.rng Tryd.underlying33 rfl (by rw [hsz]; exact HI.out) ?_)
            | (refine wpList_store_mid rfl 33 _ _ rfl w.heap.size 0 CL.toArray rfl rfl ht (by rw [List.size_toArray, hsz]; exact HI.out) h1 ?_))
          refine bodyPost_ret (v := .agg CL.toArray) ?_ rfl ⟨by rw [HCL.out], hbe⟩
          exact results_cell_mid Tryd.results28 _ _ w.heap.size 0 CL _ rfl hrs Tryd.underlying33 rfl (by rw [hsz]; exact HI.out)
end Go.Proofs.YtfcmgodeehjnoaaDoor
