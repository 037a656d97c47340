/- A block mixed in, as the reference does it. -/
import Derived.Test.YtfcmgodeehjnoaaDoorRConst
import Derived.Test.YtfcmgodeehjnoaaDoorTail
namespace Go.Proofs.YtfcmgodeehjnoaaDoor
open Go.RowKit Go.Sort
theorem made_U (n : Nat) : (madeCells #[.int .u32 0] n).toList = U (List.replicate n 0) := by
  unfold madeCells U
  apply List.ext_getElem?
  intro i
  rw [Array.getElem?_toList]
  by_cases h : i < n
  · simp [h, Nat.mod_one]
  · simp [h]
theorem u32Info : (Tryd.prog.info? 32).map (fun i => (i.zero, i.size, i.bytes)) = some (some (.int .u32 0), 1, 4) := by kernel_rfl
theorem arr8Info : (Tryd.prog.info? 38).map (·.size) = some 8 := by kernel_rfl
/-- Four blocks laid one behind the other. -/
theorem four_new (w : World) (X Y Z V : Array Value) (a b c d : TypeId) : ∃ W, (((w.alloc (.cells X a)).alloc (.cells Y b)).alloc (.cells Z c)).alloc (.cells V d) = W ∧ Below w.heap.size w W ∧ At W w.heap.size 0 X.toList ∧ At W (w.heap.size + 1) 0 Y.toList ∧ At W (w.heap.size + 2) 0 Z.toList ∧ At W (w.heap.size + 3) 0 V.toList ∧ W.heap.size = w.heap.size + 4 := by
  obtain ⟨W, hW, hb, hX, hY, hs⟩ := two_new w X Y a b
  obtain ⟨W2, hW2, hb2, hX2, hY2, hs2⟩ := two_new W Z V c d
  rw [hs] at hX2 hY2
  exact ⟨W2, by rw [hW, hW2], hb.trans (hb2.mono (by omega)), hX.below hb2 (by omega), hY.below hb2 (by omega), hX2, hY2, by omega⟩
set_option maxRecDepth 100000 in
set_option maxHeartbeats 4000000 in
theorem block_any (g o cp : Nat) (s : St8) (m : List UInt8) (w : World) (hs : Ok s) (hm : m.length = 64) (h : At w g o (B m)) :
    Calls Tryd.prog 16 #[.agg (U (lst s)).toArray, .slice (some ⟨g, o, none⟩) 64 cp, .agg (U kN).toArray] w fun e w' => e = .returned (.agg (U (lst (blockN s m))).toArray) ∧ Below w.heap.size w w' := by
  have hg : g < w.heap.size := h.lt (by rw [B_len]; omega)
  have HH := Lib.hid h
  have hkl := kN_len
  obtain ⟨K, hK⟩ : ∃ K, kN = K := ⟨_, rfl⟩
  have HK : Hid (kN = K) := hK
  rw [hK] at hkl ⊢
  obtain ⟨W0, hW0, hb0, hS0, hK0, hR0, hV0, hs0⟩ := four_new w (U (lst s)).toArray (U K).toArray (U (List.replicate 8 0)).toArray (madeCells #[.int .u32 0] 64) 38 33 38 32
  rw [made_U] at hV0
  have hmk : ∀ W : World, (Instr.makeSlice 52 (.int .i64 64) (.int .i64 64)).run Tryd.prog W = .ok (.slice (some ⟨W.heap.size, 0, none⟩) 64 64) (W.alloc (.cells (madeCells #[.int .u32 0] 64) 32)) := fun W : World => run_make_row' (P := Tryd.prog) 52 32 (.int .u32 0) 4 Tryd.underlying52 u32Info rfl .i64 .i64 64 (by omega) (by omega) W
  clear h hK
  go_enter Tryd.func16, Tryd.ntmps16
  obtain ⟨MC, hMC⟩ : ∃ MC, madeCells #[Value.int .u32 0] 64 = MC := ⟨_, rfl⟩
  rw [hMC] at hmk hW0
  clear hMC
  go_upto_region 2 with fail
  change Code.wp _ _ _ _ ((((w.alloc (.cells (U (lst s)).toArray 38)).alloc (.cells (U K).toArray 33)).alloc (.cells (U (List.replicate 8 0)).toArray 38)).alloc (.cells MC 32))
  rw [hW0]
  have hz : w.heap.size + 3 < W0.heap.size := by omega
  have hzw : w.heap.size ≤ W0.heap.size := by omega
  clear hW0 hmk hs0
  have HHb := Lib.hid (HH.out.below hb0 hg)
  obtain ⟨V, hV⟩ : ∃ V, w.heap.size + 1 + 1 + 1 = V := ⟨_, rfl⟩
  obtain ⟨D, hD⟩ : ∃ D, w.heap.size + 1 + 1 = D := ⟨_, rfl⟩
  obtain ⟨C, hC⟩ : ∃ C, w.heap.size + 1 = C := ⟨_, rfl⟩
  obtain ⟨A, hA⟩ : ∃ A, w.heap.size = A := ⟨_, rfl⟩
  rw [show w.heap.size + 3 = V from hV] at hV0 hz
  rw [show w.heap.size + 2 = D from hD] at hR0
  rw [hC] at hK0
  rw [hA] at hS0
  rw [hV, hD, hC, hA]
  have hAV : A ≠ V := by omega
  have hCV : C ≠ V := by omega
  have hDV : D ≠ V := by omega
  have hgV : g ≠ V := by omega
  have hwV : w.heap.size ≤ V := by omega
  have hwD : w.heap.size ≤ D := by omega
  have HS0 := Lib.hid hS0
  have HK0 := Lib.hid hK0
  have HR0 := Lib.hid hR0
  have Hb0 := Lib.hid hb0
  rw [show List.replicate 64 0 = rowK m 0 from rfl] at hV0
  clear hV hD hC hA hS0 hK0 hR0 hb0
  go_wp2_with fail
  go_loopw [8] (fun v wr => ∃ i : Nat, v = .int .i64 i ∧ i ≤ 16 ∧ At wr V 0 (U (rowK m i)) ∧ Oth V W0 wr) (fun v _ => (16 - intOf v).toNat)
  case atStart => exact ⟨0, rfl, by omega, hV0, Oth.refl _ _⟩
  case round =>
    obtain ⟨i, rfl, hi, hV, hO⟩ := hrel
    clear hV0
    by_cases hlt : i < 16
    · have hii : (i : Int) < 16 := by omega
      have hG := HHb.out.oth hO hgV (by rw [B_len]; omega)
      have c0 := B_at hG (4 * i) (by omega)
      have c1 := B_at hG (4 * i + 1) (by omega)
      have c2 := B_at hG (4 * i + 2) (by omega)
      have c3 := B_at hG (4 * i + 3) (by omega)
      have n0 : (4 * (i : Int)).toNat = 4 * i := by omega
      have n1 : (4 * (i : Int) + 1).toNat = 4 * i + 1 := by omega
      have n2 : (4 * (i : Int) + 2).toNat = 4 * i + 2 := by omega
      have n3 : (4 * (i : Int) + 3).toNat = 4 * i + 3 := by omega
      have p0 : 0 ≤ 4 * (i : Int) := by omega
      have p1 : 0 ≤ 4 * (i : Int) + 1 := by omega
      have p2 : 0 ≤ 4 * (i : Int) + 2 := by omega
      have p3 : 0 ≤ 4 * (i : Int) + 3 := by omega
      have r0 : 4 * (i : Int) < 64 := by omega
      have r1 : 4 * (i : Int) + 1 < 64 := by omega
      have r2 : 4 * (i : Int) + 2 < 64 := by omega
      have r3 : 4 * (i : Int) + 3 < 64 := by omega
      have hln : (rowK m i).length = 64 := rowK_len m i (by omega)
      have hcv := U_at hV i (by omega)
      have hfv := hV.fz i (by rw [U_len]; omega)
      rw [Nat.zero_add] at hcv hfv
      have hwd := row_first m i hlt
      unfold wordN at hwd
      have HSet := Lib.hid (rowK_set m i (by omega))
      obtain ⟨a, ha⟩ : ∃ a, m.getD (4 * i) 0 = a := ⟨_, rfl⟩
      obtain ⟨b, hb⟩ : ∃ b, m.getD (4 * i + 1) 0 = b := ⟨_, rfl⟩
      obtain ⟨c, hc⟩ : ∃ c, m.getD (4 * i + 2) 0 = c := ⟨_, rfl⟩
      obtain ⟨d, hd⟩ : ∃ d, m.getD (4 * i + 3) 0 = d := ⟨_, rfl⟩
      rw [ha] at c0 hwd
      rw [hb] at c1 hwd
      rw [hc] at c2 hwd
      rw [hd] at c3 hwd
      have ba := a.toNat_lt; have bb := b.toNat_lt; have bc := c.toNat_lt; have bd := d.toNat_lt
      have HOr := Lib.hid (w4_or _ _ _ _ ba bb bc bd)
      obtain ⟨x, hx⟩ : ∃ x, (rowN m).getD i 0 = x := ⟨_, rfl⟩
      rw [hx] at HSet hwd
      have HX : Hid (bits .or .u32 (bits .or .u32 (bits .or .u32 ((a.toNat : Int) * 16777216) ((b.toNat : Int) * 65536)) ((c.toNat : Int) * 256)) (d.toNat : Int) = (x : Int)) := Lib.hid (by rw [HOr.out, ← hwd])
      have HV := Lib.hid hV
      have HO := Lib.hid hO
      have HLt := Lib.hid hlt
      have HLn := Lib.hid hln
      clear hV hO hG ha hb hc hd hx hwd hln hlt hi HOr
      have hX := HX.out
      go_upto_region 5 with fail
      refine wp_region_tail_d 36 (by kernel_rfl) (by kernel_rfl) ?_
      simp only [List.take_succ_cons, List.take_zero, List.drop_succ_cons, List.drop_zero]
      repeat (go_big_quiet_step (fail))
      refine wpQuiet_nil ?_
      intro _ hw'
      obtain ⟨nq, hw''⟩ := hw'
      subst hw''
      go_wp2
      refine ⟨⟨i + 1, by go_num, by have := HLt.out; omega, ?_, HO.out.trans ((Oth.drewN _ _ _).trans (Oth.setCell _ _ _ _))⟩, by simp only [intOf]; have := HLt.out; omega⟩
      rw [← HSet.out, ← U_set]
      have := (HV.out.drewN nq).set i (.int .u32 (x : Int)) (by rw [U_len, HLn.out]; have := HLt.out; omega)
      rw [Nat.zero_add] at this
      exact this
    · obtain rfl : i = 16 := by omega
      have hii : ¬ ((16 : Nat) : Int) < 16 := by omega
      go_wp2_with fail
      go_loopw [9] (fun v wz => ∃ k : Nat, v = .int .i64 k ∧ 16 ≤ k ∧ k ≤ 64 ∧ At wz V 0 (U (rowK m k)) ∧ Oth V W0 wz) (fun v _ => (64 - intOf v).toNat)
      case atStart => exact ⟨16, rfl, by omega, by omega, hV, hO⟩
      case round =>
        clear hV hO hi hii
        obtain ⟨k, rfl, hk16, hk, hV, hO⟩ := hrel
        by_cases hlt : k < 64
        · have hki : (k : Int) < 64 := by omega
          have hln : (rowK m k).length = 64 := rowK_len m k hk
          have i1 : ((k : Int) - 16).toNat = k - 16 := by omega
          have i2 : ((k : Int) - 15).toNat = k - 15 := by omega
          have i3 : ((k : Int) - 7).toNat = k - 7 := by omega
          have i4 : ((k : Int) - 2).toNat = k - 2 := by omega
          obtain ⟨j1, j1'⟩ : 0 ≤ (k : Int) - 16 ∧ (k : Int) - 16 < 64 := by omega
          obtain ⟨j2, j2'⟩ : 0 ≤ (k : Int) - 15 ∧ (k : Int) - 15 < 64 := by omega
          obtain ⟨j3, j3'⟩ : 0 ≤ (k : Int) - 7 ∧ (k : Int) - 7 < 64 := by omega
          obtain ⟨j4, j4'⟩ : 0 ≤ (k : Int) - 2 ∧ (k : Int) - 2 < 64 := by omega
          have HC : Hid (∀ W : World, At W V 0 (U (rowK m k)) → W.cell? ⟨V, k - 16, none⟩ = some (.int .u32 ((rowN m).getD (k - 16) 0 : Nat)) ∧ W.cell? ⟨V, k - 15, none⟩ = some (.int .u32 ((rowN m).getD (k - 15) 0 : Nat)) ∧ W.cell? ⟨V, k - 7, none⟩ = some (.int .u32 ((rowN m).getD (k - 7) 0 : Nat)) ∧ W.cell? ⟨V, k - 2, none⟩ = some (.int .u32 ((rowN m).getD (k - 2) 0 : Nat)) ∧ (∃ v, W.cell? ⟨V, k, none⟩ = some (.int .u32 v)) ∧ W.frozen? ⟨V, k, none⟩ = false) := fun W hA => by
            have c1 := U_at hA (k - 16) (by omega)
            have c2 := U_at hA (k - 15) (by omega)
            have c3 := U_at hA (k - 7) (by omega)
            have c4 := U_at hA (k - 2) (by omega)
            have c0 := U_at hA k (by omega)
            rw [rowK_at m k _ (by omega) hk, Nat.zero_add] at c1 c2 c3 c4
            rw [Nat.zero_add] at c0
            have hfz := hA.fz k (by rw [U_len]; omega)
            rw [Nat.zero_add] at hfz
            exact ⟨c1, c2, c3, c4, ⟨_, c0⟩, hfz⟩
          have hNx := row_next m k hk16 hlt
          unfold nextN at hNx
          have HSet := Lib.hid (rowK_set m k hlt)
          have l2 := row_lt m (k - 15)
          have l4 := row_lt m (k - 2)
          obtain ⟨x1, hx1⟩ : ∃ x1, (rowN m).getD (k - 16) 0 = x1 := ⟨_, rfl⟩
          obtain ⟨x2, hx2⟩ : ∃ x2, (rowN m).getD (k - 15) 0 = x2 := ⟨_, rfl⟩
          obtain ⟨x3, hx3⟩ : ∃ x3, (rowN m).getD (k - 7) 0 = x3 := ⟨_, rfl⟩
          obtain ⟨x4, hx4⟩ : ∃ x4, (rowN m).getD (k - 2) 0 = x4 := ⟨_, rfl⟩
          obtain ⟨x5, hx5⟩ : ∃ x5, (rowN m).getD k 0 = x5 := ⟨_, rfl⟩
          rw [hx1] at HC hNx
          rw [hx2] at HC hNx l2
          rw [hx3] at HC hNx
          rw [hx4] at HC hNx l4
          rw [hx5] at HSet hNx
          have HA7 := Lib.hid (fun W => turn_any x2 7 W l2 (by decide) (by decide))
          have HA18 := Lib.hid (fun W => turn_any x2 18 W l2 (by decide) (by decide))
          have HB17 := Lib.hid (fun W => turn_any x4 17 W l4 (by decide) (by decide))
          have HB19 := Lib.hid (fun W => turn_any x4 19 W l4 (by decide) (by decide))
          have d2 : (x2 : Int) / (8 : Int) = ((x2 >>> 3 : Nat) : Int) := by rw [← shrI]; rfl
          have d4 : (x4 : Int) / (1024 : Int) = ((x4 >>> 10 : Nat) : Int) := by rw [← shrI]; rfl
          have e1 := u32_xor_nat _ _ (rot_lt 7 l2) (rot_lt 18 l2)
          have e2 : bits .xor .u32 ((rotN x2 7 ^^^ rotN x2 18 : Nat) : Int) ((x2 >>> 3 : Nat) : Int) = ((sig0 x2 : Nat) : Int) := u32_xor_nat _ _ (xor_lt32 (rot_lt 7 l2) (rot_lt 18 l2)) (shr_lt32 3 l2)
          have e3 := u32_xor_nat _ _ (rot_lt 17 l4) (rot_lt 19 l4)
          have e4 : bits .xor .u32 ((rotN x4 17 ^^^ rotN x4 19 : Nat) : Int) ((x4 >>> 10 : Nat) : Int) = ((sig1 x4 : Nat) : Int) := u32_xor_nat _ _ (xor_lt32 (rot_lt 17 l4) (rot_lt 19 l4)) (shr_lt32 10 l4)
          obtain ⟨s0, hs0⟩ : ∃ s0, sig0 x2 = s0 := ⟨_, rfl⟩
          obtain ⟨s1, hs1⟩ : ∃ s1, sig1 x4 = s1 := ⟨_, rfl⟩
          rw [hs0] at e2 hNx
          rw [hs1] at e4 hNx
          obtain ⟨y2, hy2⟩ : ∃ y2, x2 >>> 3 = y2 := ⟨_, rfl⟩
          obtain ⟨y4, hy4⟩ : ∃ y4, x4 >>> 10 = y4 := ⟨_, rfl⟩
          rw [hy2] at d2 e2
          rw [hy4] at d4 e4
          obtain ⟨z2, hz2⟩ : ∃ z2, rotN x2 7 ^^^ rotN x2 18 = z2 := ⟨_, rfl⟩
          obtain ⟨z4, hz4⟩ : ∃ z4, rotN x4 17 ^^^ rotN x4 19 = z4 := ⟨_, rfl⟩
          rw [hz2] at e1 e2
          rw [hz4] at e3 e4
          rw [← d2] at e2
          rw [← d4] at e4
          clear d2 d4
          have a1 := addI s1 x3
          have a2 := addI (addN s1 x3) s0
          have a3 := addI (addN (addN s1 x3) s0) x1
          rw [← hNx] at a3
          have HV := Lib.hid hV
          have HO := Lib.hid hO
          have HLt := Lib.hid hlt
          have HLn := Lib.hid hln
          obtain ⟨-, c2, -, -, -, -⟩ := HC.out wr hV
          clear hV hO hx1 hx2 hx3 hx4 hx5 l2 l4 hs0 hs1 hy2 hy4 hz2 hz4 hNx hlt hk hk16 hln
          go_upto_region 9 with fail
          go_quiet (first
            | (go_at_call 22; with_reducible exact Calls.quiet_of_same (HA7.out _))
            | (go_at_call 22; with_reducible exact Calls.quiet_of_same (HA18.out _)))
          obtain ⟨W1, hW1⟩ : ∃ W1, wr.drewN nq = W1 := ⟨_, rfl⟩
          have HV1 : Hid (At W1 V 0 (U (rowK m k))) := Lib.hid (by rw [← hW1]; exact HV.out.drewN _)
          have HO1 : Hid (Oth V W0 W1) := Lib.hid (by rw [← hW1]; exact HO.out.trans (Oth.drewN _ _ _))
          rw [hW1]
          clear hW1 HV HO e1 e2 HA7 HA18 c2
          obtain ⟨-, -, -, c4, -, -⟩ := HC.out W1 HV1.out
          go_upto_region 10 with fail
          go_quiet (first
            | (go_at_call 22; with_reducible exact Calls.quiet_of_same (HB17.out _))
            | (go_at_call 22; with_reducible exact Calls.quiet_of_same (HB19.out _)))
          obtain ⟨W2, hW2⟩ : ∃ W2, W1.drewN nq = W2 := ⟨_, rfl⟩
          have HV2 : Hid (At W2 V 0 (U (rowK m k))) := Lib.hid (by rw [← hW2]; exact HV1.out.drewN _)
          have HO2 : Hid (Oth V W0 W2) := Lib.hid (by rw [← hW2]; exact HO1.out.trans (Oth.drewN _ _ _))
          rw [hW2]
          clear hW2 HV1 HO1 e3 e4 HB17 HB19 c4
          obtain ⟨c1, -, c3, -, ⟨c0v, c0⟩, cf⟩ := HC.out W2 HV2.out
          go_upto_region 11 with fail
          refine wp_region_tail_d 18 (by kernel_rfl) (by kernel_rfl) ?_
          simp only [List.take_succ_cons, List.take_zero, List.drop_succ_cons, List.drop_zero]
          repeat (go_big_quiet_step (fail))
          refine wpQuiet_nil ?_
          intro _ hw'
          obtain ⟨nz, hw''⟩ := hw'
          subst hw''
          go_wp2
          refine ⟨⟨k + 1, by go_num, by have := HLt.out; omega, by have := HLt.out; omega, ?_, HO2.out.trans ((Oth.drewN _ _ _).trans (Oth.setCell _ _ _ _))⟩, by simp only [intOf]; have := HLt.out; omega⟩
          rw [← HSet.out, ← U_set]
          have := (HV2.out.drewN nz).set k (.int .u32 (x5 : Int)) (by rw [U_len, HLn.out]; have := HLt.out; omega)
          rw [Nat.zero_add] at this
          exact this
        · obtain rfl : k = 64 := by omega
          have hki : ¬ ((64 : Nat) : Int) < 64 := by omega
          rw [rowK_full] at hV
          have HRow : Hid (∀ W, Oth V W0 W → True) := fun _ _ => trivial
          have hS := HS0.out.oth hO hAV (by simp [U, lst])
          have c0 : wr.cell? ⟨A, 0, none⟩ = some (.int .u32 (s.a : Int)) := hS.cell (j := 0) rfl
          have c1 : wr.cell? ⟨A, 1, none⟩ = some (.int .u32 (s.b : Int)) := hS.cell (j := 1) rfl
          have c2 : wr.cell? ⟨A, 2, none⟩ = some (.int .u32 (s.c : Int)) := hS.cell (j := 2) rfl
          have c3 : wr.cell? ⟨A, 3, none⟩ = some (.int .u32 (s.d : Int)) := hS.cell (j := 3) rfl
          have c4 : wr.cell? ⟨A, 4, none⟩ = some (.int .u32 (s.e : Int)) := hS.cell (j := 4) rfl
          have c5 : wr.cell? ⟨A, 5, none⟩ = some (.int .u32 (s.f : Int)) := hS.cell (j := 5) rfl
          have c6 : wr.cell? ⟨A, 6, none⟩ = some (.int .u32 (s.g : Int)) := hS.cell (j := 6) rfl
          have c7 : wr.cell? ⟨A, 7, none⟩ = some (.int .u32 (s.h : Int)) := hS.cell (j := 7) rfl
          have HV := Lib.hid hV
          have HO := Lib.hid hO
          clear hS hV hO hk hk16 HRow
          go_upto_region 12 with fail
          go_quiet (fail)
          obtain ⟨W5, hW5⟩ : ∃ W5, wr.drewN nq = W5 := ⟨_, rfl⟩
          have HV5 : Hid (At W5 V 0 (U (rowN m))) := Lib.hid (by rw [← hW5]; exact HV.out.drewN _)
          have HO5 : Hid (Oth V W0 W5) := Lib.hid (by rw [← hW5]; exact HO.out.trans (Oth.drewN _ _ _))
          rw [hW5]
          clear hW5 HV HO c0 c1 c2 c3 c4 c5 c6 c7
          go_wp2_with fail
          go_loopw [12, 13, 14, 15, 16, 17, 18, 19, 20] (fun va vb vc vd ve vf vg vh v wz => ∃ (i : Nat) (a b c d e f gg x : Nat), v = .int .i64 i ∧ va = .int .u32 a ∧ vb = .int .u32 b ∧ vc = .int .u32 c ∧ vd = .int .u32 d ∧ ve = .int .u32 e ∧ vf = .int .u32 f ∧ vg = .int .u32 gg ∧ vh = .int .u32 x ∧ i ≤ 64 ∧ upK s m i = ⟨a, b, c, d, e, f, gg, x⟩ ∧ At wz V 0 (U (rowN m)) ∧ Oth V W0 wz) (fun _ _ _ _ _ _ _ _ v _ => (64 - intOf v).toNat)
          case atStart => exact ⟨0, s.a, s.b, s.c, s.d, s.e, s.f, s.g, s.h, rfl, rfl, rfl, rfl, rfl, rfl, rfl, rfl, rfl, by omega, upK_zero s m, HV5.out, HO5.out⟩
          case round =>
            obtain ⟨i, a, b, c, d, e, f, gg, x, rfl, rfl, rfl, rfl, rfl, rfl, rfl, rfl, rfl, hi, hu, hVz, hOz⟩ := hrel
            by_cases hlt : i < 64
            · have hii : (i : Int) < 64 := by omega
              have hok := upK_ok hs m i hi
              have hsu := upK_succ s m i hlt
              rw [hu] at hok hsu
              have hkA := HK0.out.oth hOz hCV (by rw [U_len]; omega)
              have ck := U_at hkA i (by omega)
              have cw := U_at hVz i (by rw [row_len]; exact hlt)
              rw [Nat.zero_add] at ck cw
              rw [HK.out] at hsu
              obtain ⟨kk, hkk⟩ : ∃ kk, K.getD i 0 = kk := ⟨_, rfl⟩
              obtain ⟨ww, hww⟩ : ∃ ww, (rowN m).getD i 0 = ww := ⟨_, rfl⟩
              rw [hkk] at ck hsu
              rw [hww] at cw hsu
              have HE6 := Lib.hid (fun W => turn_any e 6 W hok.e (by decide) (by decide))
              have HE11 := Lib.hid (fun W => turn_any e 11 W hok.e (by decide) (by decide))
              have HE25 := Lib.hid (fun W => turn_any e 25 W hok.e (by decide) (by decide))
              have HA2 := Lib.hid (fun W => turn_any a 2 W hok.a (by decide) (by decide))
              have HA13 := Lib.hid (fun W => turn_any a 13 W hok.a (by decide) (by decide))
              have HA22 := Lib.hid (fun W => turn_any a 22 W hok.a (by decide) (by decide))
              have x1 := u32_xor_nat _ _ (rot_lt 6 hok.e) (rot_lt 11 hok.e)
              have x2 := u32_xor_nat _ _ (xor_lt32 (rot_lt 6 hok.e) (rot_lt 11 hok.e)) (rot_lt 25 hok.e)
              have x3 := u32_xor_nat _ _ (rot_lt 2 hok.a) (rot_lt 13 hok.a)
              have x4 := u32_xor_nat _ _ (xor_lt32 (rot_lt 2 hok.a) (rot_lt 13 hok.a)) (rot_lt 22 hok.a)
              have y1 := u32_and_nat _ _ hok.e hok.f
              have y2 : bits .xor .u32 IntKind.u32.max (e : Int) = ((notN e : Nat) : Int) := by
                rw [show IntKind.u32.max = ((4294967295 : Nat) : Int) from rfl, u32_xor_nat _ _ (by decide) hok.e, not_xor e hok.e]
              have y3 := u32_and_nat _ _ (not_lt e) hok.g
              have y4 := u32_or_nat _ _ (and_lt32 f hok.e) (and_lt32 gg (not_lt e))
              have m1 := u32_and_nat _ _ hok.a hok.b
              have m2 := u32_and_nat _ _ hok.a hok.c
              have m3 := u32_and_nat _ _ hok.b hok.c
              have m4 := u32_or_nat _ _ (and_lt32 b hok.a) (and_lt32 c hok.a)
              have m5 := u32_or_nat _ _ (or_lt32 (and_lt32 b hok.a) (and_lt32 c hok.a)) (and_lt32 c hok.b)
              obtain ⟨r6, hr6⟩ : ∃ r6, rotN e 6 = r6 := ⟨_, rfl⟩
              obtain ⟨r11, hr11⟩ : ∃ r11, rotN e 11 = r11 := ⟨_, rfl⟩
              obtain ⟨r25, hr25⟩ : ∃ r25, rotN e 25 = r25 := ⟨_, rfl⟩
              obtain ⟨q2, hq2⟩ : ∃ q2, rotN a 2 = q2 := ⟨_, rfl⟩
              obtain ⟨q13, hq13⟩ : ∃ q13, rotN a 13 = q13 := ⟨_, rfl⟩
              obtain ⟨q22, hq22⟩ : ∃ q22, rotN a 22 = q22 := ⟨_, rfl⟩
              have HS : Hid (upK s m (i + 1) = ⟨addN (addN (addN (addN (addN x ((r6 ^^^ r11) ^^^ r25)) ((e &&& f) ||| (notN e &&& gg))) kk) ww) (addN ((q2 ^^^ q13) ^^^ q22) (((a &&& b) ||| (a &&& c)) ||| (b &&& c))), a, b, c, addN d (addN (addN (addN (addN x ((r6 ^^^ r11) ^^^ r25)) ((e &&& f) ||| (notN e &&& gg))) kk) ww), e, f, gg⟩) := Lib.hid (by
                rw [hsu, ← hr6, ← hr11, ← hr25, ← hq2, ← hq13, ← hq22]; rfl)
              rw [hr6] at HE6 x1 x2
              rw [hr11] at HE11 x1 x2
              rw [hr25] at HE25 x2
              rw [hq2] at HA2 x3 x4
              rw [hq13] at HA13 x3 x4
              rw [hq22] at HA22 x4
              obtain ⟨u1, hu1⟩ : ∃ u1, r6 ^^^ r11 = u1 := ⟨_, rfl⟩
              obtain ⟨u2, hu2⟩ : ∃ u2, q2 ^^^ q13 = u2 := ⟨_, rfl⟩
              obtain ⟨u3, hu3⟩ : ∃ u3, e &&& f = u3 := ⟨_, rfl⟩
              obtain ⟨u4, hu4⟩ : ∃ u4, notN e &&& gg = u4 := ⟨_, rfl⟩
              obtain ⟨u5, hu5⟩ : ∃ u5, a &&& b = u5 := ⟨_, rfl⟩
              obtain ⟨u6, hu6⟩ : ∃ u6, a &&& c = u6 := ⟨_, rfl⟩
              obtain ⟨u7, hu7⟩ : ∃ u7, b &&& c = u7 := ⟨_, rfl⟩
              rw [hu1, hu2, hu3, hu4, hu5, hu6, hu7] at HS
              rw [hu1] at x1 x2
              rw [hu2] at x3 x4
              rw [hu3] at y1 y4
              rw [hu4] at y3 y4
              rw [hu5] at m1 m4 m5
              rw [hu6] at m2 m4 m5
              rw [hu7] at m3 m5
              obtain ⟨u8, hu8⟩ : ∃ u8, u5 ||| u6 = u8 := ⟨_, rfl⟩
              rw [hu8] at m4 m5 HS
              obtain ⟨ne, hne⟩ : ∃ ne, notN e = ne := ⟨_, rfl⟩
              rw [hne] at y2 y3
              have y2b : bits .xor .u32 (if IntKind.u32.signed = true then -1 else IntKind.u32.max) (e : Int) = (ne : Int) := y2
              obtain ⟨s1, hs1⟩ : ∃ s1, u1 ^^^ r25 = s1 := ⟨_, rfl⟩
              obtain ⟨s0, hs0⟩ : ∃ s0, u2 ^^^ q22 = s0 := ⟨_, rfl⟩
              obtain ⟨ch, hch⟩ : ∃ ch, u3 ||| u4 = ch := ⟨_, rfl⟩
              obtain ⟨mj, hmj⟩ : ∃ mj, u8 ||| u7 = mj := ⟨_, rfl⟩
              rw [hs1, hch, hs0, hmj] at HS
              rw [hs1] at x2
              rw [hs0] at x4
              rw [hch] at y4
              rw [hmj] at m5
              have a1 := addI x s1
              have a2 := addI (addN x s1) ch
              have a3 := addI (addN (addN x s1) ch) kk
              have a4 := addI (addN (addN (addN x s1) ch) kk) ww
              have a5 := addI s0 mj
              obtain ⟨t1, ht1⟩ : ∃ t1, addN (addN (addN (addN x s1) ch) kk) ww = t1 := ⟨_, rfl⟩
              obtain ⟨t2, ht2⟩ : ∃ t2, addN s0 mj = t2 := ⟨_, rfl⟩
              rw [ht1, ht2] at HS
              rw [ht1] at a4
              rw [ht2] at a5
              have a6 := addI d t1
              have a7 := addI t1 t2
              have HLt := Lib.hid hlt
              have HVz := Lib.hid hVz
              have HOz := Lib.hid hOz
              clear hVz hOz hu1 hu2 hu3 hu4 hu5 hu6 hu7 hu8 hne hr6 hr11 hr25 hq2 hq13 hq22 hs1 hs0 hch hmj ht1 ht2 hok hsu hkA hkk hww hu hi hlt
              go_upto_region 16 with fail
              go_quiet (first
                | (go_at_call 22; with_reducible exact Calls.quiet_of_same (HE6.out _))
                | (go_at_call 22; with_reducible exact Calls.quiet_of_same (HE11.out _))
                | (go_at_call 22; with_reducible exact Calls.quiet_of_same (HE25.out _)))
              obtain ⟨W6, hW6⟩ : ∃ W6, wr.drewN nq = W6 := ⟨_, rfl⟩
              have HV6 : Hid (At W6 V 0 (U (rowN m))) := Lib.hid (by rw [← hW6]; exact HVz.out.drewN _)
              have HO6 : Hid (Oth V W0 W6) := Lib.hid (by rw [← hW6]; exact HOz.out.trans (Oth.drewN _ _ _))
              rw [hW6]
              clear hW6 HVz HOz ck cw HE6 HE11 HE25 x1 x2 y1 y2 y3 y4 a1 a2 a3 a4
              go_wp2_with (first
                | (go_at_call 22; refine Calls.mono (HA2.out _) ?_; rintro r w2 ⟨rfl, hw⟩; rw [hw]; clear hw HA2)
                | (go_at_call 22; refine Calls.mono (HA13.out _) ?_; rintro r w2 ⟨rfl, hw⟩; rw [hw]; clear hw HA13)
                | (go_at_call 22; refine Calls.mono (HA22.out _) ?_; rintro r w2 ⟨rfl, hw⟩; rw [hw]; clear hw HA22))
              exact ⟨⟨i + 1, _, a, b, c, _, e, f, gg, by go_num, rfl, rfl, rfl, rfl, rfl, rfl, rfl, rfl, by have := HLt.out; omega, HS.out, HV6.out, HO6.out⟩, by simp only [intOf]; have := HLt.out; omega⟩
            · obtain rfl : i = 64 := by omega
              have hii : ¬ ((64 : Nat) : Int) < 64 := by omega
              have hS := HS0.out.oth hOz hAV (by simp [U, lst])
              have c0 : wr.cell? ⟨A, 0, none⟩ = some (.int .u32 (s.a : Int)) := hS.cell (j := 0) rfl
              have c1 : wr.cell? ⟨A, 1, none⟩ = some (.int .u32 (s.b : Int)) := hS.cell (j := 1) rfl
              have c2 : wr.cell? ⟨A, 2, none⟩ = some (.int .u32 (s.c : Int)) := hS.cell (j := 2) rfl
              have c3 : wr.cell? ⟨A, 3, none⟩ = some (.int .u32 (s.d : Int)) := hS.cell (j := 3) rfl
              have c4 : wr.cell? ⟨A, 4, none⟩ = some (.int .u32 (s.e : Int)) := hS.cell (j := 4) rfl
              have c5 : wr.cell? ⟨A, 5, none⟩ = some (.int .u32 (s.f : Int)) := hS.cell (j := 5) rfl
              have c6 : wr.cell? ⟨A, 6, none⟩ = some (.int .u32 (s.g : Int)) := hS.cell (j := 6) rfl
              have c7 : wr.cell? ⟨A, 7, none⟩ = some (.int .u32 (s.h : Int)) := hS.cell (j := 7) rfl
              have hbk : lst (blockN s m) = [addN s.a a, addN s.b b, addN s.c c, addN s.d d, addN s.e e, addN s.f f, addN s.g gg, addN s.h x] := by
                rw [block_add]
                unfold upK at hu
                rw [List.take_of_length_le (by rw [zip_len]; exact Nat.le_refl _)] at hu
                rw [hu]; rfl
              have a0 := addI s.a a
              have a1 := addI s.b b
              have a2 := addI s.c c
              have a3 := addI s.d d
              have a4 := addI s.e e
              have a5 := addI s.f f
              have a6 := addI s.g gg
              have a7 := addI s.h x
              have hR := HR0.out.oth hOz hDV (by rw [U_len]; simp)
              have hbw := hOz.below Hb0.out hwV (Nat.le_refl _)
              have hszL : (U [addN s.a a, addN s.b b, addN s.c c, addN s.d d, addN s.e e, addN s.f f, addN s.g gg, addN s.h x]).length = 8 := by rw [U_len]; rfl
              have hRs : (U (List.replicate 8 0)).length = 8 := rfl
              have ht : wr.there D 0 (U [addN s.a a, addN s.b b, addN s.c c, addN s.d d, addN s.e e, addN s.f f, addN s.g gg, addN s.h x]).toArray.size := by
                have := hR.there
                rw [hRs] at this
                exact this
              have h1 := all_oneCell_toArray (U_one [addN s.a a, addN s.b b, addN s.c c, addN s.d d, addN s.e e, addN s.f f, addN s.g gg, addN s.h x])
              have hrs := World.rangeAt_setCells_same wr D 0 (U [addN s.a a, addN s.b b, addN s.c c, addN s.d d, addN s.e e, addN s.f f, addN s.g gg, addN s.h x]) (by rw [List.size_toArray] at ht; exact ht)
              have hbe : Below w.heap.size w (wr.setCells D 0 (U [addN s.a a, addN s.b b, addN s.c c, addN s.d d, addN s.e e, addN s.f f, addN s.g gg, addN s.h x])) := (Oth.setCells _ _ _ _).below hbw hwD (Nat.le_refl _)
              have HI8 := Lib.hid arr8Info
              have HCL : Hid (U (lst (blockN s m)) = U [addN s.a a, addN s.b b, addN s.c c, addN s.d d, addN s.e e, addN s.f f, addN s.g gg, addN s.h x]) := Lib.hid (by rw [hbk])
              clear hu hVz hOz hS hR hRs hbk hbw hi
              obtain ⟨CL, hCL⟩ : ∃ CL, U [addN s.a a, addN s.b b, addN s.c c, addN s.d d, addN s.e e, addN s.f f, addN s.g gg, addN s.h x] = CL := ⟨_, rfl⟩
              have HCE : Hid (U [addN s.a a, addN s.b b, addN s.c c, addN s.d d, addN s.e e, addN s.f f, addN s.g gg, addN s.h x] = CL) := hCL
              have HCS : Hid (CL.length = 8) := Lib.hid (by rw [← hCL]; exact hszL)
              rw [hCL] at ht h1 hrs hbe HCL
              clear hCL hszL
              go_wp2_with (with_reducible show wpList _ _ _ ({ dst := none, op := _, type := _, pos := _, after := _, guard := _ } :: _) _ _; refine Hid.out ?_)
              refine Lib.hid ?_
              refine wpList_store_mid rfl 38 _ _ rfl D 0 CL.toArray ?hx ?hy ht ?hi h1 ?_
              case hx => rfl
              case hy => rw [← HCE.out]; rfl
              case hi => rw [List.size_toArray, HCS.out]; exact HI8.out
              clear c0 c1 c2 c3 c4 c5 c6 c7 a0 a1 a2 a3 a4 a5 a6 a7 ht h1
              go_wp2
              refine bodyPost_ret (v := .agg CL.toArray) ?_ rfl ⟨by rw [HCL.out], hbe⟩
              exact results_cell_mid Tryd.results16 _ _ D 0 CL _ rfl hrs Tryd.underlying38 rfl (by rw [HCS.out]; exact HI8.out)
end Go.Proofs.YtfcmgodeehjnoaaDoor
