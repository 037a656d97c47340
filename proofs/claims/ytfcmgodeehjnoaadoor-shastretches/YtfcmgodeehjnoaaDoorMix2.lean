/- A block is mixed in: the walk. -/
import Derived.Test.YtfcmgodeehjnoaaDoorMix
namespace Go.Proofs.YtfcmgodeehjnoaaDoor
open Go.RowKit Go.Sort
set_option maxRecDepth 100000 in
set_option maxHeartbeats 4000000 in
theorem mix_any (g : Nat) (s : St8) (m : List UInt8) (R : List Value) (w : World) (hE : w.rangeAt 0 0 (U kN)) (hs : Ok s) (hm : m.length = 64) (h : At w g 0 (U (lst s) ++ (B m ++ R))) (hG : 0 < w.heap.size) :
    Calls Tryd.prog 23 #[.pointer (some ⟨g, 0, none⟩), .pointer (some ⟨g, 8, none⟩)] w fun e w' => e = .returned (.tuple #[]) ∧ Oth g w w' ∧ At w' g 0 (U (lst (blockN s m)) ++ (B m ++ R)) := by
  have hg : g < w.heap.size := h.lt (by simp [U, lst])
  have hB8 : At w g 8 (B m) := by
    have := h.part 8 64
    rw [Nat.zero_add] at this
    have e : ((U (lst s) ++ (B m ++ R)).drop 8).take 64 = B m := by
      rw [List.drop_append_of_le_length (by simp [U, lst]), List.drop_of_length_le (by simp [U, lst]), List.nil_append, List.take_append_of_le_length (by rw [B_len, hm]; exact Nat.le_refl _), List.take_of_length_le (by rw [B_len, hm]; exact Nat.le_refl _)]
    rw [e] at this; exact this
  have hSp := spread_any g 8 m w hm hB8
  have HI := Lib.hid arrInfo
  have HI8 := Lib.hid u8arr
  have hUl : (U (rowN m)).length = 64 := by rw [U_len, row_len]
  have hU1 := U_one (rowN m)
  obtain ⟨CL, hCL⟩ : ∃ CL, U (rowN m) = CL := ⟨_, rfl⟩
  rw [hCL] at hSp hUl hU1
  go_enter Tryd.func23, Tryd.ntmps23
  go_wp2_with (first
    | (go_at_call 28; refine hSp.mono ?_; rintro e w1 ⟨rfl, hb1⟩)
    | (refine wpList_store_new w1 _ _ rfl 33 _ _ rfl CL rfl rfl (by rw [hUl]; rfl) (by rw [hUl]; exact HI.out) hU1 (fun W2 hB2 hA2 hs2 => ?_); refine Hid.out ?_))
  refine Lib.hid ?_
  have hb12 := hb1.trans (hB2.mono hb1.size)
  have hA := h.below hb12 hg
  have hE2 : W2.rangeAt 0 0 (U kN) := fun j v hv => (hb12.cell (p := ⟨0, 0 + j, none⟩) hG).trans (hE j v hv)
  have hgs : g < W2.heap.size := Nat.lt_of_lt_of_le hg hb12.size
  have hGs : 0 < W2.heap.size := Nat.lt_of_lt_of_le hG hb12.size
  have hw1 : w.heap.size ≤ w1.heap.size := hb1.size
  have hS8 : W2.rangeAt g 0 (U (lst s)) := by
    have := (hA.part 0 8).rng
    rw [Nat.zero_add, List.drop_zero, List.take_append_of_le_length (by simp [U, lst]), List.take_of_length_le (by simp [U, lst])] at this
    exact this
  have hsl : (U (lst s)).length = 8 := by simp [U, lst]
  have hs1 := U_one (lst s)
  have HCL : Hid (U (rowN m) = CL) := Lib.hid hCL
  obtain ⟨SL, hSL⟩ : ∃ SL, U (lst s) = SL := ⟨_, rfl⟩
  rw [hSL] at hS8 hsl hs1
  have HH := Lib.hid h
  have HA := Lib.hid hA
  have HS2 := Lib.hid hs2
  clear hSp hB8 hE hb1 hB2 hCL hUl hU1 h hA hs2
  go_wp2_with (first
    | (refine wpList_load_mid rfl 43 _ rfl g 0 rfl SL _ hS8 Tryd.underlying43 rfl (by rw [hsl]; exact HI8.out) ?_)
    | (refine wpList_store_new W2 _ _ rfl 43 _ _ rfl SL rfl rfl (by rw [hsl]; rfl) (by rw [hsl]; exact HI8.out) hs1 (fun W3 hB3 hA3 hs3 => ?_); refine Hid.out ?_))
  refine Lib.hid ?_
  have hs2 := HS2.out
  rw [← hSL] at hA3
  have hA2' := hA2.below hB3 (by omega)
  have hE3 : W3.rangeAt 0 0 (U kN) := fun j v hv => (hB3.cell (p := ⟨0, 0 + j, none⟩) hGs).trans (hE2 j v hv)
  have hG3 := HA.out.below hB3 hgs
  have HB3 := Lib.hid (hb12.trans (hB3.mono hb12.size))
  obtain ⟨V, hV⟩ : ∃ V, W2.heap.size = V := ⟨_, rfl⟩
  obtain ⟨D, hD⟩ : ∃ D, w1.heap.size = D := ⟨_, rfl⟩
  rw [hV] at hA3 hgs hGs hs3
  rw [hD] at hA2'
  rw [hV, hD]
  have hVD : D < V := by omega
  have hgV : g ≠ V := by omega
  have hGV : 0 ≠ V := by omega
  have hwV : w.heap.size ≤ V := by omega
  clear hS8 hsl hs1 hSL HA hA2 hE2 hs2 hB3 hb12 hw1 hV hD
  have HG3 := Lib.hid hG3
  have hCLl : Hid (CL.length = 64) := Lib.hid (by rw [← HCL.out, U_len, row_len])
  have HE3 := Lib.hid hE3
  have HA2 := Lib.hid hA2'
  clear hG3 hE3 hA2'
  go_wp2_with fail
  go_loopw [15] (fun v wr => ∃ k : Nat, v = .int .i64 k ∧ k ≤ 64 ∧ At wr V 0 (U (lst (upK s m k))) ∧ Oth V W3 wr) (fun v _ => (64 - intOf v).toNat)
  case atStart => exact ⟨0, rfl, by omega, by rw [upK_zero]; exact hA3, Oth.refl _ _⟩
  case round =>
    obtain ⟨k, rfl, hk, hV, hO⟩ := hrel
    by_cases hlt : k < 64
    · have hki : (k : Int) < 64 := by omega
      have hok := upK_ok hs m k hk
      have HS := Lib.hid (upK_succ s m k hlt)
      have hD := HA2.out.oth hO (by omega) (by rw [hCLl.out]; omega)
      rw [← HCL.out] at hD
      have cw := U_at hD k (by rw [row_len]; exact hlt)
      have hR : wr.rangeAt 0 0 (U kN) := fun j v hv => by
        have h1 := HE3.out j v hv
        have h2 := hO.block 0 (by omega) hGV
        simp only [World.cell?, h2] at h1 ⊢; exact h1
      have ck := root_at hR k hlt
      rw [Nat.zero_add] at cw
      obtain ⟨X, hX⟩ : ∃ X, upK s m k = X := ⟨_, rfl⟩
      obtain ⟨kk, hkk⟩ : ∃ kk, kN.getD k 0 = kk := ⟨_, rfl⟩
      obtain ⟨ww, hww⟩ : ∃ ww, (rowN m).getD k 0 = ww := ⟨_, rfl⟩
      rw [hX, hkk, hww] at HS
      rw [hX] at hok hV
      rw [hkk] at ck
      rw [hww] at cw
      obtain ⟨a, b, c, d, e, f, gg, hh⟩ := X
      have c0 : wr.cell? ⟨V, 0, none⟩ = some (.int .u32 (a : Int)) := hV.cell (j := 0) rfl
      have c1 : wr.cell? ⟨V, 1, none⟩ = some (.int .u32 (b : Int)) := hV.cell (j := 1) rfl
      have c2 : wr.cell? ⟨V, 2, none⟩ = some (.int .u32 (c : Int)) := hV.cell (j := 2) rfl
      have c4 : wr.cell? ⟨V, 4, none⟩ = some (.int .u32 (e : Int)) := hV.cell (j := 4) rfl
      have c5 : wr.cell? ⟨V, 5, none⟩ = some (.int .u32 (f : Int)) := hV.cell (j := 5) rfl
      have c6 : wr.cell? ⟨V, 6, none⟩ = some (.int .u32 (gg : Int)) := hV.cell (j := 6) rfl
      have c7 : wr.cell? ⟨V, 7, none⟩ = some (.int .u32 (hh : Int)) := hV.cell (j := 7) rfl
      have HT1 := Lib.hid (fun W => turned_any e 6 11 25 W hok.e (by decide) (by decide) (by decide))
      have HC := Lib.hid (fun W => chosen_any e f gg W hok.e hok.f hok.g)
      have HT2 := Lib.hid (fun W => turned_any a 2 13 22 W hok.a (by decide) (by decide) (by decide))
      have HM := Lib.hid (fun W => most_any a b c W hok.a hok.b hok.c)
      obtain ⟨s1, hs1⟩ : ∃ s1, (rotN e 6 ^^^ rotN e 11) ^^^ rotN e 25 = s1 := ⟨_, rfl⟩
      obtain ⟨ch, hch⟩ : ∃ ch, (e &&& f) ||| (notN e &&& gg) = ch := ⟨_, rfl⟩
      obtain ⟨s0, hs0⟩ : ∃ s0, (rotN a 2 ^^^ rotN a 13) ^^^ rotN a 22 = s0 := ⟨_, rfl⟩
      obtain ⟨mj, hmj⟩ : ∃ mj, ((a &&& b) ||| (a &&& c)) ||| (b &&& c) = mj := ⟨_, rfl⟩
      have HS2 : Hid (upK s m (k + 1) = ⟨addN (addN (addN (addN (addN hh s1) ch) kk) ww) (addN s0 mj), a, b, c, addN d (addN (addN (addN (addN hh s1) ch) kk) ww), e, f, gg⟩) := by
        rw [← hs1, ← hch, ← hs0, ← hmj]; exact HS.out
      rw [hs1] at HT1
      rw [hch] at HC
      rw [hs0] at HT2
      rw [hmj] at HM
      have a1 := addI hh s1
      have a2 := addI (addN hh s1) ch
      have a3 := addI (addN (addN hh s1) ch) kk
      have a4 := addI (addN (addN (addN hh s1) ch) kk) ww
      have a5 := addI s0 mj
      have HO := Lib.hid hO
      have HVA := Lib.hid hV
      have HK := Lib.hid (show k < 64 from hlt)
      clear hs1 hch hs0 hmj hV hO HS hok hX hkk hww hR hD hA3
      go_upto_region 5 with fail
      go_quiet (first
        | (go_at_call_of 29 (Value.int .u32 (e : Int)); with_reducible exact Calls.quiet_of_same (HT1.out _))
        | (go_at_call_of 30 (Value.int .u32 (e : Int)); with_reducible exact Calls.quiet_of_same (HC.out _)))
      obtain ⟨W5, hW5⟩ : ∃ W5, wr.drewN nq = W5 := ⟨_, rfl⟩
      have hV5 : At W5 V 0 (U (lst ⟨a, b, c, d, e, f, gg, hh⟩)) := by rw [← hW5]; exact HVA.out.drewN _
      have HO5 : Hid (Oth V W3 W5) := Lib.hid (by rw [← hW5]; exact HO.out.trans (Oth.drewN _ _ _))
      rw [hW5]
      clear HT1 HC a1 a2 a3 a4 ck cw c0 c1 c2 c4 c5 c6 c7 hW5 HVA HO
      have c0 : W5.cell? ⟨V, 0, none⟩ = some (.int .u32 (a : Int)) := hV5.cell (j := 0) rfl
      have c1 : W5.cell? ⟨V, 1, none⟩ = some (.int .u32 (b : Int)) := hV5.cell (j := 1) rfl
      have c2 : W5.cell? ⟨V, 2, none⟩ = some (.int .u32 (c : Int)) := hV5.cell (j := 2) rfl
      have HV5 := Lib.hid hV5
      clear hV5
      go_upto_region 6 with fail
      go_quiet (first
        | (go_at_call_of 29 (Value.int .u32 (a : Int)); with_reducible exact Calls.quiet_of_same (HT2.out _))
        | (go_at_call_of 31 (Value.int .u32 (a : Int)); with_reducible exact Calls.quiet_of_same (HM.out _)))
      obtain ⟨W6, hW6⟩ : ∃ W6, W5.drewN nq = W6 := ⟨_, rfl⟩
      have HV6 : Hid (At W6 V 0 (U (lst ⟨a, b, c, d, e, f, gg, hh⟩))) := Lib.hid (by rw [← hW6]; exact HV5.out.drewN _)
      have HO6 : Hid (Oth V W3 W6) := Lib.hid (by rw [← hW6]; exact HO5.out.trans (Oth.drewN _ _ _))
      rw [hW6]
      clear HT2 HM a5 c0 c1 c2 HO5 HV5 hW6
      have HMv := Lib.hid (fun n ty => moved_up (W6.drewN n) V ⟨a, b, c, d, e, f, gg, hh⟩ ty (HV6.out.drewN n))
      have HMa := Lib.hid (fun n => moved_at (HV6.out.drewN n))
      go_upto_region 7 with fail
      refine wp_region_tail_d 2 (by kernel_rfl) (by kernel_rfl) ?_
      simp only [List.take_succ_cons, List.take_zero, List.drop_succ_cons, List.drop_zero]
      repeat (go_big_quiet_step (fail))
      refine wpQuiet_nil ?_
      intro _ hw'
      obtain ⟨nr, hw''⟩ := hw'
      subst hw''
      have hmv := HMv.out nr 3
      have HX : Hid (At ((W6.drewN nr).setCells V 1 (U [a, b, c, d, e, f, gg])) V 0 (U [a, a, b, c, d, e, f, gg])) := HMa.out nr
      have HXO : Hid (Oth V W3 ((W6.drewN nr).setCells V 1 (U [a, b, c, d, e, f, gg]))) := Lib.hid (HO6.out.trans ((Oth.drewN _ _ _).trans (Oth.setCells _ _ _ _)))
      clear HMv HMa
      go_upto_region 8 with fail
      obtain ⟨X, hX⟩ : ∃ X, (W6.drewN nr).setCells V 1 (U [a, b, c, d, e, f, gg]) = X := ⟨_, rfl⟩
      rw [hX] at HX HXO ⊢
      clear hX hmv HO6 HV6
      have q4 : X.cell? ⟨V, 4, none⟩ = some (.int .u32 (d : Int)) := HX.out.cell (j := 4) rfl
      have q0 : X.cell? ⟨V, 0, none⟩ = some (.int .u32 (a : Int)) := HX.out.cell (j := 0) rfl
      have f4 : X.frozen? ⟨V, 4, none⟩ = false := HX.out.fz 4 (by show 4 < 8; decide)
      have f0 : X.frozen? ⟨V, 0, none⟩ = false := HX.out.fz 0 (by show 0 < 8; decide)
      obtain ⟨t1, ht1⟩ : ∃ t1, addN (addN (addN (addN hh s1) ch) kk) ww = t1 := ⟨_, rfl⟩
      obtain ⟨t2, ht2⟩ : ∃ t2, addN s0 mj = t2 := ⟨_, rfl⟩
      rw [ht1, ht2] at HS2 ⊢
      clear ht1 ht2
      have a1 := addI d t1
      have a2 := addI t1 t2
      go_wp2
      refine ⟨⟨k + 1, by go_num, by have := HK.out; omega, ?_, ?_⟩, by simp [intOf]; have := HK.out; omega⟩
      · rw [HS2.out]
        have := (HX.out.set 4 (.int .u32 ((addN d t1 : Nat) : Int)) (by show 4 < 8; decide)).set 0 (.int .u32 ((addN t1 t2 : Nat) : Int)) (by show 0 < 8; decide)
        rw [U_set, U_set] at this
        exact this
      · exact HXO.out.trans ((Oth.setCell V 4 X _).trans (Oth.setCell V 0 _ _))
    · obtain rfl : k = 64 := by omega
      have hki : ¬ ((64 : Nat) : Int) < 64 := by omega
      have hBl := hO.below HB3.out hwV (Nat.le_refl _)
      have hGw := HG3.out.oth hO hgV (by simp [U, lst])
      obtain ⟨Y, hY⟩ : ∃ Y, upK s m 64 = Y := ⟨_, rfl⟩
      have HST := Lib.hid (fun k => stK_set s m k)
      rw [hY] at hV HST
      rw [← stK_zero s m] at hGw
      have HBl := Lib.hid hBl
      clear hO hBl hA3 HG3 HE3 HA2 hY
      go_wp2_with fail
      go_loopw [64] (fun v wz => ∃ k : Nat, v = .int .i64 k ∧ k ≤ 8 ∧ At wz g 0 (U (stK s m k) ++ (B m ++ R)) ∧ At wz V 0 (U (lst Y)) ∧ Oth g wr wz) (fun v _ => (8 - intOf v).toNat)
      case atStart => exact ⟨0, rfl, by omega, hGw, hV, Oth.refl _ _⟩
      case round =>
        clear hGw hV hk hki
        obtain ⟨k, rfl, hk, hG, hV, hO⟩ := hrel
        by_cases hlt : k < 8
        · have hki : (k : Int) < 8 := by omega
          have hl8 := stK_len s m k hk
          have c1 := hd_at hG k (by omega)
          have f1 := hd_fz hG k (by omega)
          have c2 := U_at hV k (by rw [lst_len]; exact hlt)
          rw [stK_at s m k hlt] at c1
          rw [Nat.zero_add] at c2
          have HS := Lib.hid (HST.out k hlt)
          obtain ⟨x, hx⟩ : ∃ x, (lst s).getD k 0 = x := ⟨_, rfl⟩
          obtain ⟨y, hy⟩ : ∃ y, (lst Y).getD k 0 = y := ⟨_, rfl⟩
          rw [hx] at c1 HS
          rw [hy] at c2 HS
          have a1 := addI x y
          have HG := Lib.hid hG
          have HV := Lib.hid hV
          have HO := Lib.hid hO
          have HL := Lib.hid hl8
          have HK := Lib.hid hlt
          clear hG hV hO hx hy hl8 hlt hk
          go_upto_region 14 with fail
          refine wp_region_tail_d 11 (by kernel_rfl) (by kernel_rfl) ?_
          simp only [List.take_succ_cons, List.take_zero, List.drop_succ_cons, List.drop_zero]
          repeat (go_big_quiet_step (fail))
          refine wpQuiet_nil ?_
          intro _ hw'
          obtain ⟨nr, hw''⟩ := hw'
          subst hw''
          go_wp2
          refine ⟨⟨k + 1, by go_num, by have := HK.out; omega, ?_, ?_, ?_⟩, by simp [intOf]; have := HK.out; omega⟩
          · rw [← HS.out]
            exact hd_set (HG.out.drewN nr) k _ (by rw [HL.out]; exact HK.out)
          · exact (HV.out.drewN nr).otherCell _ (.inl (fun h => hgV h.symm))
          · exact HO.out.trans ((Oth.drewN _ _ _).trans (Oth.setCell _ _ _ _))
        · obtain rfl : k = 8 := by omega
          have hki : ¬ ((8 : Nat) : Int) < 8 := by omega
          rw [stK_full] at hG
          clear hV HST
          go_wp2
          refine bodyPost_end (v := .tuple #[]) (by simp [results, Tryd.results23]) rfl ⟨rfl, (Oth.of_below HBl.out).trans hO, hG⟩
end Go.Proofs.YtfcmgodeehjnoaaDoor
