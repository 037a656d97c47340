/- What Parse of the reference answers, of the shape 3. -/
import Derived.Test.YtgldkmabhmlijaaGreatDoorRParse0
namespace Go.Proofs.YtgldkmabhmlijaaGreatDoor
open Go.RowKit Go.Sort
set_option maxRecDepth 100000 in
set_option maxHeartbeats 4000000 in
theorem rParse_3 (s : ByteArray) (w : World) (hs : s.size < 100000) (o : Int) (ho : opN ((wdA 32 [] s.data.toList).getD 0 []) = o) (h0 : 0 ≤ o ∧ o ≤ 26) (hh : sh o = 3) : Calls Tryz.prog 7 #[.string s] w (RP s w) := by
  have hl : s.data.toList.length = s.size := by simp
  have HWd := Lib.hid (fun W => Words_any s 32 W (by omega))
  have hws := wdA_len 32 s.data.toList []
  have hsz := wdA_sizes 32 s.data.toList []
  obtain ⟨ws, hwsd⟩ : ∃ ws, ws = wdA 32 [] s.data.toList := ⟨_, rfl⟩
  rw [← hwsd] at hws hsz ho
  simp only [← hwsd] at HWd
  have HWS := Lib.hid hwsd
  have hbl : (bas ws).length = ws.length := by simp [bas]
  have hwz : ∀ j, (toB (ws.getD j [])).size < 1000000 := fun j => by
    show (ws.getD j []).length < 1000000
    by_cases hj : j < ws.length
    · rw [List.getD_eq_getElem?_getD, List.getElem?_eq_getElem hj]
      have := hsz _ (List.getElem_mem hj)
      simp at this ⊢; omega
    · rw [List.getD_eq_getElem?_getD, List.getElem?_eq_none (by omega)]; decide
  have HWZ := Lib.hid hwz
  clear hwsd hsz hl hwz
  have hbA : Below w.heap.size w (w.alloc (.cells #[.int .i64 0, .int .i64 0, .int .i64 0, .int .i64 0, .int .i64 0] 24)) := (Below.refl _ _).alloc (Nat.le_refl _) _
  have hRA := At5.new w c0 24
  go_enter Tryz.func7, Tryz.ntmps7
  go_wp2_with (go_at_call 18; refine (HWd.out _).mono ?_; rintro e w1 ⟨v, rfl, how, hb1'⟩; refine Hid.out ?_)
  refine Lib.hid ?_
  have hb1 : Below w.heap.size w w1 := hbA.trans (hb1'.mono (by simp))
  have HR1 : Hid (At5 w1 w.heap.size c0) := hRA.below hb1' (by simp)
  have hlR : w.heap.size < w1.heap.size := by have := hb1'.size; simp at this; omega
  obtain ⟨g, cap, rfl, hg1, hg2, hcell⟩ := sts_cells how (by rw [hbl]; exact hws.1)
  have hcell2 : ∀ j, j < ws.length → w1.cell? ⟨g, j, none⟩ = some (.string (toB (ws.getD j []))) := fun j hj => by
    rw [hcell j (by omega)]; simp [bas, List.getD_eq_getElem?_getD, List.getElem?_eq_getElem hj]
  have HC := Lib.hid hcell2
  rw [hbl]
  obtain ⟨n, hn⟩ : ∃ n, ws.length = n := ⟨_, rfl⟩
  rw [hn] at hws HC ⊢
  have HNn := Lib.hid hn
  have hn1 : 1 ≤ n := hws.1
  clear hcell hcell2 how hbl hn HWd hws hbA hRA hb1' hg2
  have hA0 : At5 (w1.alloc (.cells #[.int .i64 (-1), .int .i64 0, .int .i64 0, .int .i64 0, .int .i64 0] 24)) w1.heap.size ⟨-1, 0, 0, 0, 0⟩ := At5.new w1 ⟨-1, 0, 0, 0, 0⟩ _
  have hB0 : Below w1.heap.size w1 (w1.alloc (.cells #[.int .i64 (-1), .int .i64 0, .int .i64 0, .int .i64 0, .int .i64 0] 24)) := (Below.refl _ _).alloc (Nat.le_refl _) _
  have h0n : (0 : Int) < (n : Int) := by omega
  have h0N : 0 < n := by omega
  obtain ⟨q0, hq0⟩ : ∃ q0, q0 = toB (ws.getD 0 []) := ⟨_, rfl⟩
  have hoq : opN q0.data.toList = o := by rw [hq0, list_toB]; exact ho
  have HNm : Hid (∀ k : Nat, k < 27 → ((nmB k).toList == q0.toList) = decide (o = k)) := fun k hk => by rw [nmB_op k hk, hoq]
  have HC0 := Lib.hid (HC.out 0 (by omega))
  rw [← hq0] at HC0
  have HO := Lib.hid ho
  clear hq0 hoq ho
  go_wp2_with fail
  go_loopw [7] (fun iv wr => ∃ k : Nat, k ≤ 27 ∧ iv = .int .i64 k ∧ At5 wr w1.heap.size ⟨opP o k, 0, 0, 0, 0⟩ ∧ Below w1.heap.size w1 wr) (fun iv _ => 27 - (intOf iv).toNat)
  case atStart => exact ⟨0, by omega, rfl, by rw [show opP o 0 = -1 from by unfold opP; rw [if_neg (by omega)]]; exact hA0, hB0⟩
  case round =>
    clear hA0 hB0
    obtain ⟨k, hk, rfl, hA, hB⟩ := hrel
    have hzB := hB.size
    by_cases hlt : k < 27
    · have hki : (k : Int) ≤ 26 := by omega
      have HN : Hid (∀ W, Calls Tryz.prog 19 #[.int .i64 (k : Int)] W fun e w' => e = .returned (.string (nmB k)) ∧ Below W.heap.size W w') := fun W => (Name_in k W (by omega)).mono fun e w' ⟨h1, h2⟩ => ⟨h1, by rw [h2]; exact Below.refl _ _⟩
      have gc0 : ∀ n os, (gx wr n os).cell? ⟨g, 0, none⟩ = some (.string q0) := cell_gx (by show g < wr.heap.size; omega) ((hB.cell (p := ⟨g, 0, none⟩) hg1).trans HC0.out)
      have hbe := HNm.out k hlt
      obtain ⟨bk, hbk⟩ : ∃ bk, bk = decide (o = (k : Int)) := ⟨_, rfl⟩
      rw [← hbk] at hbe
      have HBK := Lib.hid hbk
      clear hbk
      generalize nmB k = nb at HN hbe
      have HAA := Lib.hid hA
      have HBB := Lib.hid hB
      have hl5 := hA.1
      clear hA hB
      go_wp2_with fail
      refine wp_region_quiet_gx (by kernel_rfl) (by kernel_rfl) ?_
      repeat (quiet_step (first | (go_at_call 19; with_reducible exact calls_gx (HN.out _))))
      refine wpQuiet_nil ?_
      intro _ hw'
      obtain ⟨⟨nq, osq⟩, hw''⟩ := hw'
      subst hw''
      have hb2 := gx_below wr nq osq
      have hA2 := HAA.out.below hb2 hl5
      have HB2 := Lib.hid (HBB.out.trans (hb2.mono hzB))
      generalize gx wr nq osq = w2 at hb2 hA2 HB2 ⊢
      have HA2 := Lib.hid hA2
      have f0 := hA2.2.2 0
      have c0' := hA2.2.1.1
      clear hA2 hb2 gc0
      clear hbe
      rcases bk with _ | _
      rotate_left
      · have hok : o = k := of_decide_eq_true HBK.out.symm
        have HP : Hid (opP o (k + 1) = k) := by simp only [Hid]; unfold opP; rw [if_pos (by omega)]; exact hok
        clear hok
        go_wp2
        go_roundw
        case rel =>
          refine ⟨k + 1, by omega, by go_num, ?_, HB2.out.setCell (p := ⟨w1.heap.size, 0, none⟩) (Nat.le_refl _) _⟩
          rw [HP.out]; exact HA2.out.put0 k
        case measure => simp [intOf]; omega
      · have hok : ¬ o = k := of_decide_eq_false HBK.out.symm
        have HP : Hid (opP o (k + 1) = opP o k) := by simp only [Hid]; unfold opP; congr 1; rw [eq_iff_iff]; omega
        clear hok
        go_wp2
        go_roundw
        case rel => exact ⟨k + 1, by omega, by go_num, by rw [HP.out]; exact HA2.out, HB2.out⟩
        case measure => simp [intOf]; omega
    · obtain rfl : k = 27 := by omega
      have hki : ¬ ((27 : Nat) : Int) ≤ 26 := by omega
      clear hlt HNm HC0
      rw [show opP o 27 = o from by unfold opP; rw [if_pos (by omega)]] at hA
      obtain ⟨wo, rfl⟩ : ∃ wo, wo = wr := ⟨_, rfl⟩
      have h0i : ¬ o < 0 := by omega
      have HS : Hid (∀ W, Calls Tryz.prog 20 #[.int .i64 o] W fun e w' => e = .returned (.int .i64 3) ∧ w' = W) := fun W => by have := Shape_any o W; rw [hh] at this; exact this
      have c0' := hA.2.1.1
      by_cases hn : n = 4
      · subst hn
        have HRp : Hid (rpar s.data.toList = rpB s.data.toList ws 3 (rgK ws o 3)) := by simp only [Hid]; unfold rpar; rw [← HWS.out, HO.out, hh, HNn.out, if_neg (by rintro (h | h); exact absurd h h0i; exact h rfl)]; exact rfl
        have HHh := Lib.hid hh
        have HA := Lib.hid hA
        have HB := Lib.hid hB
        clear hh h0n h0N hn1 hA hB
        go_wp2_with (first | (go_at_call 20; refine (HS.out _).mono ?_; rintro e w' ⟨rfl, hw'⟩; rw [hw']; clear hw' w'))
        go_loopw [12] (fun iv wr => ∃ (k : Nat) (c : Cod), k ≤ 3 ∧ iv = .int .i64 k ∧ rgK ws o k = some c ∧ At5 wr w1.heap.size c ∧ Below w1.heap.size w1 wr) (fun iv _ => 3 - (intOf iv).toNat)
        case atStart => exact ⟨0, ⟨o, 0, 0, 0, 0⟩, by omega, rfl, rfl, HA.out, HB.out⟩
        case round =>
          clear c0' HS
          obtain ⟨k2, c, hk2, rfl, hrg, hA, hB⟩ := hrel
          have hzW := hB.size
          have HRg := Lib.hid hrg
          clear hrg HA HB
          by_cases hlt2 : k2 < 3
          · have HCx := Lib.hid hA
            have HBx := Lib.hid hB
            have hl5 := hA.1
            clear hA hB
            rcases (show k2 = 0 ∨ k2 = 1 ∨ k2 = 2 by omega) with rfl | rfl | rfl
            · clear hlt2 hk2
              have hcj : wr.cell? ⟨g, 1, none⟩ = some (.string (toB (ws.getD 1 []))) := (HBx.out.cell (p := ⟨g, 1, none⟩) hg1).trans (HC.out 1 (by omega))
              have HV := Lib.hid (fun V => register_any (toB (ws.getD 1 [])) V (HWZ.out 1))
              rw [list_toB] at HV
              generalize toB (ws.getD 1 []) = qj at hcj HV
              rcases hreg : regL (ws.getD 1 []) with _ | x
              · rw [hreg] at HV
                have HR : Hid (rpar s.data.toList = none) := by
                  have h1 : rgK ws o 1 = none := by rw [rgK, HRg.out]; simp only; rw [hreg]
                  have h2 : rgK ws o 2 = none := by rw [rgK, h1]
                  have h3 : rgK ws o 3 = none := by rw [rgK, h2]
                  simp only [Hid]; rw [HRp.out, h3, rpB]
                have HV' : Hid (∀ V, Calls Tryz.prog 21 #[.string qj] V fun e w' => e = .returned (.tuple #[.int .i64 0, .bool false]) ∧ Below V.heap.size V w') := HV
                clear hreg HV
                go_wp2_with (first | (go_at_call 21; refine (HV'.out _).mono ?_; rintro e w5 ⟨rfl, hb5⟩; refine Hid.out ?_))
                refine Lib.hid ?_
                have hBW : Below w1.heap.size w1 w5 := HBx.out.trans (hb5.mono (by omega))
                obtain ⟨el, ⟨e0, e1, e2, e3, e4⟩, ef⟩ := HR1.out.below hBW hlR
                have HX : Hid (Below w.heap.size w w5) := hb1.trans (hBW.mono hb1.size)
                clear hBW
                go_wp2
                refine bodyPost_ret (v := .tuple #[(c0 : Cod).v, .string ⟨#[]⟩, .bool false]) (by simp [results, Tryz.results7, go_sem, Cod.v, c0, e0, e1, e2, e3, e4]) rfl ⟨⟨c0, ⟨#[]⟩, false, rfl, HR.out⟩, ?_⟩
                first | exact HX.out | exact HX.out.trans (set5_below (n := w.heap.size) c0 (Nat.le_refl _))
              · rw [hreg] at HV
                have HK : Hid (rgK ws o 1 = some (setR c 0 x)) := by simp only [Hid]; rw [rgK, HRg.out]; simp only; rw [hreg]
                have HV' : Hid (∀ V, Calls Tryz.prog 21 #[.string qj] V fun e w' => e = .returned (.tuple #[.int .i64 x, .bool true]) ∧ Below V.heap.size V w') := HV
                clear hreg HV
                go_wp2_with (first | (go_at_call 21; refine (HV'.out _).mono ?_; rintro e w5 ⟨rfl, hb5⟩; refine Hid.out ?_))
                refine Lib.hid ?_
                have HB5 : Hid (Below w1.heap.size w1 w5) := HBx.out.trans (hb5.mono (by omega))
                have hA5 := HCx.out.below hb5 hl5
                have HA5 := Lib.hid hA5
                obtain ⟨dl, ⟨d0, d1, d2, d3, d4⟩, df⟩ := hA5
                have df1 := df 1
                go_wp2
                go_roundw
                case rel => exact ⟨1, setR c 0 x, by omega, by go_num, HK.out, HA5.out.put1 x, HB5.out.setCell (p := ⟨w1.heap.size, 1, none⟩) (Nat.le_refl _) _⟩
                case measure => simp [intOf]
            · clear hlt2 hk2
              have hcj : wr.cell? ⟨g, 2, none⟩ = some (.string (toB (ws.getD 2 []))) := (HBx.out.cell (p := ⟨g, 2, none⟩) hg1).trans (HC.out 2 (by omega))
              have HV := Lib.hid (fun V => register_any (toB (ws.getD 2 [])) V (HWZ.out 2))
              rw [list_toB] at HV
              generalize toB (ws.getD 2 []) = qj at hcj HV
              rcases hreg : regL (ws.getD 2 []) with _ | x
              · rw [hreg] at HV
                have HR : Hid (rpar s.data.toList = none) := by
                  have h1 : rgK ws o 2 = none := by rw [rgK, HRg.out]; simp only; rw [hreg]
                  have h2 : rgK ws o 3 = none := by rw [rgK, h1]
                  simp only [Hid]; rw [HRp.out, h2, rpB]
                have HV' : Hid (∀ V, Calls Tryz.prog 21 #[.string qj] V fun e w' => e = .returned (.tuple #[.int .i64 0, .bool false]) ∧ Below V.heap.size V w') := HV
                clear hreg HV
                go_wp2_with (first | (go_at_call 21; refine (HV'.out _).mono ?_; rintro e w5 ⟨rfl, hb5⟩; refine Hid.out ?_))
                refine Lib.hid ?_
                have hBW : Below w1.heap.size w1 w5 := HBx.out.trans (hb5.mono (by omega))
                obtain ⟨el, ⟨e0, e1, e2, e3, e4⟩, ef⟩ := HR1.out.below hBW hlR
                have HX : Hid (Below w.heap.size w w5) := hb1.trans (hBW.mono hb1.size)
                clear hBW
                go_wp2
                refine bodyPost_ret (v := .tuple #[(c0 : Cod).v, .string ⟨#[]⟩, .bool false]) (by simp [results, Tryz.results7, go_sem, Cod.v, c0, e0, e1, e2, e3, e4]) rfl ⟨⟨c0, ⟨#[]⟩, false, rfl, HR.out⟩, ?_⟩
                first | exact HX.out | exact HX.out.trans (set5_below (n := w.heap.size) c0 (Nat.le_refl _))
              · rw [hreg] at HV
                have HK : Hid (rgK ws o 2 = some (setR c 1 x)) := by simp only [Hid]; rw [rgK, HRg.out]; simp only; rw [hreg]
                have HV' : Hid (∀ V, Calls Tryz.prog 21 #[.string qj] V fun e w' => e = .returned (.tuple #[.int .i64 x, .bool true]) ∧ Below V.heap.size V w') := HV
                clear hreg HV
                go_wp2_with (first | (go_at_call 21; refine (HV'.out _).mono ?_; rintro e w5 ⟨rfl, hb5⟩; refine Hid.out ?_))
                refine Lib.hid ?_
                have HB5 : Hid (Below w1.heap.size w1 w5) := HBx.out.trans (hb5.mono (by omega))
                have hA5 := HCx.out.below hb5 hl5
                have HA5 := Lib.hid hA5
                obtain ⟨dl, ⟨d0, d1, d2, d3, d4⟩, df⟩ := hA5
                have df2 := df 2
                go_wp2
                go_roundw
                case rel => exact ⟨2, setR c 1 x, by omega, by go_num, HK.out, HA5.out.put2 x, HB5.out.setCell (p := ⟨w1.heap.size, 2, none⟩) (Nat.le_refl _) _⟩
                case measure => simp [intOf]
            · clear hlt2 hk2
              have hcj : wr.cell? ⟨g, 3, none⟩ = some (.string (toB (ws.getD 3 []))) := (HBx.out.cell (p := ⟨g, 3, none⟩) hg1).trans (HC.out 3 (by omega))
              have HV := Lib.hid (fun V => register_any (toB (ws.getD 3 [])) V (HWZ.out 3))
              rw [list_toB] at HV
              generalize toB (ws.getD 3 []) = qj at hcj HV
              rcases hreg : regL (ws.getD 3 []) with _ | x
              · rw [hreg] at HV
                have HR : Hid (rpar s.data.toList = none) := by
                  have h1 : rgK ws o 3 = none := by rw [rgK, HRg.out]; simp only; rw [hreg]
                  simp only [Hid]; rw [HRp.out, h1, rpB]
                have HV' : Hid (∀ V, Calls Tryz.prog 21 #[.string qj] V fun e w' => e = .returned (.tuple #[.int .i64 0, .bool false]) ∧ Below V.heap.size V w') := HV
                clear hreg HV
                go_wp2_with (first | (go_at_call 21; refine (HV'.out _).mono ?_; rintro e w5 ⟨rfl, hb5⟩; refine Hid.out ?_))
                refine Lib.hid ?_
                have hBW : Below w1.heap.size w1 w5 := HBx.out.trans (hb5.mono (by omega))
                obtain ⟨el, ⟨e0, e1, e2, e3, e4⟩, ef⟩ := HR1.out.below hBW hlR
                have HX : Hid (Below w.heap.size w w5) := hb1.trans (hBW.mono hb1.size)
                clear hBW
                go_wp2
                refine bodyPost_ret (v := .tuple #[(c0 : Cod).v, .string ⟨#[]⟩, .bool false]) (by simp [results, Tryz.results7, go_sem, Cod.v, c0, e0, e1, e2, e3, e4]) rfl ⟨⟨c0, ⟨#[]⟩, false, rfl, HR.out⟩, ?_⟩
                first | exact HX.out | exact HX.out.trans (set5_below (n := w.heap.size) c0 (Nat.le_refl _))
              · rw [hreg] at HV
                have HK : Hid (rgK ws o 3 = some (setR c 2 x)) := by simp only [Hid]; rw [rgK, HRg.out]; simp only; rw [hreg]
                have HV' : Hid (∀ V, Calls Tryz.prog 21 #[.string qj] V fun e w' => e = .returned (.tuple #[.int .i64 x, .bool true]) ∧ Below V.heap.size V w') := HV
                clear hreg HV
                go_wp2_with (first | (go_at_call 21; refine (HV'.out _).mono ?_; rintro e w5 ⟨rfl, hb5⟩; refine Hid.out ?_))
                refine Lib.hid ?_
                have HB5 : Hid (Below w1.heap.size w1 w5) := HBx.out.trans (hb5.mono (by omega))
                have hA5 := HCx.out.below hb5 hl5
                have HA5 := Lib.hid hA5
                obtain ⟨dl, ⟨d0, d1, d2, d3, d4⟩, df⟩ := hA5
                have df3 := df 3
                go_wp2
                go_roundw
                case rel => exact ⟨3, setR c 2 x, by omega, by go_num, HK.out, HA5.out.put3 x, HB5.out.setCell (p := ⟨w1.heap.size, 3, none⟩) (Nat.le_refl _) _⟩
                case measure => simp [intOf]
          · obtain rfl : k2 = 3 := by omega
            clear hk2 hlt2
            have HF : Hid (rpar s.data.toList = finR s.data.toList c []) := by simp only [Hid]; rw [HRp.out, HRg.out]; simp only [rpB]; rw [if_pos (show nuN 3 = 0 from rfl)]
            skip
            have hBW := hB
            clear hB
            have HRt := Lib.hid (fun V => rRight_any c V)
            unfold Cod.v at HRt
            have HCx := Lib.hid hA
            have HBx := Lib.hid hBW
            have cl := hA.1
            clear hBW
            obtain ⟨_, ⟨a0, a1, a2, a3, a4⟩, af⟩ := hA
            rcases hrt : rightC c with _ | _
            · rw [hrt] at HRt
              have HR : Hid (rpar s.data.toList = none) := by simp only [Hid]; rw [HF.out]; unfold finR; rw [if_neg (by rw [hrt]; rintro ⟨h, _⟩; cases h)]
              clear hrt
              go_wp2_with (first | (go_at_call 24; refine (HRt.out _).mono ?_; rintro e w5 ⟨rfl, hb5⟩; refine Hid.out ?_))
              refine Lib.hid ?_
              have hBW : Below w1.heap.size w1 w5 := HBx.out.trans (hb5.mono (by have := HBx.out.size; omega))
              obtain ⟨el, ⟨e0, e1, e2, e3, e4⟩, ef⟩ := HR1.out.below hBW hlR
              have HX : Hid (Below w.heap.size w w5) := hb1.trans (hBW.mono hb1.size)
              clear hBW
              go_wp2
              refine bodyPost_ret (v := .tuple #[(c0 : Cod).v, .string ⟨#[]⟩, .bool false]) (by simp [results, Tryz.results7, go_sem, Cod.v, c0, e0, e1, e2, e3, e4]) rfl ⟨⟨c0, ⟨#[]⟩, false, rfl, HR.out⟩, ?_⟩
              first | exact HX.out | exact HX.out.trans (set5_below (n := w.heap.size) c0 (Nat.le_refl _))
            · rw [hrt] at HRt
              have HTx : Hid (∀ V, Calls Tryz.prog 8 #[(c : Cod).v] V fun e w' => e = .returned (.string (toB (textC c))) ∧ Below V.heap.size V w') := fun V => rText_any c V hrt
              unfold Cod.v at HTx
              have HF2 : Hid (rpar s.data.toList = if decide (textC c = s.data.toList) = true then some (c, (⟨#[]⟩ : ByteArray).data.toList) else none) := by simp only [Hid]; rw [HF.out]; unfold finR; simp [hrt]
              have hbe : ((toB (textC c)).toList == s.toList) = decide (textC c = s.data.toList) := by rw [toL_beq, list_toB]
              generalize decide (textC c = s.data.toList) = bb at hbe HF2
              generalize toB (textC c) = tb at hbe HTx
              clear hrt
              go_wp2_with (first | (go_at_call 24; refine (HRt.out _).mono ?_; rintro e w5 ⟨rfl, hb5⟩; refine Hid.out ?_))
              refine Lib.hid ?_
              have hB5 : Below w1.heap.size w1 w5 := HBx.out.trans (hb5.mono (by have := HBx.out.size; omega))
              obtain ⟨dl, ⟨d0, d1, d2, d3, d4⟩, df⟩ := HCx.out.below hb5 cl
              have HD := Lib.hid (HCx.out.below hb5 cl)
              have HRR := Lib.hid (HR1.out.below hB5 hlR)
              obtain ⟨el, ⟨e0, e1, e2, e3, e4⟩, ef⟩ := HR1.out.below hB5 hlR
              have hX5 : Below w.heap.size w w5 := hb1.trans (hB5.mono hb1.size)
              clear a0 a1 a2 a3 a4 af HRt
              go_wp2_with fail
              go_region_law (go_simp; go_at_call 8; refine Calls.mono (HTx.out _) ?_; rintro e w6 ⟨rfl, hb6⟩; have hb6' : Below w5.heap.size w5 w6 := (bdl hb6); obtain ⟨pl, ⟨p0, p1, p2, p3, p4⟩, pf⟩ := HD.out.below hb6' dl; obtain ⟨ql, ⟨q0', q1, q2, q3, q4⟩, qf⟩ := HRR.out.below hb6' el; have HX6 := Lib.hid (hX5.trans (hb6'.mono hX5.size)); clear hb6 hb6')
              all_goals (go_wp2; refine bodyPost_ret (v := .tuple #[(c : Cod).v, .string ⟨#[]⟩, .bool bb]) (by simp [results, Tryz.results7, go_sem, Cod.v, q0', q1, q2, q3, q4]) rfl ⟨⟨c, ⟨#[]⟩, bb, rfl, HF2.out⟩, HX6.out.trans (set5_below (n := w.heap.size) c (Nat.le_refl _))⟩)
      · have HR : Hid (rpar s.data.toList = none) := by simp only [Hid]; unfold rpar; rw [← HWS.out, HO.out, hh, HNn.out, if_pos (.inr hn)]
        have hne : ((n : Int) == 4) = false := by simp only [beq_eq_false_iff_ne]; omega
        have hBW := hB
        clear hn hh hA hB
        go_wp2_with (first | (go_at_call 20; refine (HS.out _).mono ?_; rintro e w' ⟨rfl, hw'⟩; rw [hw']; clear hw' w'; refine Hid.out ?_))
        refine Lib.hid ?_
        obtain ⟨el, ⟨e0, e1, e2, e3, e4⟩, ef⟩ := HR1.out.below hBW hlR
        have HX : Hid (Below w.heap.size w wo) := hb1.trans (hBW.mono hb1.size)
        clear hBW
        go_wp2
        refine bodyPost_ret (v := .tuple #[(c0 : Cod).v, .string ⟨#[]⟩, .bool false]) (by simp [results, Tryz.results7, go_sem, Cod.v, c0, e0, e1, e2, e3, e4]) rfl ⟨⟨c0, ⟨#[]⟩, false, rfl, HR.out⟩, ?_⟩
        first | exact HX.out | exact HX.out.trans (set5_below (n := w.heap.size) c0 (Nat.le_refl _))
end Go.Proofs.YtgldkmabhmlijaaGreatDoor
