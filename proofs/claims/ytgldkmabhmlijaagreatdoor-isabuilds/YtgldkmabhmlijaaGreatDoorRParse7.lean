/- What Parse of the reference answers, of the shape 6. -/
import Derived.Test.YtgldkmabhmlijaaGreatDoorRKeep
namespace Go.Proofs.YtgldkmabhmlijaaGreatDoor
open Go.RowKit Go.Sort
set_option maxRecDepth 100000 in
set_option maxHeartbeats 4000000 in
theorem rParse_6 (s : ByteArray) (w : World) (hs : s.size < 100000) (o : Int) (ho : opN ((wdA 32 [] s.data.toList).getD 0 []) = o) (h0 : 0 ≤ o ∧ o ≤ 26) (hh : sh o = 6) : Calls Tryz.prog 7 #[.string s] w (RP s w) := by
  have hl : s.data.toList.length = s.size := by simp
  have HWd := Lib.hid (fun W => Words_any s 32 W (by omega))
  have hws := wdA_len 32 s.data.toList []
  have hsz := wdA_sizes 32 s.data.toList []
  obtain ⟨ws, hwsd⟩ : ∃ ws, ws = wdA 32 [] s.data.toList := ⟨_, rfl⟩
  rw [← hwsd] at hws hsz ho
  simp only [← hwsd] at HWd
  have HWS := Lib.hid hwsd
  have hbl : (bas ws).length = ws.length := by simp [bas]
  have hwz : ∀ j, (toB (ws.getD j [])).size < 1000000 := fun j => by
    show (ws.getD j []).length < 1000000
    by_cases hj : j < ws.length
    · rw [List.getD_eq_getElem?_getD, List.getElem?_eq_getElem hj]
      have := hsz _ (List.getElem_mem hj)
      simp at this ⊢; omega
    · rw [List.getD_eq_getElem?_getD, List.getElem?_eq_none (by omega)]; decide
  have HWZ := Lib.hid hwz
  clear hwsd hsz hl hwz
  have hbA : Below w.heap.size w (w.alloc (.cells #[.int .i64 0, .int .i64 0, .int .i64 0, .int .i64 0, .int .i64 0] 24)) := (Below.refl _ _).alloc (Nat.le_refl _) _
  have hRA := At5.new w c0 24
  go_enter Tryz.func7, Tryz.ntmps7
  go_wp2_with (go_at_call 18; refine (HWd.out _).mono ?_; rintro e w1 ⟨v, rfl, how, hb1'⟩; refine Hid.out ?_)
  refine Lib.hid ?_
  have hb1 : Below w.heap.size w w1 := hbA.trans (hb1'.mono (by simp))
  have HR1 : Hid (At5 w1 w.heap.size c0) := hRA.below hb1' (by simp)
  have hlR : w.heap.size < w1.heap.size := by have := hb1'.size; simp at this; omega
  obtain ⟨g, cap, rfl, hg1, hg2, hcell⟩ := sts_cells how (by rw [hbl]; exact hws.1)
  have hcell2 : ∀ j, j < ws.length → w1.cell? ⟨g, j, none⟩ = some (.string (toB (ws.getD j []))) := fun j hj => by
    rw [hcell j (by omega)]; simp [bas, List.getD_eq_getElem?_getD, List.getElem?_eq_getElem hj]
  have HC := Lib.hid hcell2
  rw [hbl]
  obtain ⟨n, hn⟩ : ∃ n, ws.length = n := ⟨_, rfl⟩
  rw [hn] at hws HC ⊢
  have HNn := Lib.hid hn
  have hn1 : 1 ≤ n := hws.1
  clear hcell hcell2 how hbl hn HWd hws hbA hRA hb1' hg2
  have hA0 : At5 (w1.alloc (.cells #[.int .i64 (-1), .int .i64 0, .int .i64 0, .int .i64 0, .int .i64 0] 24)) w1.heap.size ⟨-1, 0, 0, 0, 0⟩ := At5.new w1 ⟨-1, 0, 0, 0, 0⟩ _
  have hB0 : Below w1.heap.size w1 (w1.alloc (.cells #[.int .i64 (-1), .int .i64 0, .int .i64 0, .int .i64 0, .int .i64 0] 24)) := (Below.refl _ _).alloc (Nat.le_refl _) _
  have h0n : (0 : Int) < (n : Int) := by omega
  have h0N : 0 < n := by omega
  obtain ⟨q0, hq0⟩ : ∃ q0, q0 = toB (ws.getD 0 []) := ⟨_, rfl⟩
  have hoq : opN q0.data.toList = o := by rw [hq0, list_toB]; exact ho
  have HNm : Hid (∀ k : Nat, k < 27 → ((nmB k).toList == q0.toList) = decide (o = k)) := fun k hk => by rw [nmB_op k hk, hoq]
  have HC0 := Lib.hid (HC.out 0 (by omega))
  rw [← hq0] at HC0
  have HO := Lib.hid ho
  clear hq0 hoq ho
  go_wp2_with fail
  go_loopw [7] (fun iv wr => ∃ k : Nat, k ≤ 27 ∧ iv = .int .i64 k ∧ At5 wr w1.heap.size ⟨opP o k, 0, 0, 0, 0⟩ ∧ Below w1.heap.size w1 wr) (fun iv _ => 27 - (intOf iv).toNat)
  case atStart => exact ⟨0, by omega, rfl, by rw [show opP o 0 = -1 from by unfold opP; rw [if_neg (by omega)]]; exact hA0, hB0⟩
  case round =>
    clear hA0 hB0
    obtain ⟨k, hk, rfl, hA, hB⟩ := hrel
    have hzB := hB.size
    by_cases hlt : k < 27
    · have hki : (k : Int) ≤ 26 := by omega
      have HN : Hid (∀ W, Calls Tryz.prog 19 #[.int .i64 (k : Int)] W fun e w' => e = .returned (.string (nmB k)) ∧ Below W.heap.size W w') := fun W => (Name_in k W (by omega)).mono fun e w' ⟨h1, h2⟩ => ⟨h1, by rw [h2]; exact Below.refl _ _⟩
      have gc0 : ∀ n os, (gx wr n os).cell? ⟨g, 0, none⟩ = some (.string q0) := cell_gx (by show g < wr.heap.size; omega) ((hB.cell (p := ⟨g, 0, none⟩) hg1).trans HC0.out)
      have hbe := HNm.out k hlt
      obtain ⟨bk, hbk⟩ : ∃ bk, bk = decide (o = (k : Int)) := ⟨_, rfl⟩
      rw [← hbk] at hbe
      have HBK := Lib.hid hbk
      clear hbk
      generalize nmB k = nb at HN hbe
      have HAA := Lib.hid hA
      have HBB := Lib.hid hB
      have hl5 := hA.1
      clear hA hB
      go_wp2_with fail
      refine wp_region_quiet_gx (by kernel_rfl) (by kernel_rfl) ?_
      repeat (quiet_step (first | (go_at_call 19; with_reducible exact calls_gx (HN.out _))))
      refine wpQuiet_nil ?_
      intro _ hw'
      obtain ⟨⟨nq, osq⟩, hw''⟩ := hw'
      subst hw''
      have hb2 := gx_below wr nq osq
      have hA2 := HAA.out.below hb2 hl5
      have HB2 := Lib.hid (HBB.out.trans (hb2.mono hzB))
      generalize gx wr nq osq = w2 at hb2 hA2 HB2 ⊢
      have HA2 := Lib.hid hA2
      have f0 := hA2.2.2 0
      have c0' := hA2.2.1.1
      clear hA2 hb2 gc0
      clear hbe
      rcases bk with _ | _
      rotate_left
      · have hok : o = k := of_decide_eq_true HBK.out.symm
        have HP : Hid (opP o (k + 1) = k) := by simp only [Hid]; unfold opP; rw [if_pos (by omega)]; exact hok
        clear hok
        go_wp2
        go_roundw
        case rel =>
          refine ⟨k + 1, by omega, by go_num, ?_, HB2.out.setCell (p := ⟨w1.heap.size, 0, none⟩) (Nat.le_refl _) _⟩
          rw [HP.out]; exact HA2.out.put0 k
        case measure => simp [intOf]; omega
      · have hok : ¬ o = k := of_decide_eq_false HBK.out.symm
        have HP : Hid (opP o (k + 1) = opP o k) := by simp only [Hid]; unfold opP; congr 1; rw [eq_iff_iff]; omega
        clear hok
        go_wp2
        go_roundw
        case rel => exact ⟨k + 1, by omega, by go_num, by rw [HP.out]; exact HA2.out, HB2.out⟩
        case measure => simp [intOf]; omega
    · obtain rfl : k = 27 := by omega
      have hki : ¬ ((27 : Nat) : Int) ≤ 26 := by omega
      clear hlt HNm HC0
      rw [show opP o 27 = o from by unfold opP; rw [if_pos (by omega)]] at hA
      obtain ⟨wo, rfl⟩ : ∃ wo, wo = wr := ⟨_, rfl⟩
      have h0i : ¬ o < 0 := by omega
      have HS : Hid (∀ W, Calls Tryz.prog 20 #[.int .i64 o] W fun e w' => e = .returned (.int .i64 6) ∧ w' = W) := fun W => by have := Shape_any o W; rw [hh] at this; exact this
      have c0' := hA.2.1.1
      by_cases hn : n = 3
      · subst hn
        have HRp : Hid (rpar s.data.toList = rpB s.data.toList ws 6 (rgK ws o 1)) := by simp only [Hid]; unfold rpar; rw [← HWS.out, HO.out, hh, HNn.out, if_neg (by rintro (h | h); exact absurd h h0i; exact h rfl)]; exact rfl
        have HHh := Lib.hid hh
        have HA := Lib.hid hA
        have HB := Lib.hid hB
        clear hh h0n h0N hn1 hA hB
        go_wp2_with (first | (go_at_call 20; refine (HS.out _).mono ?_; rintro e w' ⟨rfl, hw'⟩; rw [hw']; clear hw' w'))
        go_loopw [12] (fun iv wr => ∃ (k : Nat) (c : Cod), k ≤ 1 ∧ iv = .int .i64 k ∧ rgK ws o k = some c ∧ At5 wr w1.heap.size c ∧ Below w1.heap.size w1 wr) (fun iv _ => 1 - (intOf iv).toNat)
        case atStart => exact ⟨0, ⟨o, 0, 0, 0, 0⟩, by omega, rfl, rfl, HA.out, HB.out⟩
        case round =>
          clear c0' HS
          obtain ⟨k2, c, hk2, rfl, hrg, hA, hB⟩ := hrel
          have hzW := hB.size
          have HRg := Lib.hid hrg
          clear hrg HA HB
          by_cases hlt2 : k2 < 1
          · have HCx := Lib.hid hA
            have HBx := Lib.hid hB
            have hl5 := hA.1
            clear hA hB
            obtain rfl : k2 = 0 := by omega
            clear hlt2 hk2
            have hcj : wr.cell? ⟨g, 1, none⟩ = some (.string (toB (ws.getD 1 []))) := (HBx.out.cell (p := ⟨g, 1, none⟩) hg1).trans (HC.out 1 (by omega))
            have HV := Lib.hid (fun V => register_any (toB (ws.getD 1 [])) V (HWZ.out 1))
            rw [list_toB] at HV
            generalize toB (ws.getD 1 []) = qj at hcj HV
            rcases hreg : regL (ws.getD 1 []) with _ | x
            · rw [hreg] at HV
              have HR : Hid (rpar s.data.toList = none) := by
                have h1 : rgK ws o 1 = none := by rw [rgK, HRg.out]; simp only; rw [hreg]
                simp only [Hid]; rw [HRp.out, h1, rpB]
              have HV' : Hid (∀ V, Calls Tryz.prog 21 #[.string qj] V fun e w' => e = .returned (.tuple #[.int .i64 0, .bool false]) ∧ Below V.heap.size V w') := HV
              clear hreg HV
              go_wp2_with (first | (go_at_call 21; refine (HV'.out _).mono ?_; rintro e w5 ⟨rfl, hb5⟩; refine Hid.out ?_))
              refine Lib.hid ?_
              have hBW : Below w1.heap.size w1 w5 := HBx.out.trans (hb5.mono (by omega))
              obtain ⟨el, ⟨e0, e1, e2, e3, e4⟩, ef⟩ := HR1.out.below hBW hlR
              have HX : Hid (Below w.heap.size w w5) := hb1.trans (hBW.mono hb1.size)
              clear hBW
              go_wp2
              refine bodyPost_ret (v := .tuple #[(c0 : Cod).v, .string ⟨#[]⟩, .bool false]) (by simp [results, Tryz.results7, go_sem, Cod.v, c0, e0, e1, e2, e3, e4]) rfl ⟨⟨c0, ⟨#[]⟩, false, rfl, HR.out⟩, ?_⟩
              first | exact HX.out | exact HX.out.trans (set5_below (n := w.heap.size) c0 (Nat.le_refl _))
            · rw [hreg] at HV
              have HK : Hid (rgK ws o 1 = some (setR c 0 x)) := by simp only [Hid]; rw [rgK, HRg.out]; simp only; rw [hreg]
              have HV' : Hid (∀ V, Calls Tryz.prog 21 #[.string qj] V fun e w' => e = .returned (.tuple #[.int .i64 x, .bool true]) ∧ Below V.heap.size V w') := HV
              clear hreg HV
              go_wp2_with (first | (go_at_call 21; refine (HV'.out _).mono ?_; rintro e w5 ⟨rfl, hb5⟩; refine Hid.out ?_))
              refine Lib.hid ?_
              have HB5 : Hid (Below w1.heap.size w1 w5) := HBx.out.trans (hb5.mono (by omega))
              have hA5 := HCx.out.below hb5 hl5
              have HA5 := Lib.hid hA5
              obtain ⟨dl, ⟨d0, d1, d2, d3, d4⟩, df⟩ := hA5
              have df1 := df 1
              go_wp2
              go_roundw
              case rel => exact ⟨1, setR c 0 x, by omega, by go_num, HK.out, HA5.out.put1 x, HB5.out.setCell (p := ⟨w1.heap.size, 1, none⟩) (Nat.le_refl _) _⟩
              case measure => simp [intOf]
          · obtain rfl : k2 = 1 := by omega
            clear hk2 hlt2
            have HCc := Lib.hid hA
            have HBc := Lib.hid hB
            have hl5 := hA.1
            have hn0 : c.n = 0 := (rgK_some HRg.out).2
            clear hA hB
            have hcj : wr.cell? ⟨g, 2, none⟩ = some (.string (toB (ws.getD 2 []))) := (HBc.out.cell (p := ⟨g, 2, none⟩) hg1).trans (HC.out 2 (by omega))
            have HV := Lib.hid (fun V => Value_any (toB (ws.getD 2 [])) V (HWZ.out 2))
            have hqz := HWZ.out 2
            rw [list_toB] at HV
            obtain ⟨qv, hqv⟩ : ∃ qv, qv = toB (ws.getD 2 []) := ⟨_, rfl⟩
            have hql : ws.getD 2 [] = qv.data.toList := by rw [hqv, list_toB]
            rw [← hqv] at hcj HV hqz
            rcases hval : valL (ws.getD 2 []) with _ | x
            · rw [hval] at HV
              have HV' : Hid (∀ V, Calls Tryz.prog 22 #[.string qv] V fun e w' => e = .returned (.tuple #[.int .i64 0, .bool false]) ∧ Below V.heap.size V w') := HV
              clear HV
              have hrp2 : rpar s.data.toList = if nameL (ws.getD 2 []) = true then finR s.data.toList c (ws.getD 2 []) else none := by rw [HRp.out, HRg.out]; simp only [rpB]; rw [if_neg (show ¬ nuN 6 = 0 by decide), show rgN 6 + 1 = 2 from rfl, hval]; simp
              rw [hql] at hrp2
              have HND := Lib.hid (fun V => rNamed_any qv V hqz)
              clear hqv hql hval
              go_wp2_with (first | (go_at_call 22; refine (HV'.out _).mono ?_; rintro e w5 ⟨rfl, hb5⟩; refine Hid.out ?_))
              refine Lib.hid ?_
              have hA5 := HCc.out.below hb5 hl5
              have hB5 : Below w1.heap.size w1 w5 := HBc.out.trans (hb5.mono (by omega))
              have hc5 : w5.cell? ⟨g, 2, none⟩ = some (.string qv) := (hb5.cell (p := ⟨g, 2, none⟩) (by show g < wr.heap.size; omega)).trans hcj
              have hf4 := hA5.2.2 4
              have hd4 := hA5.2.1.2.2.2.2
              have hgne : ¬ g = w1.heap.size := by omega
              have hA6 := hA5.put4 0
              rw [show ({ c with n := 0 } : Cod) = c from by rw [← hn0]] at hA6
              have hB6 : Below w1.heap.size w1 (w5.setCell ⟨w1.heap.size, 4, none⟩ (.int .i64 0)) := hB5.setCell (p := ⟨w1.heap.size, 4, none⟩) (Nat.le_refl _) _
              have hc6 : (w5.setCell ⟨w1.heap.size, 4, none⟩ (.int .i64 0)).cell? ⟨g, 2, none⟩ = some (.string qv) := (hB6.cell (p := ⟨g, 2, none⟩) hg1).trans ((hB5.cell (p := ⟨g, 2, none⟩) hg1).symm.trans hc5)
              go_upto_region 44 with fail
              generalize w5.setCell ⟨w1.heap.size, 4, none⟩ (.int .i64 0) = W7 at hA6 hB6 hc6 ⊢
              have HA6 := Lib.hid hA6
              have HB6 := Lib.hid hB6
              have hl7 := hA6.1
              clear hA5 hB5 hc5 hf4 hd4 hA6 hB6 hb5 hcj
              rcases hnm : nameL qv.data.toList with _ | _
              · rw [hnm] at HND hrp2
                have HR : Hid (rpar s.data.toList = none) := by simp only [Hid]; rw [hrp2]; simp
                clear hnm hrp2
                go_wp2_with (first | (go_at_call 23; refine (HND.out _).mono ?_; rintro e w8 ⟨rfl, hb8⟩; refine Hid.out ?_))
                refine Lib.hid ?_
                have hBW : Below w1.heap.size w1 w8 := HB6.out.trans (hb8.mono (by have := HB6.out.size; omega))
                obtain ⟨el, ⟨e0, e1, e2, e3, e4⟩, ef⟩ := HR1.out.below hBW hlR
                have HX : Hid (Below w.heap.size w w8) := hb1.trans (hBW.mono hb1.size)
                clear hBW
                go_wp2
                refine bodyPost_ret (v := .tuple #[(c0 : Cod).v, .string ⟨#[]⟩, .bool false]) (by simp [results, Tryz.results7, go_sem, Cod.v, c0, e0, e1, e2, e3, e4]) rfl ⟨⟨c0, ⟨#[]⟩, false, rfl, HR.out⟩, ?_⟩
                first | exact HX.out | exact HX.out.trans (set5_below (n := w.heap.size) c0 (Nat.le_refl _))
              · have hnn : qv.data.toList ≠ [] := let_ne hnm
                have hnn2 : qv.toList.isEmpty = false := by rw [ByteArray.toList_eq]; simpa using hnn
                rw [hnm] at HND hrp2
                have HF : Hid (rpar s.data.toList = finR s.data.toList c qv.data.toList) := by simp only [Hid]; rw [hrp2]; simp
                clear hnm hrp2
                go_wp2_with (first | (go_at_call 23; refine (HND.out _).mono ?_; rintro e w8 ⟨rfl, hb8⟩; refine Hid.out ?_))
                refine Lib.hid ?_
                have hBW : Below w1.heap.size w1 w8 := HB6.out.trans (hb8.mono (by have := HB6.out.size; omega))
                have hA := HA6.out.below hb8 hl7
                have hc8 : w8.cell? ⟨g, 2, none⟩ = some (.string qv) := (hb8.cell (p := ⟨g, 2, none⟩) (by show g < W7.heap.size; have := HB6.out.size; omega)).trans hc6
                clear hc6 HND hgne hn0
                obtain ⟨_, ⟨a0, a1, a2, a3, a4⟩, af⟩ := HA6.out.below hb8 hl7
                have HRt := Lib.hid (fun V => rRight_any c V)
                unfold Cod.v at HRt
                have HCx := Lib.hid hA
                have HBx := Lib.hid hBW
                have cl := hA.1
                clear hBW
                rcases hrt : rightC c with _ | _
                · rw [hrt] at HRt
                  have HR : Hid (rpar s.data.toList = none) := by simp only [Hid]; rw [HF.out]; unfold finR; rw [if_neg (by rw [hrt]; rintro ⟨h, _⟩; cases h)]
                  clear hrt
                  go_wp2_with (first | (go_at_call 24; refine (HRt.out _).mono ?_; rintro e w5 ⟨rfl, hb5⟩; refine Hid.out ?_))
                  refine Lib.hid ?_
                  have hBW : Below w1.heap.size w1 w5 := HBx.out.trans (hb5.mono (by have := HBx.out.size; omega))
                  obtain ⟨el, ⟨e0, e1, e2, e3, e4⟩, ef⟩ := HR1.out.below hBW hlR
                  have HX : Hid (Below w.heap.size w w5) := hb1.trans (hBW.mono hb1.size)
                  clear hBW
                  go_wp2
                  refine bodyPost_ret (v := .tuple #[(c0 : Cod).v, .string ⟨#[]⟩, .bool false]) (by simp [results, Tryz.results7, go_sem, Cod.v, c0, e0, e1, e2, e3, e4]) rfl ⟨⟨c0, ⟨#[]⟩, false, rfl, HR.out⟩, ?_⟩
                  first | exact HX.out | exact HX.out.trans (set5_below (n := w.heap.size) c0 (Nat.le_refl _))
                · rw [hrt] at HRt
                  have HTx : Hid (∀ V, Calls Tryz.prog 8 #[(c : Cod).v] V fun e w' => e = .returned (.string (toB (textC c))) ∧ Below V.heap.size V w') := fun V => rText_any c V hrt
                  unfold Cod.v at HTx
                  have hpos := text_pos c hrt
                  have hup : (textC c).length ≤ 100 := text_up c hrt
                  have HF2 : Hid (rpar s.data.toList = if decide ((textC c).dropLast ++ qv.data.toList = s.data.toList) = true then some (c, qv.data.toList) else none) := by simp only [Hid]; rw [HF.out]; unfold finR; simp [hrt, hnn]
                  have hlt : (toB (textC c)).size = (textC c).length := rfl
                  have htN : 0 < (toB (textC c)).size := by rw [hlt]; omega
                  have htp : (0 : Int) < ((toB (textC c)).size : Int) := by rw [hlt]; omega
                  have ht1 : (0 : Int) ≤ ((toB (textC c)).size : Int) - 1 := by omega
                  have ht2 : ((toB (textC c)).size : Int) - 1 ≤ ((toB (textC c)).size : Int) := by omega
                  have ht3 : (((toB (textC c)).size : Int) - 1).toNat = (toB (textC c)).size - 1 := by omega
                  have hw2 : IntKind.i64.wrap (((toB (textC c)).size : Int) - 1) = ((toB (textC c)).size : Int) - 1 := IntWalk.i64_in _ (by omega)
                  have ht0 : ¬ ((toB (textC c)).size : Int) < 1 := by omega
                  have hjs2 : (toB (textC c)).size - 1 + qv.size ≤ 9223372036854775807 := by omega
                  have hwr : wrap64 (((toB (textC c)).size : Int) - 1) = ((toB (textC c)).size : Int) - 1 := wrap64_id (by omega) (by omega)
                  have hdl : ((toB (textC c)).extract 0 ((toB (textC c)).size - 1)).data.toList = (textC c).dropLast := by rw [ByteArray.data_extract, Array.toList_extract, list_toB]; simp [List.dropLast_eq_take, hlt]
                  have hbe : (((toB (textC c)).extract 0 ((toB (textC c)).size - 1) ++ qv).toList == s.toList) = decide ((textC c).dropLast ++ qv.data.toList = s.data.toList) := by rw [toL_beq, ByteArray.data_append, Array.toList_append, hdl]
                  have hjs : ((toB (textC c)).extract 0 ((toB (textC c)).size - 1)).size + qv.size ≤ 9223372036854775807 := by rw [ByteArray.size_extract]; omega
                  generalize decide ((textC c).dropLast ++ qv.data.toList = s.data.toList) = bb at hbe HF2
                  clear hdl hlt hpos hrt hup hqz
                  generalize toB (textC c) = tb at hbe hjs hjs2 hw2 ht0 htN ht1 ht2 ht3 htp hwr HTx
                  go_wp2_with (first | (go_at_call 24; refine (HRt.out _).mono ?_; rintro e w5 ⟨rfl, hb5⟩; refine Hid.out ?_))
                  refine Lib.hid ?_
                  have hB5 : Below w1.heap.size w1 w5 := HBx.out.trans (hb5.mono (by have := HBx.out.size; omega))
                  have hA5 := HCx.out.below hb5 cl
                  have HD := Lib.hid hA5
                  obtain ⟨dl, ⟨d0, d1, d2, d3, d4⟩, df⟩ := hA5
                  clear HRt
                  go_wp2_with (first | (go_at_call 8; refine (HTx.out _).mono ?_; rintro e w6 ⟨rfl, hb6⟩; refine Hid.out ?_))
                  refine Lib.hid ?_
                  have hB6 : Below w1.heap.size w1 w6 := hB5.trans (hb6.mono (by have := hB5.size; omega))
                  obtain ⟨pl, ⟨p0, p1, p2, p3, p4⟩, pf⟩ := HD.out.below hb6 dl
                  obtain ⟨ql, ⟨q0', q1, q2, q3, q4⟩, qf⟩ := HR1.out.below hB6 hlR
                  have HX6 : Hid (Below w.heap.size w w6) := hb1.trans (hB6.mono hb1.size)
                  clear hb6 hb5 hB5 hB6 d0 d1 d2 d3 d4 df
                  go_wp2_with fail
                  have HP6 : Hid (At5 w6 w1.heap.size c) := ⟨pl, ⟨p0, p1, p2, p3, p4⟩, pf⟩
                  have HQ6 : Hid (At5 w6 w.heap.size c0) := ⟨ql, ⟨q0', q1, q2, q3, q4⟩, qf⟩
                  clear p0 p1 p2 p3 p4 pf q0' q1 q2 q3 q4 qf pl ql
                  refine wp_region_st2 8 16 0 147 (KR w.heap.size) (fun _ Xq => At5 Xq w.heap.size c) (fun kq uq _ => match kq with | 147 => uq = .agg #[.int .i64 c.op, .int .i64 c.a, .int .i64 c.b, .int .i64 c.c, .int .i64 c.n] | 148 => uq = .string qv | 149 => uq = .string tb | 150 => uq = .int .i64 (tb.size : Int) | 151 => uq = .bool true | 152 => uq = .bool true | 153 => uq = .string tb | 154 => uq = .string tb | 155 => uq = .int .i64 (tb.size : Int) | 156 => uq = .int .i64 ((tb.size : Int) - 1) | 157 => uq = .string (tb.extract 0 (tb.size - 1)) | 158 => uq = .string qv | 159 => uq = .string ((tb.extract 0 (tb.size - 1)) ++ qv) | 160 => uq = .string s | 161 => uq = .bool bb | 162 => uq = .bool bb | 3 => uq = .string qv | 4 => uq = .bool bb | _ => True) (by kernel_rfl) (by kernel_rfl) (by kernel_rfl) (by kernel_rfl) rfl (by decide) (fun _ _ h => KR.below h) (fun _ _ _ h k => h.trans k) ?_ ?_ ?_ ?_ ?_
                  · intro _ _ _ W W' h _ hb; exact h.below hb h.1
                  · intro _ _ _ _ h _; exact h
                  · intro a' X hB hs hk i o d hic ho hd hG
                    match i, ho, hic with
                    | 0, ho, _ =>
                      obtain rfl : _ = o := Option.some.inj ho
                      obtain rfl : 147 = d := Option.some.inj hd
                      have g6 : a'.eval (.tmp 6) = .pointer (some ⟨w1.heap.size, 0, none⟩) := hk 6 (by kernel_rfl)
                      refine ⟨rfl, .inl ⟨.agg #[.int .i64 c.op, .int .i64 c.a, .int .i64 c.b, .int .i64 c.c, .int .i64 c.n], X, ?_, Below.refl _ _, rfl⟩⟩
                      obtain ⟨ev, hev⟩ : ∃ ev, a'.eval = ev := ⟨_, rfl⟩
                      rw [hev] at g6 ⊢
                      clear hev hG hk hs
                      obtain ⟨_, ⟨x0, x1, x2, x3, x4⟩, _⟩ := hB.at5 HP6.out (by omega)
                      clear hB
                      go_simp
                    | 1, ho, _ =>
                      obtain rfl : _ = o := Option.some.inj ho
                      obtain rfl : 148 = d := Option.some.inj hd
                      have g15 : a'.eval (.tmp 15) = .string qv := hk 15 (by kernel_rfl)
                      refine ⟨rfl, .inl ⟨.string qv, X, ?_, Below.refl _ _, rfl⟩⟩
                      obtain ⟨ev, hev⟩ : ∃ ev, a'.eval = ev := ⟨_, rfl⟩
                      rw [hev] at g15 ⊢
                      clear hev hG hk hs
                      clear hB
                      go_simp
                    | 2, ho, _ =>
                      obtain rfl : _ = o := Option.some.inj ho
                      obtain rfl : 149 = d := Option.some.inj hd
                      have g18 : a'.eval (.tmp 18) = .string tb := hk 18 (by kernel_rfl)
                      refine ⟨rfl, .inl ⟨.string tb, X, ?_, Below.refl _ _, rfl⟩⟩
                      obtain ⟨ev, hev⟩ : ∃ ev, a'.eval = ev := ⟨_, rfl⟩
                      rw [hev] at g18 ⊢
                      clear hev hG hk hs
                      clear hB
                      go_simp
                    | 3, ho, _ =>
                      obtain rfl : _ = o := Option.some.inj ho
                      obtain rfl : 150 = d := Option.some.inj hd
                      have g149 : a'.eval (.tmp 149) = .string tb := hG ⟨2, .data⟩ (by simp) rfl 149 rfl
                      refine ⟨rfl, .inl ⟨.int .i64 (tb.size : Int), X, ?_, Below.refl _ _, rfl⟩⟩
                      obtain ⟨ev, hev⟩ : ∃ ev, a'.eval = ev := ⟨_, rfl⟩
                      rw [hev] at g149 ⊢
                      clear hev hG hk hs
                      clear hB
                      go_simp
                    | 4, ho, _ =>
                      obtain rfl : _ = o := Option.some.inj ho
                      obtain rfl : 151 = d := Option.some.inj hd
                      have g150 : a'.eval (.tmp 150) = .int .i64 (tb.size : Int) := hG ⟨3, .data⟩ (by simp) rfl 150 rfl
                      have k0 : a'.eval (.const (.int .i64 0)) = (.int .i64 0) := rfl
                      refine ⟨rfl, .inl ⟨.bool true, X, ?_, Below.refl _ _, rfl⟩⟩
                      obtain ⟨ev, hev⟩ : ∃ ev, a'.eval = ev := ⟨_, rfl⟩
                      rw [hev] at g150 k0 ⊢
                      clear hev hG hk hs
                      clear hB
                      go_simp
                    | 5, ho, _ =>
                      obtain rfl : _ = o := Option.some.inj ho
                      obtain rfl : 152 = d := Option.some.inj hd
                      have g151 : a'.eval (.tmp 151) = .bool true := hG ⟨4, .data⟩ (by simp) rfl 151 rfl
                      refine ⟨rfl, .inl ⟨.bool true, X, ?_, Below.refl _ _, rfl⟩⟩
                      obtain ⟨ev, hev⟩ : ∃ ev, a'.eval = ev := ⟨_, rfl⟩
                      rw [hev] at g151 ⊢
                      clear hev hG hk hs
                      clear hB
                      go_simp
                    | 6, ho, _ =>
                      obtain rfl : _ = o := Option.some.inj ho
                      obtain rfl : 153 = d := Option.some.inj hd
                      have g18 : a'.eval (.tmp 18) = .string tb := hk 18 (by kernel_rfl)
                      have gg : a'.eval (.tmp 152) = .bool true := hG ⟨5, .guard⟩ (by simp) rfl 152 rfl
                      refine ⟨want_yes (n := 168) (d := 152) rfl hs (by decide) rfl gg, .inl ⟨.string tb, X, ?_, Below.refl _ _, rfl⟩⟩
                      obtain ⟨ev, hev⟩ : ∃ ev, a'.eval = ev := ⟨_, rfl⟩
                      rw [hev] at g18 ⊢
                      clear hev hG hk hs gg
                      clear hB
                      go_simp
                    | 7, ho, _ =>
                      obtain rfl : _ = o := Option.some.inj ho
                      obtain rfl : 154 = d := Option.some.inj hd
                      have g18 : a'.eval (.tmp 18) = .string tb := hk 18 (by kernel_rfl)
                      have gg : a'.eval (.tmp 152) = .bool true := hG ⟨5, .guard⟩ (by simp) rfl 152 rfl
                      refine ⟨want_yes (n := 168) (d := 152) rfl hs (by decide) rfl gg, .inl ⟨.string tb, X, ?_, Below.refl _ _, rfl⟩⟩
                      obtain ⟨ev, hev⟩ : ∃ ev, a'.eval = ev := ⟨_, rfl⟩
                      rw [hev] at g18 ⊢
                      clear hev hG hk hs gg
                      clear hB
                      go_simp
                    | 8, ho, _ =>
                      obtain rfl : _ = o := Option.some.inj ho
                      obtain rfl : 155 = d := Option.some.inj hd
                      have g154 : a'.eval (.tmp 154) = .string tb := hG ⟨7, .data⟩ (by simp) rfl 154 rfl
                      have gg : a'.eval (.tmp 152) = .bool true := hG ⟨5, .guard⟩ (by simp) rfl 152 rfl
                      refine ⟨want_yes (n := 168) (d := 152) rfl hs (by decide) rfl gg, .inl ⟨.int .i64 (tb.size : Int), X, ?_, Below.refl _ _, rfl⟩⟩
                      obtain ⟨ev, hev⟩ : ∃ ev, a'.eval = ev := ⟨_, rfl⟩
                      rw [hev] at g154 ⊢
                      clear hev hG hk hs gg
                      clear hB
                      go_simp
                    | 9, ho, _ =>
                      obtain rfl : _ = o := Option.some.inj ho
                      obtain rfl : 156 = d := Option.some.inj hd
                      have g155 : a'.eval (.tmp 155) = .int .i64 (tb.size : Int) := hG ⟨8, .data⟩ (by simp) rfl 155 rfl
                      have k0 : a'.eval (.const (.int .i64 1)) = (.int .i64 1) := rfl
                      have gg : a'.eval (.tmp 152) = .bool true := hG ⟨5, .guard⟩ (by simp) rfl 152 rfl
                      refine ⟨want_yes (n := 168) (d := 152) rfl hs (by decide) rfl gg, .inl ⟨.int .i64 ((tb.size : Int) - 1), X, ?_, Below.refl _ _, rfl⟩⟩
                      obtain ⟨ev, hev⟩ : ∃ ev, a'.eval = ev := ⟨_, rfl⟩
                      rw [hev] at g155 k0 ⊢
                      clear hev hG hk hs gg
                      clear hB
                      go_simp
                    | 10, ho, _ =>
                      obtain rfl : _ = o := Option.some.inj ho
                      obtain rfl : 157 = d := Option.some.inj hd
                      have g153 : a'.eval (.tmp 153) = .string tb := hG ⟨6, .data⟩ (by simp) rfl 153 rfl
                      have g156 : a'.eval (.tmp 156) = .int .i64 ((tb.size : Int) - 1) := hG ⟨9, .data⟩ (by simp) rfl 156 rfl
                      have gg : a'.eval (.tmp 152) = .bool true := hG ⟨5, .guard⟩ (by simp) rfl 152 rfl
                      refine ⟨want_yes (n := 168) (d := 152) rfl hs (by decide) rfl gg, .inl ⟨.string (tb.extract 0 (tb.size - 1)), X, ?_, Below.refl _ _, rfl⟩⟩
                      obtain ⟨ev, hev⟩ : ∃ ev, a'.eval = ev := ⟨_, rfl⟩
                      rw [hev] at g153 g156 ⊢
                      clear hev hG hk hs gg
                      clear hB
                      go_simp
                    | 11, ho, _ =>
                      obtain rfl : _ = o := Option.some.inj ho
                      obtain rfl : 158 = d := Option.some.inj hd
                      have g15 : a'.eval (.tmp 15) = .string qv := hk 15 (by kernel_rfl)
                      have gg : a'.eval (.tmp 152) = .bool true := hG ⟨5, .guard⟩ (by simp) rfl 152 rfl
                      refine ⟨want_yes (n := 168) (d := 152) rfl hs (by decide) rfl gg, .inl ⟨.string qv, X, ?_, Below.refl _ _, rfl⟩⟩
                      obtain ⟨ev, hev⟩ : ∃ ev, a'.eval = ev := ⟨_, rfl⟩
                      rw [hev] at g15 ⊢
                      clear hev hG hk hs gg
                      clear hB
                      go_simp
                    | 12, ho, _ =>
                      obtain rfl : _ = o := Option.some.inj ho
                      obtain rfl : 159 = d := Option.some.inj hd
                      have g157 : a'.eval (.tmp 157) = .string (tb.extract 0 (tb.size - 1)) := hG ⟨10, .data⟩ (by simp) rfl 157 rfl
                      have g158 : a'.eval (.tmp 158) = .string qv := hG ⟨11, .data⟩ (by simp) rfl 158 rfl
                      have gg : a'.eval (.tmp 152) = .bool true := hG ⟨5, .guard⟩ (by simp) rfl 152 rfl
                      refine ⟨want_yes (n := 168) (d := 152) rfl hs (by decide) rfl gg, .inl ⟨.string ((tb.extract 0 (tb.size - 1)) ++ qv), X, ?_, Below.refl _ _, rfl⟩⟩
                      obtain ⟨ev, hev⟩ : ∃ ev, a'.eval = ev := ⟨_, rfl⟩
                      rw [hev] at g157 g158 ⊢
                      clear hev hG hk hs gg
                      clear hB
                      go_simp
                    | 13, ho, _ =>
                      obtain rfl : _ = o := Option.some.inj ho
                      obtain rfl : 160 = d := Option.some.inj hd
                      have g0 : a'.eval (.tmp 0) = .string s := hk 0 (by kernel_rfl)
                      have gg : a'.eval (.tmp 152) = .bool true := hG ⟨5, .guard⟩ (by simp) rfl 152 rfl
                      refine ⟨want_yes (n := 168) (d := 152) rfl hs (by decide) rfl gg, .inl ⟨.string s, X, ?_, Below.refl _ _, rfl⟩⟩
                      obtain ⟨ev, hev⟩ : ∃ ev, a'.eval = ev := ⟨_, rfl⟩
                      rw [hev] at g0 ⊢
                      clear hev hG hk hs gg
                      clear hB
                      go_simp
                    | 14, ho, _ =>
                      obtain rfl : _ = o := Option.some.inj ho
                      obtain rfl : 161 = d := Option.some.inj hd
                      have g159 : a'.eval (.tmp 159) = .string ((tb.extract 0 (tb.size - 1)) ++ qv) := hG ⟨12, .data⟩ (by simp) rfl 159 rfl
                      have g160 : a'.eval (.tmp 160) = .string s := hG ⟨13, .data⟩ (by simp) rfl 160 rfl
                      have gg : a'.eval (.tmp 152) = .bool true := hG ⟨5, .guard⟩ (by simp) rfl 152 rfl
                      refine ⟨want_yes (n := 168) (d := 152) rfl hs (by decide) rfl gg, .inl ⟨.bool bb, X, ?_, Below.refl _ _, rfl⟩⟩
                      obtain ⟨ev, hev⟩ : ∃ ev, a'.eval = ev := ⟨_, rfl⟩
                      rw [hev] at g159 g160 ⊢
                      clear hev hG hk hs gg
                      clear hB
                      go_simp
                    | 15, ho, _ =>
                      obtain rfl : _ = o := Option.some.inj ho
                      obtain rfl : 162 = d := Option.some.inj hd
                      have g152 : a'.eval (.tmp 152) = .bool true := hG ⟨5, .data⟩ (by simp) rfl 152 rfl
                      have g161 : a'.eval (.tmp 161) = .bool bb := hG ⟨14, .data⟩ (by simp) rfl 161 rfl
                      have k0 : a'.eval (.const (.bool false)) = (.bool false) := rfl
                      refine ⟨rfl, .inl ⟨.bool bb, X, ?_, Below.refl _ _, rfl⟩⟩
                      obtain ⟨ev, hev⟩ : ∃ ev, a'.eval = ev := ⟨_, rfl⟩
                      rw [hev] at g152 g161 k0 ⊢
                      clear hev hG hk hs
                      clear hB
                      go_simp
                    | 16, _, hic => exact absurd rfl hic
                    | 17, ho, _ =>
                      obtain rfl : _ = o := Option.some.inj ho
                      obtain rfl : 3 = d := Option.some.inj hd
                      have g148 : a'.eval (.tmp 148) = .string qv := hG ⟨1, .data⟩ (by simp) rfl 148 rfl
                      refine ⟨rfl, .inl ⟨.string qv, X, ?_, Below.refl _ _, rfl⟩⟩
                      obtain ⟨ev, hev⟩ : ∃ ev, a'.eval = ev := ⟨_, rfl⟩
                      rw [hev] at g148 ⊢
                      clear hev hG hk hs
                      clear hB
                      go_simp
                    | 18, ho, _ =>
                      obtain rfl : _ = o := Option.some.inj ho
                      obtain rfl : 4 = d := Option.some.inj hd
                      have g162 : a'.eval (.tmp 162) = .bool bb := hG ⟨15, .data⟩ (by simp) rfl 162 rfl
                      refine ⟨rfl, .inl ⟨.bool bb, X, ?_, Below.refl _ _, rfl⟩⟩
                      obtain ⟨ev, hev⟩ : ∃ ev, a'.eval = ev := ⟨_, rfl⟩
                      rw [hev] at g162 ⊢
                      clear hev hG hk hs
                      clear hB
                      go_simp
                    | j + 19, ho, _ => simp at ho
                  · intro a' X hB hk o ho hG
                    obtain rfl : _ = o := Option.some.inj ho
                    have g147 : a'.eval (.tmp 147) = .agg #[.int .i64 c.op, .int .i64 c.a, .int .i64 c.b, .int .i64 c.c, .int .i64 c.n] := hG ⟨0, .data⟩ (by simp) rfl 147 rfl
                    obtain ⟨c1, hc1⟩ := hB.res _ HQ6.out
                    refine ⟨rfl, set5 X w.heap.size c, ?_, KR.set hc1 c, hc1.set5 c⟩
                    obtain ⟨_, ⟨x0, x1, x2, x3, x4⟩, xf⟩ := hc1
                    have g2 : a'.eval (.tmp 2) = .pointer (some ⟨w.heap.size, 0, none⟩) := hk 2 (by kernel_rfl)
                    obtain ⟨ev, hev⟩ : ∃ ev, a'.eval = ev := ⟨_, rfl⟩
                    rw [hev] at g147 g2 ⊢
                    clear hev hG hk hB
                    have f0 := xf 0
                    have f1 := xf 1
                    have f2 := xf 2
                    have f3 := xf 3
                    have f4 := xf 4
                    unfold set5
                    go_simp
                  · intro a' X hJ hB hs hdf hk hG
                    obtain ⟨tm, df⟩ := a'
                    obtain rfl : df = [] := hdf
                    have e0 : tm.getD 0 undef = .string s := hk 0 (by kernel_rfl)
                    have e1 : tm.getD 1 undef = undef := hk 1 (by kernel_rfl)
                    have e2 : tm.getD 2 undef = .pointer (some ⟨w.heap.size, 0, none⟩) := hk 2 (by kernel_rfl)
                    have e5 : tm.getD 5 undef = .slice (some ⟨g, 0, none⟩) 3 cap := hk 5 (by kernel_rfl)
                    have e6 : tm.getD 6 undef = .pointer (some ⟨w1.heap.size, 0, none⟩) := hk 6 (by kernel_rfl)
                    have e7 : tm.getD 7 undef = .int .i64 27 := hk 7 (by kernel_rfl)
                    have e8 : tm.getD 8 undef = .int .i64 6 := hk 8 (by kernel_rfl)
                    have e9 : tm.getD 9 undef = .int .i64 1 := hk 9 (by kernel_rfl)
                    have e10 : tm.getD 10 undef = .bool true := hk 10 (by kernel_rfl)
                    have e11 : tm.getD 11 undef = .int .i64 3 := hk 11 (by kernel_rfl)
                    have e12 : tm.getD 12 undef = .int .i64 1 := hk 12 (by kernel_rfl)
                    have e13 : tm.getD 13 undef = u13 := hk 13 (by kernel_rfl)
                    have e14 : tm.getD 14 undef = u14 := hk 14 (by kernel_rfl)
                    have e15 : tm.getD 15 undef = .string qv := hk 15 (by kernel_rfl)
                    have e16 : tm.getD 16 undef = .int .i64 0 := hk 16 (by kernel_rfl)
                    have e17 : tm.getD 17 undef = .bool false := hk 17 (by kernel_rfl)
                    have e18 : tm.getD 18 undef = .string tb := hk 18 (by kernel_rfl)
                    have e19 : tm.getD 19 undef = .string s := hk 19 (by kernel_rfl)
                    have e20 : tm.getD 20 undef = .slice (some ⟨g, 0, none⟩) 3 cap := hk 20 (by kernel_rfl)
                    have e21 : tm.getD 21 undef = .agg #[.int .i64 (-1), .int .i64 0, .int .i64 0, .int .i64 0, .int .i64 0] := hk 21 (by kernel_rfl)
                    have e22 : tm.getD 22 undef = .int .i64 27 := hk 22 (by kernel_rfl)
                    have e23 : tm.getD 23 undef = .bool false := hk 23 (by kernel_rfl)
                    have e24 : tm.getD 24 undef = u24 := hk 24 (by kernel_rfl)
                    have e25 : tm.getD 25 undef = u25 := hk 25 (by kernel_rfl)
                    have e26 : tm.getD 26 undef = u26 := hk 26 (by kernel_rfl)
                    have e27 : tm.getD 27 undef = u27 := hk 27 (by kernel_rfl)
                    have e28 : tm.getD 28 undef = u28 := hk 28 (by kernel_rfl)
                    have e29 : tm.getD 29 undef = u29 := hk 29 (by kernel_rfl)
                    have e30 : tm.getD 30 undef = u30 := hk 30 (by kernel_rfl)
                    have e31 : tm.getD 31 undef = u31 := hk 31 (by kernel_rfl)
                    have e32 : tm.getD 32 undef = u32 := hk 32 (by kernel_rfl)
                    have e33 : tm.getD 33 undef = u33 := hk 33 (by kernel_rfl)
                    have e34 : tm.getD 34 undef = .pointer (some ⟨w1.heap.size, 0, none⟩) := hk 34 (by kernel_rfl)
                    have e35 : tm.getD 35 undef = .int .i64 o := hk 35 (by kernel_rfl)
                    have e36 : tm.getD 36 undef = .bool false := hk 36 (by kernel_rfl)
                    have e37 : tm.getD 37 undef = undef := hk 37 (by kernel_rfl)
                    have e38 : tm.getD 38 undef = .pointer (some ⟨w1.heap.size, 0, none⟩) := hk 38 (by kernel_rfl)
                    have e39 : tm.getD 39 undef = .int .i64 o := hk 39 (by kernel_rfl)
                    have e40 : tm.getD 40 undef = .int .i64 6 := hk 40 (by kernel_rfl)
                    have e41 : tm.getD 41 undef = .int .i64 6 := hk 41 (by kernel_rfl)
                    have e42 : tm.getD 42 undef = .bool true := hk 42 (by kernel_rfl)
                    have e43 : tm.getD 43 undef = .bool false := hk 43 (by kernel_rfl)
                    have e44 : tm.getD 44 undef = .bool true := hk 44 (by kernel_rfl)
                    have e45 : tm.getD 45 undef = undef := hk 45 (by kernel_rfl)
                    have e46 : tm.getD 46 undef = undef := hk 46 (by kernel_rfl)
                    have e47 : tm.getD 47 undef = undef := hk 47 (by kernel_rfl)
                    have e48 : tm.getD 48 undef = undef := hk 48 (by kernel_rfl)
                    have e49 : tm.getD 49 undef = undef := hk 49 (by kernel_rfl)
                    have e50 : tm.getD 50 undef = .int .i64 6 := hk 50 (by kernel_rfl)
                    have e51 : tm.getD 51 undef = .bool false := hk 51 (by kernel_rfl)
                    have e52 : tm.getD 52 undef = .bool false := hk 52 (by kernel_rfl)
                    have e53 : tm.getD 53 undef = .int .i64 6 := hk 53 (by kernel_rfl)
                    have e54 : tm.getD 54 undef = .bool false := hk 54 (by kernel_rfl)
                    have e55 : tm.getD 55 undef = .bool false := hk 55 (by kernel_rfl)
                    have e56 : tm.getD 56 undef = .bool false := hk 56 (by kernel_rfl)
                    have e57 : tm.getD 57 undef = .int .i64 6 := hk 57 (by kernel_rfl)
                    have e58 : tm.getD 58 undef = .bool false := hk 58 (by kernel_rfl)
                    have e59 : tm.getD 59 undef = .bool false := hk 59 (by kernel_rfl)
                    have e60 : tm.getD 60 undef = .bool false := hk 60 (by kernel_rfl)
                    have e61 : tm.getD 61 undef = .int .i64 6 := hk 61 (by kernel_rfl)
                    have e62 : tm.getD 62 undef = .bool true := hk 62 (by kernel_rfl)
                    have e63 : tm.getD 63 undef = .bool true := hk 63 (by kernel_rfl)
                    have e64 : tm.getD 64 undef = .int .i64 1 := hk 64 (by kernel_rfl)
                    have e65 : tm.getD 65 undef = .int .i64 2 := hk 65 (by kernel_rfl)
                    have e66 : tm.getD 66 undef = .bool true := hk 66 (by kernel_rfl)
                    have e67 : tm.getD 67 undef = .int .i64 2 := hk 67 (by kernel_rfl)
                    have e68 : tm.getD 68 undef = .int .i64 3 := hk 68 (by kernel_rfl)
                    have e69 : tm.getD 69 undef = .slice (some ⟨g, 0, none⟩) 3 cap := hk 69 (by kernel_rfl)
                    have e70 : tm.getD 70 undef = .int .i64 3 := hk 70 (by kernel_rfl)
                    have e71 : tm.getD 71 undef = .int .i64 3 := hk 71 (by kernel_rfl)
                    have e72 : tm.getD 72 undef = .bool false := hk 72 (by kernel_rfl)
                    have e73 : tm.getD 73 undef = undef := hk 73 (by kernel_rfl)
                    have e74 : tm.getD 74 undef = .int .i64 1 := hk 74 (by kernel_rfl)
                    have e75 : tm.getD 75 undef = .int .i64 1 := hk 75 (by kernel_rfl)
                    have e76 : tm.getD 76 undef = .bool false := hk 76 (by kernel_rfl)
                    have e77 : tm.getD 77 undef = u77 := hk 77 (by kernel_rfl)
                    have e78 : tm.getD 78 undef = u78 := hk 78 (by kernel_rfl)
                    have e79 : tm.getD 79 undef = u79 := hk 79 (by kernel_rfl)
                    have e80 : tm.getD 80 undef = u80 := hk 80 (by kernel_rfl)
                    have e81 : tm.getD 81 undef = u81 := hk 81 (by kernel_rfl)
                    have e82 : tm.getD 82 undef = u82 := hk 82 (by kernel_rfl)
                    have e83 : tm.getD 83 undef = u83 := hk 83 (by kernel_rfl)
                    have e84 : tm.getD 84 undef = u84 := hk 84 (by kernel_rfl)
                    have e85 : tm.getD 85 undef = u85 := hk 85 (by kernel_rfl)
                    have e86 : tm.getD 86 undef = u86 := hk 86 (by kernel_rfl)
                    have e87 : tm.getD 87 undef = u87 := hk 87 (by kernel_rfl)
                    have e88 : tm.getD 88 undef = u88 := hk 88 (by kernel_rfl)
                    have e89 : tm.getD 89 undef = u89 := hk 89 (by kernel_rfl)
                    have e90 : tm.getD 90 undef = u90 := hk 90 (by kernel_rfl)
                    have e91 : tm.getD 91 undef = u91 := hk 91 (by kernel_rfl)
                    have e92 : tm.getD 92 undef = u92 := hk 92 (by kernel_rfl)
                    have e93 : tm.getD 93 undef = u93 := hk 93 (by kernel_rfl)
                    have e94 : tm.getD 94 undef = u94 := hk 94 (by kernel_rfl)
                    have e95 : tm.getD 95 undef = u95 := hk 95 (by kernel_rfl)
                    have e96 : tm.getD 96 undef = u96 := hk 96 (by kernel_rfl)
                    have e97 : tm.getD 97 undef = u97 := hk 97 (by kernel_rfl)
                    have e98 : tm.getD 98 undef = u98 := hk 98 (by kernel_rfl)
                    have e99 : tm.getD 99 undef = u99 := hk 99 (by kernel_rfl)
                    have e100 : tm.getD 100 undef = u100 := hk 100 (by kernel_rfl)
                    have e101 : tm.getD 101 undef = u101 := hk 101 (by kernel_rfl)
                    have e102 : tm.getD 102 undef = u102 := hk 102 (by kernel_rfl)
                    have e103 : tm.getD 103 undef = u103 := hk 103 (by kernel_rfl)
                    have e104 : tm.getD 104 undef = .bool true := hk 104 (by kernel_rfl)
                    have e105 : tm.getD 105 undef = .tuple #[.int .i64 0, .bool false] := hk 105 (by kernel_rfl)
                    have e106 : tm.getD 106 undef = .slice (some ⟨g, 0, none⟩) 3 cap := hk 106 (by kernel_rfl)
                    have e107 : tm.getD 107 undef = .int .i64 3 := hk 107 (by kernel_rfl)
                    have e108 : tm.getD 108 undef = .int .i64 2 := hk 108 (by kernel_rfl)
                    have e109 : tm.getD 109 undef = .pointer (some ⟨g, 2, none⟩) := hk 109 (by kernel_rfl)
                    have e110 : tm.getD 110 undef = .string qv := hk 110 (by kernel_rfl)
                    have e111 : tm.getD 111 undef = .tuple #[.int .i64 0, .bool false] := hk 111 (by kernel_rfl)
                    have e112 : tm.getD 112 undef = .int .i64 0 := hk 112 (by kernel_rfl)
                    have e113 : tm.getD 113 undef = .bool false := hk 113 (by kernel_rfl)
                    have e114 : tm.getD 114 undef = .int .i64 0 := hk 114 (by kernel_rfl)
                    have e115 : tm.getD 115 undef = .pointer (some ⟨w1.heap.size, 4, none⟩) := hk 115 (by kernel_rfl)
                    have e116 : tm.getD 116 undef = .bool false := hk 116 (by kernel_rfl)
                    have e117 : tm.getD 117 undef = .bool true := hk 117 (by kernel_rfl)
                    have e118 : tm.getD 118 undef = .int .i64 6 := hk 118 (by kernel_rfl)
                    have e119 : tm.getD 119 undef = .bool true := hk 119 (by kernel_rfl)
                    have e120 : tm.getD 120 undef = .bool true := hk 120 (by kernel_rfl)
                    have e121 : tm.getD 121 undef = .int .i64 6 := hk 121 (by kernel_rfl)
                    have e122 : tm.getD 122 undef = .bool false := hk 122 (by kernel_rfl)
                    have e123 : tm.getD 123 undef = .bool false := hk 123 (by kernel_rfl)
                    have e124 : tm.getD 124 undef = .bool false := hk 124 (by kernel_rfl)
                    have e125 : tm.getD 125 undef = .slice (some ⟨g, 0, none⟩) 3 cap := hk 125 (by kernel_rfl)
                    have e126 : tm.getD 126 undef = .int .i64 3 := hk 126 (by kernel_rfl)
                    have e127 : tm.getD 127 undef = .int .i64 2 := hk 127 (by kernel_rfl)
                    have e128 : tm.getD 128 undef = .pointer (some ⟨g, 2, none⟩) := hk 128 (by kernel_rfl)
                    have e129 : tm.getD 129 undef = .string qv := hk 129 (by kernel_rfl)
                    have e130 : tm.getD 130 undef = .bool true := hk 130 (by kernel_rfl)
                    have e131 : tm.getD 131 undef = .bool false := hk 131 (by kernel_rfl)
                    have e132 : tm.getD 132 undef = .bool false := hk 132 (by kernel_rfl)
                    have e133 : tm.getD 133 undef = undef := hk 133 (by kernel_rfl)
                    have e134 : tm.getD 134 undef = .slice (some ⟨g, 0, none⟩) 3 cap := hk 134 (by kernel_rfl)
                    have e135 : tm.getD 135 undef = .int .i64 3 := hk 135 (by kernel_rfl)
                    have e136 : tm.getD 136 undef = .int .i64 2 := hk 136 (by kernel_rfl)
                    have e137 : tm.getD 137 undef = .pointer (some ⟨g, 2, none⟩) := hk 137 (by kernel_rfl)
                    have e138 : tm.getD 138 undef = .string qv := hk 138 (by kernel_rfl)
                    have e139 : tm.getD 139 undef = .agg #[.int .i64 c.op, .int .i64 c.a, .int .i64 c.b, .int .i64 c.c, .int .i64 c.n] := hk 139 (by kernel_rfl)
                    have e140 : tm.getD 140 undef = .bool true := hk 140 (by kernel_rfl)
                    have e141 : tm.getD 141 undef = .bool false := hk 141 (by kernel_rfl)
                    have e142 : tm.getD 142 undef = undef := hk 142 (by kernel_rfl)
                    have e143 : tm.getD 143 undef = .string qv := hk 143 (by kernel_rfl)
                    have e144 : tm.getD 144 undef = .bool true := hk 144 (by kernel_rfl)
                    have e145 : tm.getD 145 undef = .agg #[.int .i64 c.op, .int .i64 c.a, .int .i64 c.b, .int .i64 c.c, .int .i64 c.n] := hk 145 (by kernel_rfl)
                    have e146 : tm.getD 146 undef = .string tb := hk 146 (by kernel_rfl)
                    have e163 : tm.getD 163 undef = undef := hk 163 (by kernel_rfl)
                    have e164 : tm.getD 164 undef = undef := hk 164 (by kernel_rfl)
                    have e165 : tm.getD 165 undef = undef := hk 165 (by kernel_rfl)
                    have e166 : tm.getD 166 undef = undef := hk 166 (by kernel_rfl)
                    have e167 : tm.getD 167 undef = undef := hk 167 (by kernel_rfl)
                    have g147 : tm.getD 147 undef = .agg #[.int .i64 c.op, .int .i64 c.a, .int .i64 c.b, .int .i64 c.c, .int .i64 c.n] := hG 0 147 (by decide) rfl
                    have g148 : tm.getD 148 undef = .string qv := hG 1 148 (by decide) rfl
                    have g149 : tm.getD 149 undef = .string tb := hG 2 149 (by decide) rfl
                    have g150 : tm.getD 150 undef = .int .i64 (tb.size : Int) := hG 3 150 (by decide) rfl
                    have g151 : tm.getD 151 undef = .bool true := hG 4 151 (by decide) rfl
                    have g152 : tm.getD 152 undef = .bool true := hG 5 152 (by decide) rfl
                    have g153 : tm.getD 153 undef = .string tb := hG 6 153 (by decide) rfl
                    have g154 : tm.getD 154 undef = .string tb := hG 7 154 (by decide) rfl
                    have g155 : tm.getD 155 undef = .int .i64 (tb.size : Int) := hG 8 155 (by decide) rfl
                    have g156 : tm.getD 156 undef = .int .i64 ((tb.size : Int) - 1) := hG 9 156 (by decide) rfl
                    have g157 : tm.getD 157 undef = .string (tb.extract 0 (tb.size - 1)) := hG 10 157 (by decide) rfl
                    have g158 : tm.getD 158 undef = .string qv := hG 11 158 (by decide) rfl
                    have g159 : tm.getD 159 undef = .string ((tb.extract 0 (tb.size - 1)) ++ qv) := hG 12 159 (by decide) rfl
                    have g160 : tm.getD 160 undef = .string s := hG 13 160 (by decide) rfl
                    have g161 : tm.getD 161 undef = .bool bb := hG 14 161 (by decide) rfl
                    have g162 : tm.getD 162 undef = .bool bb := hG 15 162 (by decide) rfl
                    have g3 : tm.getD 3 undef = .string qv := hG 17 3 (by decide) rfl
                    have g4 : tm.getD 4 undef = .bool bb := hG 18 4 (by decide) rfl
                    have htm := arr_of tm ((.string s : Value) :: (undef : Value) :: (.pointer (some ⟨w.heap.size, 0, none⟩) : Value) :: (tm.getD 3 undef : Value) :: (tm.getD 4 undef : Value) :: (.slice (some ⟨g, 0, none⟩) 3 cap : Value) :: (.pointer (some ⟨w1.heap.size, 0, none⟩) : Value) :: (.int .i64 27 : Value) :: (.int .i64 6 : Value) :: (.int .i64 1 : Value) :: (.bool true : Value) :: (.int .i64 3 : Value) :: (.int .i64 1 : Value) :: (u13 : Value) :: (u14 : Value) :: (.string qv : Value) :: (.int .i64 0 : Value) :: (.bool false : Value) :: (.string tb : Value) :: (.string s : Value) :: (.slice (some ⟨g, 0, none⟩) 3 cap : Value) :: (.agg #[.int .i64 (-1), .int .i64 0, .int .i64 0, .int .i64 0, .int .i64 0] : Value) :: (.int .i64 27 : Value) :: (.bool false : Value) :: (u24 : Value) :: (u25 : Value) :: (u26 : Value) :: (u27 : Value) :: (u28 : Value) :: (u29 : Value) :: (u30 : Value) :: (u31 : Value) :: (u32 : Value) :: (u33 : Value) :: (.pointer (some ⟨w1.heap.size, 0, none⟩) : Value) :: (.int .i64 o : Value) :: (.bool false : Value) :: (undef : Value) :: (.pointer (some ⟨w1.heap.size, 0, none⟩) : Value) :: (.int .i64 o : Value) :: (.int .i64 6 : Value) :: (.int .i64 6 : Value) :: (.bool true : Value) :: (.bool false : Value) :: (.bool true : Value) :: (undef : Value) :: (undef : Value) :: (undef : Value) :: (undef : Value) :: (undef : Value) :: (.int .i64 6 : Value) :: (.bool false : Value) :: (.bool false : Value) :: (.int .i64 6 : Value) :: (.bool false : Value) :: (.bool false : Value) :: (.bool false : Value) :: (.int .i64 6 : Value) :: (.bool false : Value) :: (.bool false : Value) :: (.bool false : Value) :: (.int .i64 6 : Value) :: (.bool true : Value) :: (.bool true : Value) :: (.int .i64 1 : Value) :: (.int .i64 2 : Value) :: (.bool true : Value) :: (.int .i64 2 : Value) :: (.int .i64 3 : Value) :: (.slice (some ⟨g, 0, none⟩) 3 cap : Value) :: (.int .i64 3 : Value) :: (.int .i64 3 : Value) :: (.bool false : Value) :: (undef : Value) :: (.int .i64 1 : Value) :: (.int .i64 1 : Value) :: (.bool false : Value) :: (u77 : Value) :: (u78 : Value) :: (u79 : Value) :: (u80 : Value) :: (u81 : Value) :: (u82 : Value) :: (u83 : Value) :: (u84 : Value) :: (u85 : Value) :: (u86 : Value) :: (u87 : Value) :: (u88 : Value) :: (u89 : Value) :: (u90 : Value) :: (u91 : Value) :: (u92 : Value) :: (u93 : Value) :: (u94 : Value) :: (u95 : Value) :: (u96 : Value) :: (u97 : Value) :: (u98 : Value) :: (u99 : Value) :: (u100 : Value) :: (u101 : Value) :: (u102 : Value) :: (u103 : Value) :: (.bool true : Value) :: (.tuple #[.int .i64 0, .bool false] : Value) :: (.slice (some ⟨g, 0, none⟩) 3 cap : Value) :: (.int .i64 3 : Value) :: (.int .i64 2 : Value) :: (.pointer (some ⟨g, 2, none⟩) : Value) :: (.string qv : Value) :: (.tuple #[.int .i64 0, .bool false] : Value) :: (.int .i64 0 : Value) :: (.bool false : Value) :: (.int .i64 0 : Value) :: (.pointer (some ⟨w1.heap.size, 4, none⟩) : Value) :: (.bool false : Value) :: (.bool true : Value) :: (.int .i64 6 : Value) :: (.bool true : Value) :: (.bool true : Value) :: (.int .i64 6 : Value) :: (.bool false : Value) :: (.bool false : Value) :: (.bool false : Value) :: (.slice (some ⟨g, 0, none⟩) 3 cap : Value) :: (.int .i64 3 : Value) :: (.int .i64 2 : Value) :: (.pointer (some ⟨g, 2, none⟩) : Value) :: (.string qv : Value) :: (.bool true : Value) :: (.bool false : Value) :: (.bool false : Value) :: (undef : Value) :: (.slice (some ⟨g, 0, none⟩) 3 cap : Value) :: (.int .i64 3 : Value) :: (.int .i64 2 : Value) :: (.pointer (some ⟨g, 2, none⟩) : Value) :: (.string qv : Value) :: (.agg #[.int .i64 c.op, .int .i64 c.a, .int .i64 c.b, .int .i64 c.c, .int .i64 c.n] : Value) :: (.bool true : Value) :: (.bool false : Value) :: (undef : Value) :: (.string qv : Value) :: (.bool true : Value) :: (.agg #[.int .i64 c.op, .int .i64 c.a, .int .i64 c.b, .int .i64 c.c, .int .i64 c.n] : Value) :: (.string tb : Value) :: (tm.getD 147 undef : Value) :: (tm.getD 148 undef : Value) :: (tm.getD 149 undef : Value) :: (tm.getD 150 undef : Value) :: (tm.getD 151 undef : Value) :: (tm.getD 152 undef : Value) :: (tm.getD 153 undef : Value) :: (tm.getD 154 undef : Value) :: (tm.getD 155 undef : Value) :: (tm.getD 156 undef : Value) :: (tm.getD 157 undef : Value) :: (tm.getD 158 undef : Value) :: (tm.getD 159 undef : Value) :: (tm.getD 160 undef : Value) :: (tm.getD 161 undef : Value) :: (tm.getD 162 undef : Value) :: (undef : Value) :: (undef : Value) :: (undef : Value) :: (undef : Value) :: (undef : Value) :: []) hs (by show (tm.getD 0 undef :: tm.getD 1 undef :: tm.getD 2 undef :: tm.getD 3 undef :: tm.getD 4 undef :: tm.getD 5 undef :: tm.getD 6 undef :: tm.getD 7 undef :: tm.getD 8 undef :: tm.getD 9 undef :: tm.getD 10 undef :: tm.getD 11 undef :: tm.getD 12 undef :: tm.getD 13 undef :: tm.getD 14 undef :: tm.getD 15 undef :: tm.getD 16 undef :: tm.getD 17 undef :: tm.getD 18 undef :: tm.getD 19 undef :: tm.getD 20 undef :: tm.getD 21 undef :: tm.getD 22 undef :: tm.getD 23 undef :: tm.getD 24 undef :: tm.getD 25 undef :: tm.getD 26 undef :: tm.getD 27 undef :: tm.getD 28 undef :: tm.getD 29 undef :: tm.getD 30 undef :: tm.getD 31 undef :: tm.getD 32 undef :: tm.getD 33 undef :: tm.getD 34 undef :: tm.getD 35 undef :: tm.getD 36 undef :: tm.getD 37 undef :: tm.getD 38 undef :: tm.getD 39 undef :: tm.getD 40 undef :: tm.getD 41 undef :: tm.getD 42 undef :: tm.getD 43 undef :: tm.getD 44 undef :: tm.getD 45 undef :: tm.getD 46 undef :: tm.getD 47 undef :: tm.getD 48 undef :: tm.getD 49 undef :: tm.getD 50 undef :: tm.getD 51 undef :: tm.getD 52 undef :: tm.getD 53 undef :: tm.getD 54 undef :: tm.getD 55 undef :: tm.getD 56 undef :: tm.getD 57 undef :: tm.getD 58 undef :: tm.getD 59 undef :: tm.getD 60 undef :: tm.getD 61 undef :: tm.getD 62 undef :: tm.getD 63 undef :: tm.getD 64 undef :: tm.getD 65 undef :: tm.getD 66 undef :: tm.getD 67 undef :: tm.getD 68 undef :: tm.getD 69 undef :: tm.getD 70 undef :: tm.getD 71 undef :: tm.getD 72 undef :: tm.getD 73 undef :: tm.getD 74 undef :: tm.getD 75 undef :: tm.getD 76 undef :: tm.getD 77 undef :: tm.getD 78 undef :: tm.getD 79 undef :: tm.getD 80 undef :: tm.getD 81 undef :: tm.getD 82 undef :: tm.getD 83 undef :: tm.getD 84 undef :: tm.getD 85 undef :: tm.getD 86 undef :: tm.getD 87 undef :: tm.getD 88 undef :: tm.getD 89 undef :: tm.getD 90 undef :: tm.getD 91 undef :: tm.getD 92 undef :: tm.getD 93 undef :: tm.getD 94 undef :: tm.getD 95 undef :: tm.getD 96 undef :: tm.getD 97 undef :: tm.getD 98 undef :: tm.getD 99 undef :: tm.getD 100 undef :: tm.getD 101 undef :: tm.getD 102 undef :: tm.getD 103 undef :: tm.getD 104 undef :: tm.getD 105 undef :: tm.getD 106 undef :: tm.getD 107 undef :: tm.getD 108 undef :: tm.getD 109 undef :: tm.getD 110 undef :: tm.getD 111 undef :: tm.getD 112 undef :: tm.getD 113 undef :: tm.getD 114 undef :: tm.getD 115 undef :: tm.getD 116 undef :: tm.getD 117 undef :: tm.getD 118 undef :: tm.getD 119 undef :: tm.getD 120 undef :: tm.getD 121 undef :: tm.getD 122 undef :: tm.getD 123 undef :: tm.getD 124 undef :: tm.getD 125 undef :: tm.getD 126 undef :: tm.getD 127 undef :: tm.getD 128 undef :: tm.getD 129 undef :: tm.getD 130 undef :: tm.getD 131 undef :: tm.getD 132 undef :: tm.getD 133 undef :: tm.getD 134 undef :: tm.getD 135 undef :: tm.getD 136 undef :: tm.getD 137 undef :: tm.getD 138 undef :: tm.getD 139 undef :: tm.getD 140 undef :: tm.getD 141 undef :: tm.getD 142 undef :: tm.getD 143 undef :: tm.getD 144 undef :: tm.getD 145 undef :: tm.getD 146 undef :: tm.getD 147 undef :: tm.getD 148 undef :: tm.getD 149 undef :: tm.getD 150 undef :: tm.getD 151 undef :: tm.getD 152 undef :: tm.getD 153 undef :: tm.getD 154 undef :: tm.getD 155 undef :: tm.getD 156 undef :: tm.getD 157 undef :: tm.getD 158 undef :: tm.getD 159 undef :: tm.getD 160 undef :: tm.getD 161 undef :: tm.getD 162 undef :: tm.getD 163 undef :: tm.getD 164 undef :: tm.getD 165 undef :: tm.getD 166 undef :: tm.getD 167 undef :: []) = _; rw [e0, e1, e2, e5, e6, e7, e8, e9, e10, e11, e12, e13, e14, e15, e16, e17, e18, e19, e20, e21, e22, e23, e24, e25, e26, e27, e28, e29, e30, e31, e32, e33, e34, e35, e36, e37, e38, e39, e40, e41, e42, e43, e44, e45, e46, e47, e48, e49, e50, e51, e52, e53, e54, e55, e56, e57, e58, e59, e60, e61, e62, e63, e64, e65, e66, e67, e68, e69, e70, e71, e72, e73, e74, e75, e76, e77, e78, e79, e80, e81, e82, e83, e84, e85, e86, e87, e88, e89, e90, e91, e92, e93, e94, e95, e96, e97, e98, e99, e100, e101, e102, e103, e104, e105, e106, e107, e108, e109, e110, e111, e112, e113, e114, e115, e116, e117, e118, e119, e120, e121, e122, e123, e124, e125, e126, e127, e128, e129, e130, e131, e132, e133, e134, e135, e136, e137, e138, e139, e140, e141, e142, e143, e144, e145, e146, e163, e164, e165, e166, e167]; try rfl)
                    clear hs hk hG e0 e1 e2 e5 e6 e7 e8 e9 e10 e11 e12 e13 e14 e15 e16 e17 e18 e19 e20 e21 e22 e23 e24 e25 e26 e27 e28 e29 e30 e31 e32 e33 e34 e35 e36 e37 e38 e39 e40 e41 e42 e43 e44 e45 e46 e47 e48 e49 e50 e51 e52 e53 e54 e55 e56 e57 e58 e59 e60 e61 e62 e63 e64 e65 e66 e67 e68 e69 e70 e71 e72 e73 e74 e75 e76 e77 e78 e79 e80 e81 e82 e83 e84 e85 e86 e87 e88 e89 e90 e91 e92 e93 e94 e95 e96 e97 e98 e99 e100 e101 e102 e103 e104 e105 e106 e107 e108 e109 e110 e111 e112 e113 e114 e115 e116 e117 e118 e119 e120 e121 e122 e123 e124 e125 e126 e127 e128 e129 e130 e131 e132 e133 e134 e135 e136 e137 e138 e139 e140 e141 e142 e143 e144 e145 e146 e163 e164 e165 e166 e167
                    generalize tm.getD 147 undef = t147 at htm g147
                    generalize tm.getD 148 undef = t148 at htm g148
                    generalize tm.getD 149 undef = t149 at htm g149
                    generalize tm.getD 150 undef = t150 at htm g150
                    generalize tm.getD 151 undef = t151 at htm g151
                    generalize tm.getD 152 undef = t152 at htm g152
                    generalize tm.getD 153 undef = t153 at htm g153
                    generalize tm.getD 154 undef = t154 at htm g154
                    generalize tm.getD 155 undef = t155 at htm g155
                    generalize tm.getD 156 undef = t156 at htm g156
                    generalize tm.getD 157 undef = t157 at htm g157
                    generalize tm.getD 158 undef = t158 at htm g158
                    generalize tm.getD 159 undef = t159 at htm g159
                    generalize tm.getD 160 undef = t160 at htm g160
                    generalize tm.getD 161 undef = t161 at htm g161
                    generalize tm.getD 162 undef = t162 at htm g162
                    generalize tm.getD 3 undef = t3 at htm g3
                    generalize tm.getD 4 undef = t4 at htm g4
                    subst htm
                    subst g147
                    subst g148
                    subst g149
                    subst g150
                    subst g151
                    subst g152
                    subst g153
                    subst g154
                    subst g155
                    subst g156
                    subst g157
                    subst g158
                    subst g159
                    subst g160
                    subst g161
                    subst g162
                    subst g3
                    subst g4
                    have HBX : Hid (Below w.heap.size w X) := hB.out HX6.out rfl
                    obtain ⟨_, ⟨z0, z1, z2, z3, z4⟩, _⟩ := hJ
                    clear hB
                    go_wp2
                    exact bodyPost_ret (v := .tuple #[(c : Cod).v, .string qv, .bool bb]) (by simp [results, Tryz.results7, go_sem, Cod.v, z0, z1, z2, z3, z4]) rfl ⟨⟨c, qv, bb, rfl, HF2.out⟩, HBX.out⟩
            · rw [hval] at HV
              have HV' : Hid (∀ V, Calls Tryz.prog 22 #[.string qv] V fun e w' => e = .returned (.tuple #[.int .i64 x, .bool true]) ∧ Below V.heap.size V w') := HV
              have HF : Hid (rpar s.data.toList = finR s.data.toList { c with n := x } []) := by simp only [Hid]; rw [HRp.out, HRg.out]; simp only [rpB]; rw [if_neg (show ¬ nuN 6 = 0 by decide), show rgN 6 + 1 = 2 from rfl, hval]
              clear HV hval hqv hql
              go_wp2_with (first | (go_at_call 22; refine (HV'.out _).mono ?_; rintro e w5 ⟨rfl, hb5⟩; refine Hid.out ?_))
              refine Lib.hid ?_
              have hA5 := HCc.out.below hb5 hl5
              have hB5 : Below w1.heap.size w1 w5 := HBc.out.trans (hb5.mono (by omega))
              have hf4 := hA5.2.2 4
              have hd4 := hA5.2.1.2.2.2.2
              have hA := hA5.put4 x
              have hBW : Below w1.heap.size w1 (w5.setCell ⟨w1.heap.size, 4, none⟩ (.int .i64 x)) := hB5.setCell (p := ⟨w1.heap.size, 4, none⟩) (Nat.le_refl _) _
              go_upto_region 44 with fail
              generalize w5.setCell ⟨w1.heap.size, 4, none⟩ (.int .i64 x) = wZ at hA hBW ⊢
              obtain ⟨cx, hcx⟩ : ∃ cx : Cod, cx = { c with n := x } := ⟨_, rfl⟩
              rw [← hcx] at hA HF
              obtain ⟨_, ⟨a0, a1, a2, a3, a4⟩, af⟩ := hA
              have hA : At5 wZ w1.heap.size cx := ⟨by assumption, ⟨a0, a1, a2, a3, a4⟩, af⟩
              clear hA5 hB5 hf4 hd4 hb5 hcj hcx
              have HRt := Lib.hid (fun V => rRight_any cx V)
              unfold Cod.v at HRt
              have HCx := Lib.hid hA
              have HBx := Lib.hid hBW
              have cl := hA.1
              clear hBW
              rcases hrt : rightC cx with _ | _
              · rw [hrt] at HRt
                have HR : Hid (rpar s.data.toList = none) := by simp only [Hid]; rw [HF.out]; unfold finR; rw [if_neg (by rw [hrt]; rintro ⟨h, _⟩; cases h)]
                clear hrt
                go_wp2_with (first | (go_at_call 24; refine (HRt.out _).mono ?_; rintro e w5 ⟨rfl, hb5⟩; refine Hid.out ?_))
                refine Lib.hid ?_
                have hBW : Below w1.heap.size w1 w5 := HBx.out.trans (hb5.mono (by have := HBx.out.size; omega))
                obtain ⟨el, ⟨e0, e1, e2, e3, e4⟩, ef⟩ := HR1.out.below hBW hlR
                have HX : Hid (Below w.heap.size w w5) := hb1.trans (hBW.mono hb1.size)
                clear hBW
                go_wp2
                refine bodyPost_ret (v := .tuple #[(c0 : Cod).v, .string ⟨#[]⟩, .bool false]) (by simp [results, Tryz.results7, go_sem, Cod.v, c0, e0, e1, e2, e3, e4]) rfl ⟨⟨c0, ⟨#[]⟩, false, rfl, HR.out⟩, ?_⟩
                first | exact HX.out | exact HX.out.trans (set5_below (n := w.heap.size) c0 (Nat.le_refl _))
              · rw [hrt] at HRt
                have HTx : Hid (∀ V, Calls Tryz.prog 8 #[(cx : Cod).v] V fun e w' => e = .returned (.string (toB (textC cx))) ∧ Below V.heap.size V w') := fun V => rText_any cx V hrt
                unfold Cod.v at HTx
                have HF2 : Hid (rpar s.data.toList = if decide (textC cx = s.data.toList) = true then some (cx, (⟨#[]⟩ : ByteArray).data.toList) else none) := by simp only [Hid]; rw [HF.out]; unfold finR; simp [hrt]
                have hbe : ((toB (textC cx)).toList == s.toList) = decide (textC cx = s.data.toList) := by rw [toL_beq, list_toB]
                generalize decide (textC cx = s.data.toList) = bb at hbe HF2
                generalize toB (textC cx) = tb at hbe HTx
                clear hrt
                go_wp2_with (first | (go_at_call 24; refine (HRt.out _).mono ?_; rintro e w5 ⟨rfl, hb5⟩; refine Hid.out ?_))
                refine Lib.hid ?_
                have hB5 : Below w1.heap.size w1 w5 := HBx.out.trans (hb5.mono (by have := HBx.out.size; omega))
                obtain ⟨dl, ⟨d0, d1, d2, d3, d4⟩, df⟩ := HCx.out.below hb5 cl
                have HD := Lib.hid (HCx.out.below hb5 cl)
                have HRR := Lib.hid (HR1.out.below hB5 hlR)
                obtain ⟨el, ⟨e0, e1, e2, e3, e4⟩, ef⟩ := HR1.out.below hB5 hlR
                have hX5 : Below w.heap.size w w5 := hb1.trans (hB5.mono hb1.size)
                clear a0 a1 a2 a3 a4 af HRt
                go_wp2_with fail
                go_region_law (go_simp; go_at_call 8; refine Calls.mono (HTx.out _) ?_; rintro e w6 ⟨rfl, hb6⟩; have hb6' : Below w5.heap.size w5 w6 := (bdl hb6); obtain ⟨pl, ⟨p0, p1, p2, p3, p4⟩, pf⟩ := HD.out.below hb6' dl; obtain ⟨ql, ⟨q0', q1, q2, q3, q4⟩, qf⟩ := HRR.out.below hb6' el; have HX6 := Lib.hid (hX5.trans (hb6'.mono hX5.size)); clear hb6 hb6')
                all_goals (go_wp2; refine bodyPost_ret (v := .tuple #[(cx : Cod).v, .string ⟨#[]⟩, .bool bb]) (by simp [results, Tryz.results7, go_sem, Cod.v, q0', q1, q2, q3, q4]) rfl ⟨⟨cx, ⟨#[]⟩, bb, rfl, HF2.out⟩, HX6.out.trans (set5_below (n := w.heap.size) cx (Nat.le_refl _))⟩)
      · have HR : Hid (rpar s.data.toList = none) := by simp only [Hid]; unfold rpar; rw [← HWS.out, HO.out, hh, HNn.out, if_pos (.inr hn)]
        have hne : ((n : Int) == 3) = false := by simp only [beq_eq_false_iff_ne]; omega
        have hBW := hB
        clear hn hh hA hB
        go_wp2_with (first | (go_at_call 20; refine (HS.out _).mono ?_; rintro e w' ⟨rfl, hw'⟩; rw [hw']; clear hw' w'; refine Hid.out ?_))
        refine Lib.hid ?_
        obtain ⟨el, ⟨e0, e1, e2, e3, e4⟩, ef⟩ := HR1.out.below hBW hlR
        have HX : Hid (Below w.heap.size w wo) := hb1.trans (hBW.mono hb1.size)
        clear hBW
        go_wp2
        refine bodyPost_ret (v := .tuple #[(c0 : Cod).v, .string ⟨#[]⟩, .bool false]) (by simp [results, Tryz.results7, go_sem, Cod.v, c0, e0, e1, e2, e3, e4]) rfl ⟨⟨c0, ⟨#[]⟩, false, rfl, HR.out⟩, ?_⟩
        first | exact HX.out | exact HX.out.trans (set5_below (n := w.heap.size) c0 (Nat.le_refl _))
end Go.Proofs.YtgldkmabhmlijaaGreatDoor
