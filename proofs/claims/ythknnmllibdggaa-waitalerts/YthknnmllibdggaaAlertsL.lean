/- Alerts are taken in the order in which they were left, at most eight wait, and whoever has one does not wait. -/
import Derived.Test.YthknnmllibdggaaIRow
import Derived.Test.YthknnmllibdggaaOpenI
namespace Go.Proofs.Ythknnmllibdggaa
open Go.RowKit Go.Sort
def a7 (l : List Int) : Int → List Int := setI (fun _ => []) 7 l
theorem a7_at (l : List Int) : a7 l 7 = l := by unfold a7 setI; rw [if_pos rfl]
theorem a7_set (l m : List Int) : setI (a7 l) 7 m = a7 m := by funext t; unfold a7 setI; split <;> rfl
theorem a7_nil : a7 [] = fun _ => [] := setI_same 7
theorem wait7_no : waitE [] (a7 []) 7 9 0 = 0 := by unfold waitE; rw [a7_at]; rfl
theorem wait7_yes {x : Int} {l : List Int} : waitE [] (a7 (x :: l)) 7 9 0 = 10 := by unfold waitE; rw [a7_at]; rfl
theorem post7_bad {l : List Int} {c : Int} (h : c < 0 ∨ 255 < c) : postE (a7 l) 7 c = 1 := by
  unfold postE
  rw [if_pos]
  rcases h with h | h
  · have : decide (0 ≤ c) = false := by simpa using h
    rw [this]; rfl
  · have : decide (c ≤ 255) = false := by simpa using h
    rw [this]; simp
theorem post7_full {l : List Int} {c : Int} (h : 0 ≤ c ∧ c ≤ 255) (hl : 8 ≤ l.length) : postE (a7 l) 7 c = 7 := by
  unfold postE
  rw [if_neg (by simp [h.1, h.2]; rfl), a7_at, if_pos hl]
theorem post7_ok {l : List Int} {c : Int} (h : 0 ≤ c ∧ c ≤ 255) (hl : ¬ 8 ≤ l.length) : postE (a7 l) 7 c = 0 := by
  unfold postE
  rw [if_neg (by simp [h.1, h.2]; rfl), a7_at, if_neg hl]
theorem postW_no {all : List Who} {al : Int → List Int} {t c : Int} (h : postE al t c ≠ 0) : postW all al t c = false := by
  unfold postW; simp [h]
theorem postW_yes {all : List Who} {al : Int → List Int} {t c : Int} (h : postE al t c = 0) : postW all al t c = waitsA all t := by
  unfold postW; rw [h]; simp
theorem take7_nil : takeV (a7 []) 7 = .tuple #[.int .i64 0, .bool false] := by unfold takeV; rw [a7_at]
theorem take7_cons (x : Int) (l : List Int) : takeV (a7 (x :: l)) 7 = .tuple #[.int .i64 x, .bool true] := by unfold takeV; rw [a7_at]
theorem BoolsAt.at_ {w w' : World} {p : Option Addr} {l : List Bool} (h : BoolsAt w p l) (hb : Below w.heap.size w w') {k : Nat} (hk : k < l.length) : ∃ b off, p = some ⟨b, off, none⟩ ∧ w'.cell? ⟨b, off + k, none⟩ = some (.bool l[k]) := by
  obtain ⟨b, off, h1, h2, h3⟩ := h k hk
  exact ⟨b, off, h1, (hb.cell (p := ⟨b, off + k, none⟩) h2).trans h3⟩
set_option maxRecDepth 100000 in
set_option maxHeartbeats 8000000 in
theorem WaitAlerts_any (p q : Option Addr) (cp cq : Nat) (cs : List Int) (bs : List Bool) (w : World) (hp : IntsAt w p cs) (hq : BoolsAt w q bs) :
    Calls Try.prog 6 #[.slice p cs.length cp, .slice q bs.length cq] w fun e w' => e = .returned (.bool true) ∧ Below w.heap.size w w' := by
  go_enter Try.func6, Try.ntmps6
  go_wp2_with (first
    | (go_at_call 8; refine (lives_any _).mono ?_; rintro e w1 ⟨rfl, hb1⟩)
    | (go_at_call 9; refine (New_any _).mono ?_; rintro e w2 ⟨rb, F0, rfl, hra0, hb2, hlo0, hlt0⟩))
  have hz1' := hb1.size
  have hst0 : SI w w2 rb F0 [] (a7 []) 0 (.slice none 0 0) [] := ⟨by rw [a7_nil]; exact hra0, .inl ⟨rfl, rfl⟩, fun b hb => (by cases hb), hlt0, fun k hk => by have := hlo0 k hk; omega, hb1.trans (hb2.mono hz1')⟩
  clear hra0 hlo0 hlt0 hb1 hb2 hz1'
  go_loopw [6, 19] (fun v y wr => ∃ (k : Nat) (F : Nat → Prop) (want : List Int), y = .int .i64 k ∧ k ≤ cs.length ∧ k ≤ 100 ∧ want.length ≤ 8 ∧ SI w wr rb F [] (a7 want) (2 * k) v want) (fun _ y _ => (cs.length - (RowKit.intOf y).toNat))
  case atStart => exact ⟨0, F0, [], rfl, Nat.zero_le _, Nat.zero_le _, Nat.zero_le _, hst0⟩
  case round =>
    obtain ⟨k, F, want, rfl, hk, hk6, hw8, hst⟩ := hrel
    obtain ⟨sp, cap, rfl, hlc⟩ := hst.row.form
    by_cases hlt : k < cs.length
    · have hki : (k : Int) < (cs.length : Int) := by omega
      obtain ⟨gp, op, rfl, cp0⟩ := hp.at_ hst.bel hlt
      obtain ⟨c, hc⟩ : ∃ c, cs[k] = c := ⟨_, rfl⟩
      rw [hc] at cp0
      clear hc
      by_cases h60 : k < 100
      · have h60i : ¬ (100 : Int) ≤ (k : Int) := by omega
        have hWt := Wait_any wr rb F [] (a7 want) (2 * k) 7 9 0 hst.ra (by omega)
        have HST := Lib.hid hst
        have HQ := Lib.hid hq
        clear hst hq
        cases want with
        | nil =>
          rw [wait7_no, if_pos rfl] at hWt
          have HW := Lib.hid hWt
          clear hWt
          go_wp2_with (go_at_call 14; refine HW.out.mono ?_; rintro e w3 ⟨rfl, hx3⟩; refine Hid.out ?_)
          refine Lib.hid ?_
          obtain ⟨F3, hs3⟩ := HST.out.call hx3
          clear hx3 HW HST
          have hPo := Post_any w3 rb F3 _ _ _ 7 c hs3.ra (by omega)
          have HS3 := Lib.hid hs3
          clear hs3
          by_cases hcb : c < 0 ∨ 255 < c
          · have hPe := post7_bad (l := []) hcb
            rw [postW_no (by rw [hPe]; decide), hPe, if_neg (by decide), if_neg (by decide)] at hPo
            have HPo := Lib.hid hPo
            clear hPo hPe
            rcases hcb with hcb | hcb
            all_goals
              go_wp2_with (go_at_call 17; refine HPo.out.mono ?_; rintro e w4 ⟨rfl, hx4⟩; refine Hid.out ?_)
              refine Lib.hid ?_
              obtain ⟨F4, hs4⟩ := HS3.out.call hx4
              have HWk := Lib.hid (Wake_any w4 rb F4 _ _ _ 9 0 (by unfold i64; omega) (by unfold i64; omega) hs4.ra (by omega) hs4.flt)
              have HS4 := Lib.hid hs4
              clear hx4 hs4 HPo HS3
              go_wp2_with (go_at_call 16; refine HWk.out.mono ?_; rintro e WB ⟨vB, rfl, hrB, hraB, hfB⟩; obtain ⟨spB, capB, rfl⟩ := row_form hrB; refine Hid.out ?_)
              refine Lib.hid ?_
              have hsB := HS4.out.call2 hraB hfB
              rw [show dropL (listA ([] ++ [((7, 9, 0) : Who)]) 9 0) ([] ++ [((7, 9, 0) : Who)]) = [] from by rfl] at hsB
              obtain ⟨FB, hFB⟩ : ∃ FB, F4 = FB := ⟨_, rfl⟩
              rw [hFB] at hsB
              have HSB := Lib.hid hsB
              clear hFB hrB hraB hfB HS4 HWk hsB
              by_cases hkb : k < bs.length ∧ bs.getD k false = true
              · obtain ⟨hkb1, hkb2⟩ := hkb
                have hkbi : (k : Int) < (bs.length : Int) := by omega
                obtain ⟨gq, oq, rfl, cq0⟩ := HQ.out.at_ HSB.out.bel hkb1
                rw [show bs[k] = true from by rw [List.getD_eq_getElem?_getD, List.getElem?_eq_getElem hkb1] at hkb2; simpa using hkb2] at cq0
                have hTk := Take_any WB rb FB _ _ _ 7 (by unfold i64; omega) HSB.out.ra (by omega)
                rw [a7_at, a7_set, take7_nil] at hTk
                have HTk := Lib.hid hTk
                clear hkb2 HQ hTk
                go_wp2_with (go_at_call 18; refine HTk.out.mono ?_; rintro e w5 ⟨rfl, hra5, hf5⟩; refine Hid.out ?_)
                refine Lib.hid ?_
                have hs5 := HSB.out.call2 hra5 hf5
                have HS5 := Lib.hid hs5
                have HAl := Lib.hid (Alerts_any w5 rb FB _ _ _ 7 (by unfold i64; omega) hs5.ra (by omega))
                clear hra5 hf5 hs5 HSB HTk
                have hsz5 := HS5.out.bel.size
                go_wp2_with (go_at_call 25; refine HAl.out.mono ?_; rintro e w7 ⟨v7, rfl, hr7, hb7⟩; rw [a7_at] at hr7; obtain ⟨sp7, cap7, rfl⟩ := row_form hr7; have hs7 := HS5.out.below hb7; have HS7 := Lib.hid hs7; have hsi := SameInts_any w7 sp7 _ cap7 cap ([] : List Int) ([] : List Int) (row_ints hr7) hs7.row.ints (by simp); rw [show (([] : List Int) == ([] : List Int)) = true from by simp] at hsi; have HSI := Lib.hid hsi; clear hsi hs7 hr7 hb7; refine Hid.out ?_)
                refine Lib.hid ?_
                go_wp2_with (first
                  | (go_at_call 24; refine HSI.out.mono ?_; rintro e w8 ⟨rfl, hb8⟩; have hs8 := HS7.out.below hb8; have HS8 := Lib.hid hs8; have HLn := Lib.hid (Len_any w8 rb _ _ _ _ hs8.ra); clear hs8 hb8)
                  | (go_at_call 21; refine HLn.out.mono ?_; rintro e w9 ⟨rfl, hw9⟩; rw [hw9]; clear hw9 w9))
                go_roundw
                case rel => exact ⟨k + 1, FB, ([] : List Int), by go_num, by omega, by omega, by simp, by rw [show 2 * (k + 1) = 2 * k + 2 from by omega]; exact HS8.out⟩
                case measure => simp [RowKit.intOf]; omega
              · have HAl := Lib.hid (Alerts_any WB rb FB _ _ _ 7 (by unfold i64; omega) HSB.out.ra (by omega))
                have HS5 := HSB
                by_cases hkb1 : k < bs.length
                · have hkbi : (k : Int) < (bs.length : Int) := by omega
                  obtain ⟨gq, oq, rfl, cq0⟩ := HQ.out.at_ HSB.out.bel hkb1
                  rw [show bs[k] = false from by
                    cases hbk : bs[k] with
                    | false => rfl
                    | true => exact absurd ⟨hkb1, by rw [List.getD_eq_getElem?_getD, List.getElem?_eq_getElem hkb1, hbk]; rfl⟩ hkb] at cq0
                  clear hkb HQ HSB
                  have hsz5 := HS5.out.bel.size
                  go_wp2_with (go_at_call 25; refine HAl.out.mono ?_; rintro e w7 ⟨v7, rfl, hr7, hb7⟩; rw [a7_at] at hr7; obtain ⟨sp7, cap7, rfl⟩ := row_form hr7; have hs7 := HS5.out.below hb7; have HS7 := Lib.hid hs7; have hsi := SameInts_any w7 sp7 _ cap7 cap ([] : List Int) ([] : List Int) (row_ints hr7) hs7.row.ints (by simp); rw [show (([] : List Int) == ([] : List Int)) = true from by simp] at hsi; have HSI := Lib.hid hsi; clear hsi hs7 hr7 hb7; refine Hid.out ?_)
                  refine Lib.hid ?_
                  go_wp2_with (first
                    | (go_at_call 24; refine HSI.out.mono ?_; rintro e w8 ⟨rfl, hb8⟩; have hs8 := HS7.out.below hb8; have HS8 := Lib.hid hs8; have HLn := Lib.hid (Len_any w8 rb _ _ _ _ hs8.ra); clear hs8 hb8)
                    | (go_at_call 21; refine HLn.out.mono ?_; rintro e w9 ⟨rfl, hw9⟩; rw [hw9]; clear hw9 w9))
                  go_roundw
                  case rel => exact ⟨k + 1, FB, ([] : List Int), by go_num, by omega, by omega, by simp, by rw [show 2 * (k + 1) = 2 * k + 2 from by omega]; exact HS8.out⟩
                  case measure => simp [RowKit.intOf]; omega
                · have hkbi : ¬ (k : Int) < (bs.length : Int) := by omega
                  clear hkb HQ HSB
                  have hsz5 := HS5.out.bel.size
                  go_wp2_with (go_at_call 25; refine HAl.out.mono ?_; rintro e w7 ⟨v7, rfl, hr7, hb7⟩; rw [a7_at] at hr7; obtain ⟨sp7, cap7, rfl⟩ := row_form hr7; have hs7 := HS5.out.below hb7; have HS7 := Lib.hid hs7; have hsi := SameInts_any w7 sp7 _ cap7 cap ([] : List Int) ([] : List Int) (row_ints hr7) hs7.row.ints (by simp); rw [show (([] : List Int) == ([] : List Int)) = true from by simp] at hsi; have HSI := Lib.hid hsi; clear hsi hs7 hr7 hb7; refine Hid.out ?_)
                  refine Lib.hid ?_
                  go_wp2_with (first
                    | (go_at_call 24; refine HSI.out.mono ?_; rintro e w8 ⟨rfl, hb8⟩; have hs8 := HS7.out.below hb8; have HS8 := Lib.hid hs8; have HLn := Lib.hid (Len_any w8 rb _ _ _ _ hs8.ra); clear hs8 hb8)
                    | (go_at_call 21; refine HLn.out.mono ?_; rintro e w9 ⟨rfl, hw9⟩; rw [hw9]; clear hw9 w9))
                  go_roundw
                  case rel => exact ⟨k + 1, FB, ([] : List Int), by go_num, by omega, by omega, by simp, by rw [show 2 * (k + 1) = 2 * k + 2 from by omega]; exact HS8.out⟩
                  case measure => simp [RowKit.intOf]; omega
          · have hcc : 0 ≤ c ∧ c ≤ 255 := by omega
            have h0c : ¬ c < 0 := by omega
            have h1c : ¬ 255 < c := by omega
            have hPe := post7_ok (l := []) hcc (by simp)
            rw [postW_yes hPe, hPe, if_pos rfl, if_pos rfl, a7_at, a7_set, show dropT 7 ([] ++ [((7, 9, 0) : Who)]) = [] from by rfl, show waitsA ([] ++ [((7, 9, 0) : Who)]) 7 = true from by rfl] at hPo
            have HPo := Lib.hid hPo
            clear hPo hPe hcb hcc
            go_wp2_with (go_at_call 17; refine HPo.out.mono ?_; rintro e w4 ⟨rfl, hx4⟩; refine Hid.out ?_)
            refine Lib.hid ?_
            obtain ⟨FB, hs4⟩ := HS3.out.call hx4
            have hz4 := hs4.bel.size
            obtain ⟨v', WB, hap, hr', hg', hat'⟩ := (hs4.row.same (w' := w4.alloc (.cells #[.int .i64 c] 3)) (fun kk hkk => Below.heap_alloc _ _ _ (hs4.row.lt kk hkk).2)).app (by simp; omega) (by first | (simp; done) | (simp at hw8 ⊢; omega)) c ⟨w4.heap.size, 0, none⟩ 1 (by simp [go_sem]) 37
            have hsB := hs4.appended hr' hg' hat'
            obtain ⟨p2, cap2, rfl, hlc2⟩ := hr'.form
            have HSB0 := Lib.hid hsB
            clear hx4 hs4 hr' hg' hat' HPo HS3 hsB
            obtain ⟨l2, hl2⟩ : ∃ l2 : List Int, [] = l2 := ⟨_, rfl⟩
            have hwB : (c :: l2).length ≤ 8 := by rw [← hl2]; simp
            have HSB : Hid (SI w WB rb FB [] (a7 (c :: l2)) (2 * k + 2) (.slice p2 (c :: l2).length cap2) (c :: l2)) := by rw [← hl2]; exact HSB0.out
            have hlen2 : ([] ++ [c] : List Int).length = (c :: l2).length := by rw [← hl2]; rfl
            rw [hlen2] at hap
            simp only [List.length_nil, List.length_cons] at hap
            clear HSB0 hlen2 hl2 hlc2
            have HAP := Lib.hid hap
            clear hap
            go_upto_region 23 with (at_builtin; refine wpList_append_run rfl _ _ 37 rfl _ _ rfl rfl HAP.out ?_)
            by_cases hkb : k < bs.length ∧ bs.getD k false = true
            · obtain ⟨hkb1, hkb2⟩ := hkb
              have hkbi : (k : Int) < (bs.length : Int) := by omega
              obtain ⟨gq, oq, rfl, cq0⟩ := HQ.out.at_ HSB.out.bel hkb1
              rw [show bs[k] = true from by rw [List.getD_eq_getElem?_getD, List.getElem?_eq_getElem hkb1] at hkb2; simpa using hkb2] at cq0
              have hTk := Take_any WB rb FB _ _ _ 7 (by unfold i64; omega) HSB.out.ra (by omega)
              rw [a7_at, a7_set, take7_cons] at hTk
              have HTk := Lib.hid hTk
              clear hkb2 HQ hTk
              obtain ⟨p5, hsl, hr5, ho5⟩ := HSB.out.row.tail
              obtain ⟨g2, o2, rfl, hg2, c20⟩ := HSB.out.row.ints 0 (by simp)
              have hg2n : ¬ FB g2 := HSB.out.ap g2 rfl
              have HC2 := Lib.hid c20
              have HR5 := Lib.hid hr5
              have HO5 := Lib.hid ho5
              have hz2 : (0 : Int) < ((l2.length : Int) + 1) := by omega
              clear c20 hr5 ho5
              go_wp2_with (go_at_call 18; refine HTk.out.mono ?_; rintro e w5 ⟨rfl, hra5, hf5⟩; refine Hid.out ?_)
              refine Lib.hid ?_
              have hs5 := HSB.out.call2 hra5 hf5
              have c5 : w5.cell? ⟨g2, o2, none⟩ = some (.int .i64 c) := (World.cell?_of_block (a := ⟨g2, o2, none⟩) (hf5.same g2 hg2 hg2n)).trans HC2.out
              have hs6 : SI w w5 rb FB [] (a7 l2) (2 * k + 2) (.slice p5 l2.length (cap2 - 1)) l2 := ⟨hs5.ra, HR5.out.same (fun kk hkk => hf5.same kk (HR5.out.lt kk hkk).2 (HSB.out.ap kk (by rw [← HO5.out]; exact hkk))), fun bb hbb => HSB.out.ap bb (by rw [← HO5.out]; exact hbb), hs5.flt, hs5.flo, hs5.bel⟩
              have HS5 := Lib.hid hs6
              have HAl := Lib.hid (Alerts_any w5 rb FB _ _ _ 7 (by unfold i64; omega) hs6.ra (by omega))
              clear hra5 hf5 hs5 hs6 HSB HTk HC2 HR5 HO5 hg2n hg2
              have hsz5 := HS5.out.bel.size
              go_wp2_with (go_at_call 25; refine HAl.out.mono ?_; rintro e w7 ⟨v7, rfl, hr7, hb7⟩; rw [a7_at] at hr7; obtain ⟨sp7, cap7, rfl⟩ := row_form hr7; have hs7 := HS5.out.below hb7; have HS7 := Lib.hid hs7; have hsi := SameInts_any w7 sp7 _ cap7 (cap2 - 1) l2 l2 (row_ints hr7) hs7.row.ints (by simp at hwB; omega); rw [show (l2 == l2) = true from by simp] at hsi; have HSI := Lib.hid hsi; clear hsi hs7 hr7 hb7; refine Hid.out ?_)
              refine Lib.hid ?_
              go_wp2_with (first
                | (go_at_call 24; refine HSI.out.mono ?_; rintro e w8 ⟨rfl, hb8⟩; have hs8 := HS7.out.below hb8; have HS8 := Lib.hid hs8; have HLn := Lib.hid (Len_any w8 rb _ _ _ _ hs8.ra); clear hs8 hb8)
                | (go_at_call 21; refine HLn.out.mono ?_; rintro e w9 ⟨rfl, hw9⟩; rw [hw9]; clear hw9 w9))
              go_roundw
              case rel => exact ⟨k + 1, FB, l2, by go_num, by omega, by omega, by simp at hwB; omega, by rw [show 2 * (k + 1) = 2 * k + 2 from by omega]; exact HS8.out⟩
              case measure => simp [RowKit.intOf]; omega
            · have HAl := Lib.hid (Alerts_any WB rb FB _ _ _ 7 (by unfold i64; omega) HSB.out.ra (by omega))
              have HS5 := HSB
              by_cases hkb1 : k < bs.length
              · have hkbi : (k : Int) < (bs.length : Int) := by omega
                obtain ⟨gq, oq, rfl, cq0⟩ := HQ.out.at_ HSB.out.bel hkb1
                rw [show bs[k] = false from by
                  cases hbk : bs[k] with
                  | false => rfl
                  | true => exact absurd ⟨hkb1, by rw [List.getD_eq_getElem?_getD, List.getElem?_eq_getElem hkb1, hbk]; rfl⟩ hkb] at cq0
                clear hkb HQ HSB
                have hsz5 := HS5.out.bel.size
                go_wp2_with (go_at_call 25; refine HAl.out.mono ?_; rintro e w7 ⟨v7, rfl, hr7, hb7⟩; rw [a7_at] at hr7; obtain ⟨sp7, cap7, rfl⟩ := row_form hr7; have hs7 := HS5.out.below hb7; have HS7 := Lib.hid hs7; have hsi := SameInts_any w7 sp7 _ cap7 cap2 (c :: l2) (c :: l2) (row_ints hr7) hs7.row.ints (by simp at hwB ⊢; omega); rw [show ((c :: l2) == (c :: l2)) = true from by simp] at hsi; have HSI := Lib.hid hsi; clear hsi hs7 hr7 hb7; refine Hid.out ?_)
                refine Lib.hid ?_
                go_wp2_with (first
                  | (go_at_call 24; refine HSI.out.mono ?_; rintro e w8 ⟨rfl, hb8⟩; have hs8 := HS7.out.below hb8; have HS8 := Lib.hid hs8; have HLn := Lib.hid (Len_any w8 rb _ _ _ _ hs8.ra); clear hs8 hb8)
                  | (go_at_call 21; refine HLn.out.mono ?_; rintro e w9 ⟨rfl, hw9⟩; rw [hw9]; clear hw9 w9))
                go_roundw
                case rel => exact ⟨k + 1, FB, (c :: l2), by go_num, by omega, by omega, by simp at hwB ⊢; omega, by rw [show 2 * (k + 1) = 2 * k + 2 from by omega]; exact HS8.out⟩
                case measure => simp [RowKit.intOf]; omega
              · have hkbi : ¬ (k : Int) < (bs.length : Int) := by omega
                clear hkb HQ HSB
                have hsz5 := HS5.out.bel.size
                go_wp2_with (go_at_call 25; refine HAl.out.mono ?_; rintro e w7 ⟨v7, rfl, hr7, hb7⟩; rw [a7_at] at hr7; obtain ⟨sp7, cap7, rfl⟩ := row_form hr7; have hs7 := HS5.out.below hb7; have HS7 := Lib.hid hs7; have hsi := SameInts_any w7 sp7 _ cap7 cap2 (c :: l2) (c :: l2) (row_ints hr7) hs7.row.ints (by simp at hwB ⊢; omega); rw [show ((c :: l2) == (c :: l2)) = true from by simp] at hsi; have HSI := Lib.hid hsi; clear hsi hs7 hr7 hb7; refine Hid.out ?_)
                refine Lib.hid ?_
                go_wp2_with (first
                  | (go_at_call 24; refine HSI.out.mono ?_; rintro e w8 ⟨rfl, hb8⟩; have hs8 := HS7.out.below hb8; have HS8 := Lib.hid hs8; have HLn := Lib.hid (Len_any w8 rb _ _ _ _ hs8.ra); clear hs8 hb8)
                  | (go_at_call 21; refine HLn.out.mono ?_; rintro e w9 ⟨rfl, hw9⟩; rw [hw9]; clear hw9 w9))
                go_roundw
                case rel => exact ⟨k + 1, FB, (c :: l2), by go_num, by omega, by omega, by simp at hwB ⊢; omega, by rw [show 2 * (k + 1) = 2 * k + 2 from by omega]; exact HS8.out⟩
                case measure => simp [RowKit.intOf]; omega
        | cons y2 l2 =>
          rw [wait7_yes, if_neg (by decide)] at hWt
          have HW := Lib.hid hWt
          clear hWt
          have hn0 : (((y2 :: l2).length : Int) == 0) = false := by simp; omega
          have hn1 : ¬ ((l2.length : Int) + 1 = 0) := by omega
          go_wp2_with (go_at_call 14; refine HW.out.mono ?_; rintro e w3 ⟨rfl, hx3⟩; refine Hid.out ?_)
          refine Lib.hid ?_
          obtain ⟨F3, hs3⟩ := HST.out.call hx3
          clear hx3 HW HST
          have hPo := Post_any w3 rb F3 _ _ _ 7 c hs3.ra (by omega)
          have HS3 := Lib.hid hs3
          clear hs3
          by_cases hcb : c < 0 ∨ 255 < c
          · have hwB := hw8
            have hPe := post7_bad (l := (y2 :: l2)) hcb
            rw [postW_no (by rw [hPe]; decide), hPe, if_neg (by decide), if_neg (by decide)] at hPo
            have HPo := Lib.hid hPo
            clear hPo hPe
            rcases hcb with hcb | hcb
            all_goals
              go_wp2_with (go_at_call 17; refine HPo.out.mono ?_; rintro e w4 ⟨rfl, hx4⟩; refine Hid.out ?_)
              refine Lib.hid ?_
              obtain ⟨F4, hs4⟩ := HS3.out.call hx4
              have HWk := Lib.hid (Wake_any w4 rb F4 _ _ _ 9 0 (by unfold i64; omega) (by unfold i64; omega) hs4.ra (by omega) hs4.flt)
              have HS4 := Lib.hid hs4
              clear hx4 hs4 HPo HS3
              go_wp2_with (go_at_call 16; refine HWk.out.mono ?_; rintro e WB ⟨vB, rfl, hrB, hraB, hfB⟩; obtain ⟨spB, capB, rfl⟩ := row_form hrB; refine Hid.out ?_)
              refine Lib.hid ?_
              have hsB := HS4.out.call2 hraB hfB
              rw [show dropL (listA ([] : List Who) 9 0) ([] : List Who) = [] from by rfl] at hsB
              obtain ⟨FB, hFB⟩ : ∃ FB, F4 = FB := ⟨_, rfl⟩
              rw [hFB] at hsB
              have HSB := Lib.hid hsB
              clear hFB hrB hraB hfB HS4 HWk hsB
              by_cases hkb : k < bs.length ∧ bs.getD k false = true
              · obtain ⟨hkb1, hkb2⟩ := hkb
                have hkbi : (k : Int) < (bs.length : Int) := by omega
                obtain ⟨gq, oq, rfl, cq0⟩ := HQ.out.at_ HSB.out.bel hkb1
                rw [show bs[k] = true from by rw [List.getD_eq_getElem?_getD, List.getElem?_eq_getElem hkb1] at hkb2; simpa using hkb2] at cq0
                have hTk := Take_any WB rb FB _ _ _ 7 (by unfold i64; omega) HSB.out.ra (by omega)
                rw [a7_at, a7_set, take7_cons] at hTk
                have HTk := Lib.hid hTk
                clear hkb2 HQ hTk
                obtain ⟨p5, hsl, hr5, ho5⟩ := HSB.out.row.tail
                obtain ⟨g2, o2, rfl, hg2, c20⟩ := HSB.out.row.ints 0 (by simp)
                have hg2n : ¬ FB g2 := HSB.out.ap g2 rfl
                have HC2 := Lib.hid c20
                have HR5 := Lib.hid hr5
                have HO5 := Lib.hid ho5
                have hz2 : (0 : Int) < ((l2.length : Int) + 1) := by omega
                clear c20 hr5 ho5
                go_wp2_with (go_at_call 18; refine HTk.out.mono ?_; rintro e w5 ⟨rfl, hra5, hf5⟩; refine Hid.out ?_)
                refine Lib.hid ?_
                have hs5 := HSB.out.call2 hra5 hf5
                have c5 : w5.cell? ⟨g2, o2, none⟩ = some (.int .i64 y2) := (World.cell?_of_block (a := ⟨g2, o2, none⟩) (hf5.same g2 hg2 hg2n)).trans HC2.out
                have hs6 : SI w w5 rb FB [] (a7 l2) (2 * k + 2) (.slice p5 l2.length (cap - 1)) l2 := ⟨hs5.ra, HR5.out.same (fun kk hkk => hf5.same kk (HR5.out.lt kk hkk).2 (HSB.out.ap kk (by rw [← HO5.out]; exact hkk))), fun bb hbb => HSB.out.ap bb (by rw [← HO5.out]; exact hbb), hs5.flt, hs5.flo, hs5.bel⟩
                have HS5 := Lib.hid hs6
                have HAl := Lib.hid (Alerts_any w5 rb FB _ _ _ 7 (by unfold i64; omega) hs6.ra (by omega))
                clear hra5 hf5 hs5 hs6 HSB HTk HC2 HR5 HO5 hg2n hg2
                have hsz5 := HS5.out.bel.size
                go_wp2_with (go_at_call 25; refine HAl.out.mono ?_; rintro e w7 ⟨v7, rfl, hr7, hb7⟩; rw [a7_at] at hr7; obtain ⟨sp7, cap7, rfl⟩ := row_form hr7; have hs7 := HS5.out.below hb7; have HS7 := Lib.hid hs7; have hsi := SameInts_any w7 sp7 _ cap7 (cap - 1) l2 l2 (row_ints hr7) hs7.row.ints (by simp at hwB; omega); rw [show (l2 == l2) = true from by simp] at hsi; have HSI := Lib.hid hsi; clear hsi hs7 hr7 hb7; refine Hid.out ?_)
                refine Lib.hid ?_
                go_wp2_with (first
                  | (go_at_call 24; refine HSI.out.mono ?_; rintro e w8 ⟨rfl, hb8⟩; have hs8 := HS7.out.below hb8; have HS8 := Lib.hid hs8; have HLn := Lib.hid (Len_any w8 rb _ _ _ _ hs8.ra); clear hs8 hb8)
                  | (go_at_call 21; refine HLn.out.mono ?_; rintro e w9 ⟨rfl, hw9⟩; rw [hw9]; clear hw9 w9))
                go_roundw
                case rel => exact ⟨k + 1, FB, l2, by go_num, by omega, by omega, by simp at hwB; omega, by rw [show 2 * (k + 1) = 2 * k + 2 from by omega]; exact HS8.out⟩
                case measure => simp [RowKit.intOf]; omega
              · have HAl := Lib.hid (Alerts_any WB rb FB _ _ _ 7 (by unfold i64; omega) HSB.out.ra (by omega))
                have HS5 := HSB
                by_cases hkb1 : k < bs.length
                · have hkbi : (k : Int) < (bs.length : Int) := by omega
                  obtain ⟨gq, oq, rfl, cq0⟩ := HQ.out.at_ HSB.out.bel hkb1
                  rw [show bs[k] = false from by
                    cases hbk : bs[k] with
                    | false => rfl
                    | true => exact absurd ⟨hkb1, by rw [List.getD_eq_getElem?_getD, List.getElem?_eq_getElem hkb1, hbk]; rfl⟩ hkb] at cq0
                  clear hkb HQ HSB
                  have hsz5 := HS5.out.bel.size
                  go_wp2_with (go_at_call 25; refine HAl.out.mono ?_; rintro e w7 ⟨v7, rfl, hr7, hb7⟩; rw [a7_at] at hr7; obtain ⟨sp7, cap7, rfl⟩ := row_form hr7; have hs7 := HS5.out.below hb7; have HS7 := Lib.hid hs7; have hsi := SameInts_any w7 sp7 _ cap7 cap (y2 :: l2) (y2 :: l2) (row_ints hr7) hs7.row.ints (by simp at hwB ⊢; omega); rw [show ((y2 :: l2) == (y2 :: l2)) = true from by simp] at hsi; have HSI := Lib.hid hsi; clear hsi hs7 hr7 hb7; refine Hid.out ?_)
                  refine Lib.hid ?_
                  go_wp2_with (first
                    | (go_at_call 24; refine HSI.out.mono ?_; rintro e w8 ⟨rfl, hb8⟩; have hs8 := HS7.out.below hb8; have HS8 := Lib.hid hs8; have HLn := Lib.hid (Len_any w8 rb _ _ _ _ hs8.ra); clear hs8 hb8)
                    | (go_at_call 21; refine HLn.out.mono ?_; rintro e w9 ⟨rfl, hw9⟩; rw [hw9]; clear hw9 w9))
                  go_roundw
                  case rel => exact ⟨k + 1, FB, (y2 :: l2), by go_num, by omega, by omega, by simp at hwB ⊢; omega, by rw [show 2 * (k + 1) = 2 * k + 2 from by omega]; exact HS8.out⟩
                  case measure => simp [RowKit.intOf]; omega
                · have hkbi : ¬ (k : Int) < (bs.length : Int) := by omega
                  clear hkb HQ HSB
                  have hsz5 := HS5.out.bel.size
                  go_wp2_with (go_at_call 25; refine HAl.out.mono ?_; rintro e w7 ⟨v7, rfl, hr7, hb7⟩; rw [a7_at] at hr7; obtain ⟨sp7, cap7, rfl⟩ := row_form hr7; have hs7 := HS5.out.below hb7; have HS7 := Lib.hid hs7; have hsi := SameInts_any w7 sp7 _ cap7 cap (y2 :: l2) (y2 :: l2) (row_ints hr7) hs7.row.ints (by simp at hwB ⊢; omega); rw [show ((y2 :: l2) == (y2 :: l2)) = true from by simp] at hsi; have HSI := Lib.hid hsi; clear hsi hs7 hr7 hb7; refine Hid.out ?_)
                  refine Lib.hid ?_
                  go_wp2_with (first
                    | (go_at_call 24; refine HSI.out.mono ?_; rintro e w8 ⟨rfl, hb8⟩; have hs8 := HS7.out.below hb8; have HS8 := Lib.hid hs8; have HLn := Lib.hid (Len_any w8 rb _ _ _ _ hs8.ra); clear hs8 hb8)
                    | (go_at_call 21; refine HLn.out.mono ?_; rintro e w9 ⟨rfl, hw9⟩; rw [hw9]; clear hw9 w9))
                  go_roundw
                  case rel => exact ⟨k + 1, FB, (y2 :: l2), by go_num, by omega, by omega, by simp at hwB ⊢; omega, by rw [show 2 * (k + 1) = 2 * k + 2 from by omega]; exact HS8.out⟩
                  case measure => simp [RowKit.intOf]; omega
          · by_cases hf8 : 8 ≤ (y2 :: l2).length
            · have hwB := hw8
              have hcc : 0 ≤ c ∧ c ≤ 255 := by omega
              have h0c : ¬ c < 0 := by omega
              have h1c : ¬ 255 < c := by omega
              have hPe := post7_full hcc hf8
              rw [postW_no (by rw [hPe]; decide), hPe, if_neg (by decide), if_neg (by decide)] at hPo
              have HPo := Lib.hid hPo
              have h8i : ((((l2.length : Nat) : Int) + 1) == 8) = true := by simp at hw8 hf8 ⊢; omega
              clear hPo hPe hcb hf8 hcc
              go_wp2_with (go_at_call 17; refine HPo.out.mono ?_; rintro e WB ⟨rfl, hxB⟩; refine Hid.out ?_)
              refine Lib.hid ?_
              obtain ⟨FB, hsB⟩ := HS3.out.call hxB
              have HSB := Lib.hid hsB
              clear hxB hsB HPo HS3
              by_cases hkb : k < bs.length ∧ bs.getD k false = true
              · obtain ⟨hkb1, hkb2⟩ := hkb
                have hkbi : (k : Int) < (bs.length : Int) := by omega
                obtain ⟨gq, oq, rfl, cq0⟩ := HQ.out.at_ HSB.out.bel hkb1
                rw [show bs[k] = true from by rw [List.getD_eq_getElem?_getD, List.getElem?_eq_getElem hkb1] at hkb2; simpa using hkb2] at cq0
                have hTk := Take_any WB rb FB _ _ _ 7 (by unfold i64; omega) HSB.out.ra (by omega)
                rw [a7_at, a7_set, take7_cons] at hTk
                have HTk := Lib.hid hTk
                clear hkb2 HQ hTk
                obtain ⟨p5, hsl, hr5, ho5⟩ := HSB.out.row.tail
                obtain ⟨g2, o2, rfl, hg2, c20⟩ := HSB.out.row.ints 0 (by simp)
                have hg2n : ¬ FB g2 := HSB.out.ap g2 rfl
                have HC2 := Lib.hid c20
                have HR5 := Lib.hid hr5
                have HO5 := Lib.hid ho5
                have hz2 : (0 : Int) < ((l2.length : Int) + 1) := by omega
                clear c20 hr5 ho5
                go_wp2_with (go_at_call 18; refine HTk.out.mono ?_; rintro e w5 ⟨rfl, hra5, hf5⟩; refine Hid.out ?_)
                refine Lib.hid ?_
                have hs5 := HSB.out.call2 hra5 hf5
                have c5 : w5.cell? ⟨g2, o2, none⟩ = some (.int .i64 y2) := (World.cell?_of_block (a := ⟨g2, o2, none⟩) (hf5.same g2 hg2 hg2n)).trans HC2.out
                have hs6 : SI w w5 rb FB [] (a7 l2) (2 * k + 2) (.slice p5 l2.length (cap - 1)) l2 := ⟨hs5.ra, HR5.out.same (fun kk hkk => hf5.same kk (HR5.out.lt kk hkk).2 (HSB.out.ap kk (by rw [← HO5.out]; exact hkk))), fun bb hbb => HSB.out.ap bb (by rw [← HO5.out]; exact hbb), hs5.flt, hs5.flo, hs5.bel⟩
                have HS5 := Lib.hid hs6
                have HAl := Lib.hid (Alerts_any w5 rb FB _ _ _ 7 (by unfold i64; omega) hs6.ra (by omega))
                clear hra5 hf5 hs5 hs6 HSB HTk HC2 HR5 HO5 hg2n hg2
                have hsz5 := HS5.out.bel.size
                go_wp2_with (go_at_call 25; refine HAl.out.mono ?_; rintro e w7 ⟨v7, rfl, hr7, hb7⟩; rw [a7_at] at hr7; obtain ⟨sp7, cap7, rfl⟩ := row_form hr7; have hs7 := HS5.out.below hb7; have HS7 := Lib.hid hs7; have hsi := SameInts_any w7 sp7 _ cap7 (cap - 1) l2 l2 (row_ints hr7) hs7.row.ints (by simp at hwB; omega); rw [show (l2 == l2) = true from by simp] at hsi; have HSI := Lib.hid hsi; clear hsi hs7 hr7 hb7; refine Hid.out ?_)
                refine Lib.hid ?_
                go_wp2_with (first
                  | (go_at_call 24; refine HSI.out.mono ?_; rintro e w8 ⟨rfl, hb8⟩; have hs8 := HS7.out.below hb8; have HS8 := Lib.hid hs8; have HLn := Lib.hid (Len_any w8 rb _ _ _ _ hs8.ra); clear hs8 hb8)
                  | (go_at_call 21; refine HLn.out.mono ?_; rintro e w9 ⟨rfl, hw9⟩; rw [hw9]; clear hw9 w9))
                go_roundw
                case rel => exact ⟨k + 1, FB, l2, by go_num, by omega, by omega, by simp at hwB; omega, by rw [show 2 * (k + 1) = 2 * k + 2 from by omega]; exact HS8.out⟩
                case measure => simp [RowKit.intOf]; omega
              · have HAl := Lib.hid (Alerts_any WB rb FB _ _ _ 7 (by unfold i64; omega) HSB.out.ra (by omega))
                have HS5 := HSB
                by_cases hkb1 : k < bs.length
                · have hkbi : (k : Int) < (bs.length : Int) := by omega
                  obtain ⟨gq, oq, rfl, cq0⟩ := HQ.out.at_ HSB.out.bel hkb1
                  rw [show bs[k] = false from by
                    cases hbk : bs[k] with
                    | false => rfl
                    | true => exact absurd ⟨hkb1, by rw [List.getD_eq_getElem?_getD, List.getElem?_eq_getElem hkb1, hbk]; rfl⟩ hkb] at cq0
                  clear hkb HQ HSB
                  have hsz5 := HS5.out.bel.size
                  go_wp2_with (go_at_call 25; refine HAl.out.mono ?_; rintro e w7 ⟨v7, rfl, hr7, hb7⟩; rw [a7_at] at hr7; obtain ⟨sp7, cap7, rfl⟩ := row_form hr7; have hs7 := HS5.out.below hb7; have HS7 := Lib.hid hs7; have hsi := SameInts_any w7 sp7 _ cap7 cap (y2 :: l2) (y2 :: l2) (row_ints hr7) hs7.row.ints (by simp at hwB ⊢; omega); rw [show ((y2 :: l2) == (y2 :: l2)) = true from by simp] at hsi; have HSI := Lib.hid hsi; clear hsi hs7 hr7 hb7; refine Hid.out ?_)
                  refine Lib.hid ?_
                  go_wp2_with (first
                    | (go_at_call 24; refine HSI.out.mono ?_; rintro e w8 ⟨rfl, hb8⟩; have hs8 := HS7.out.below hb8; have HS8 := Lib.hid hs8; have HLn := Lib.hid (Len_any w8 rb _ _ _ _ hs8.ra); clear hs8 hb8)
                    | (go_at_call 21; refine HLn.out.mono ?_; rintro e w9 ⟨rfl, hw9⟩; rw [hw9]; clear hw9 w9))
                  go_roundw
                  case rel => exact ⟨k + 1, FB, (y2 :: l2), by go_num, by omega, by omega, by simp at hwB ⊢; omega, by rw [show 2 * (k + 1) = 2 * k + 2 from by omega]; exact HS8.out⟩
                  case measure => simp [RowKit.intOf]; omega
                · have hkbi : ¬ (k : Int) < (bs.length : Int) := by omega
                  clear hkb HQ HSB
                  have hsz5 := HS5.out.bel.size
                  go_wp2_with (go_at_call 25; refine HAl.out.mono ?_; rintro e w7 ⟨v7, rfl, hr7, hb7⟩; rw [a7_at] at hr7; obtain ⟨sp7, cap7, rfl⟩ := row_form hr7; have hs7 := HS5.out.below hb7; have HS7 := Lib.hid hs7; have hsi := SameInts_any w7 sp7 _ cap7 cap (y2 :: l2) (y2 :: l2) (row_ints hr7) hs7.row.ints (by simp at hwB ⊢; omega); rw [show ((y2 :: l2) == (y2 :: l2)) = true from by simp] at hsi; have HSI := Lib.hid hsi; clear hsi hs7 hr7 hb7; refine Hid.out ?_)
                  refine Lib.hid ?_
                  go_wp2_with (first
                    | (go_at_call 24; refine HSI.out.mono ?_; rintro e w8 ⟨rfl, hb8⟩; have hs8 := HS7.out.below hb8; have HS8 := Lib.hid hs8; have HLn := Lib.hid (Len_any w8 rb _ _ _ _ hs8.ra); clear hs8 hb8)
                    | (go_at_call 21; refine HLn.out.mono ?_; rintro e w9 ⟨rfl, hw9⟩; rw [hw9]; clear hw9 w9))
                  go_roundw
                  case rel => exact ⟨k + 1, FB, (y2 :: l2), by go_num, by omega, by omega, by simp at hwB ⊢; omega, by rw [show 2 * (k + 1) = 2 * k + 2 from by omega]; exact HS8.out⟩
                  case measure => simp [RowKit.intOf]; omega
            · have h8n : ((((l2.length : Nat) : Int) + 1) == 8) = false := by simp at hf8 ⊢; omega
              have hcc : 0 ≤ c ∧ c ≤ 255 := by omega
              have h0c : ¬ c < 0 := by omega
              have h1c : ¬ 255 < c := by omega
              have hPe := post7_ok (l := (y2 :: l2)) hcc hf8
              rw [postW_yes hPe, hPe, if_pos rfl, if_pos rfl, a7_at, a7_set, show dropT 7 ([] : List Who) = [] from by rfl, show waitsA ([] : List Who) 7 = false from by rfl] at hPo
              have HPo := Lib.hid hPo
              clear hPo hPe hcb hcc
              go_wp2_with (go_at_call 17; refine HPo.out.mono ?_; rintro e w4 ⟨rfl, hx4⟩; refine Hid.out ?_)
              refine Lib.hid ?_
              obtain ⟨FB, hs4⟩ := HS3.out.call hx4
              have hz4 := hs4.bel.size
              obtain ⟨v', WB, hap, hr', hg', hat'⟩ := (hs4.row.same (w' := w4.alloc (.cells #[.int .i64 c] 3)) (fun kk hkk => Below.heap_alloc _ _ _ (hs4.row.lt kk hkk).2)).app (by simp; omega) (by first | (simp; done) | (simp at hw8 ⊢; omega)) c ⟨w4.heap.size, 0, none⟩ 1 (by simp [go_sem]) 37
              have hsB := hs4.appended hr' hg' hat'
              obtain ⟨p2, cap2, rfl, hlc2⟩ := hr'.form
              have HSB0 := Lib.hid hsB
              clear hx4 hs4 hr' hg' hat' HPo HS3 hsB
              obtain ⟨l3, hl3⟩ : ∃ l3 : List Int, l2 ++ [c] = l3 := ⟨_, rfl⟩
              have hwB' : (y2 :: l3).length ≤ 8 := by rw [← hl3]; simp at hf8 ⊢; omega
              have HSB : Hid (SI w WB rb FB [] (a7 (y2 :: l3)) (2 * k + 2) (.slice p2 (y2 :: l3).length cap2) (y2 :: l3)) := by rw [← hl3]; exact HSB0.out
              have hlen2 : ((y2 :: l2) ++ [c] : List Int).length = (y2 :: l3).length := by rw [← hl3]; rfl
              rw [hlen2] at hap
              simp only [List.length_cons] at hap
              clear HSB0 hlen2 hl3 hlc2
              have HAP := Lib.hid hap
              clear hap
              go_upto_region 23 with (at_builtin; refine wpList_append_run rfl _ _ 37 rfl _ _ rfl rfl HAP.out ?_)
              by_cases hkb : k < bs.length ∧ bs.getD k false = true
              · obtain ⟨hkb1, hkb2⟩ := hkb
                have hkbi : (k : Int) < (bs.length : Int) := by omega
                obtain ⟨gq, oq, rfl, cq0⟩ := HQ.out.at_ HSB.out.bel hkb1
                rw [show bs[k] = true from by rw [List.getD_eq_getElem?_getD, List.getElem?_eq_getElem hkb1] at hkb2; simpa using hkb2] at cq0
                have hTk := Take_any WB rb FB _ _ _ 7 (by unfold i64; omega) HSB.out.ra (by omega)
                rw [a7_at, a7_set, take7_cons] at hTk
                have HTk := Lib.hid hTk
                clear hkb2 HQ hTk
                obtain ⟨p5, hsl, hr5, ho5⟩ := HSB.out.row.tail
                obtain ⟨g2, o2, rfl, hg2, c20⟩ := HSB.out.row.ints 0 (by simp)
                have hg2n : ¬ FB g2 := HSB.out.ap g2 rfl
                have HC2 := Lib.hid c20
                have HR5 := Lib.hid hr5
                have HO5 := Lib.hid ho5
                have hz2 : (0 : Int) < ((l3.length : Int) + 1) := by omega
                clear c20 hr5 ho5
                go_wp2_with (go_at_call 18; refine HTk.out.mono ?_; rintro e w5 ⟨rfl, hra5, hf5⟩; refine Hid.out ?_)
                refine Lib.hid ?_
                have hs5 := HSB.out.call2 hra5 hf5
                have c5 : w5.cell? ⟨g2, o2, none⟩ = some (.int .i64 y2) := (World.cell?_of_block (a := ⟨g2, o2, none⟩) (hf5.same g2 hg2 hg2n)).trans HC2.out
                have hs6 : SI w w5 rb FB [] (a7 l3) (2 * k + 2) (.slice p5 l3.length (cap2 - 1)) l3 := ⟨hs5.ra, HR5.out.same (fun kk hkk => hf5.same kk (HR5.out.lt kk hkk).2 (HSB.out.ap kk (by rw [← HO5.out]; exact hkk))), fun bb hbb => HSB.out.ap bb (by rw [← HO5.out]; exact hbb), hs5.flt, hs5.flo, hs5.bel⟩
                have HS5 := Lib.hid hs6
                have HAl := Lib.hid (Alerts_any w5 rb FB _ _ _ 7 (by unfold i64; omega) hs6.ra (by omega))
                clear hra5 hf5 hs5 hs6 HSB HTk HC2 HR5 HO5 hg2n hg2
                have hsz5 := HS5.out.bel.size
                go_wp2_with (go_at_call 25; refine HAl.out.mono ?_; rintro e w7 ⟨v7, rfl, hr7, hb7⟩; rw [a7_at] at hr7; obtain ⟨sp7, cap7, rfl⟩ := row_form hr7; have hs7 := HS5.out.below hb7; have HS7 := Lib.hid hs7; have hsi := SameInts_any w7 sp7 _ cap7 (cap2 - 1) l3 l3 (row_ints hr7) hs7.row.ints (by simp at hwB'; omega); rw [show (l3 == l3) = true from by simp] at hsi; have HSI := Lib.hid hsi; clear hsi hs7 hr7 hb7; refine Hid.out ?_)
                refine Lib.hid ?_
                go_wp2_with (first
                  | (go_at_call 24; refine HSI.out.mono ?_; rintro e w8 ⟨rfl, hb8⟩; have hs8 := HS7.out.below hb8; have HS8 := Lib.hid hs8; have HLn := Lib.hid (Len_any w8 rb _ _ _ _ hs8.ra); clear hs8 hb8)
                  | (go_at_call 21; refine HLn.out.mono ?_; rintro e w9 ⟨rfl, hw9⟩; rw [hw9]; clear hw9 w9))
                go_roundw
                case rel => exact ⟨k + 1, FB, l3, by go_num, by omega, by omega, by simp at hwB'; omega, by rw [show 2 * (k + 1) = 2 * k + 2 from by omega]; exact HS8.out⟩
                case measure => simp [RowKit.intOf]; omega
              · have HAl := Lib.hid (Alerts_any WB rb FB _ _ _ 7 (by unfold i64; omega) HSB.out.ra (by omega))
                have HS5 := HSB
                by_cases hkb1 : k < bs.length
                · have hkbi : (k : Int) < (bs.length : Int) := by omega
                  obtain ⟨gq, oq, rfl, cq0⟩ := HQ.out.at_ HSB.out.bel hkb1
                  rw [show bs[k] = false from by
                    cases hbk : bs[k] with
                    | false => rfl
                    | true => exact absurd ⟨hkb1, by rw [List.getD_eq_getElem?_getD, List.getElem?_eq_getElem hkb1, hbk]; rfl⟩ hkb] at cq0
                  clear hkb HQ HSB
                  have hsz5 := HS5.out.bel.size
                  go_wp2_with (go_at_call 25; refine HAl.out.mono ?_; rintro e w7 ⟨v7, rfl, hr7, hb7⟩; rw [a7_at] at hr7; obtain ⟨sp7, cap7, rfl⟩ := row_form hr7; have hs7 := HS5.out.below hb7; have HS7 := Lib.hid hs7; have hsi := SameInts_any w7 sp7 _ cap7 cap2 (y2 :: l3) (y2 :: l3) (row_ints hr7) hs7.row.ints (by simp at hwB' ⊢; omega); rw [show ((y2 :: l3) == (y2 :: l3)) = true from by simp] at hsi; have HSI := Lib.hid hsi; clear hsi hs7 hr7 hb7; refine Hid.out ?_)
                  refine Lib.hid ?_
                  go_wp2_with (first
                    | (go_at_call 24; refine HSI.out.mono ?_; rintro e w8 ⟨rfl, hb8⟩; have hs8 := HS7.out.below hb8; have HS8 := Lib.hid hs8; have HLn := Lib.hid (Len_any w8 rb _ _ _ _ hs8.ra); clear hs8 hb8)
                    | (go_at_call 21; refine HLn.out.mono ?_; rintro e w9 ⟨rfl, hw9⟩; rw [hw9]; clear hw9 w9))
                  go_roundw
                  case rel => exact ⟨k + 1, FB, (y2 :: l3), by go_num, by omega, by omega, by simp at hwB' ⊢; omega, by rw [show 2 * (k + 1) = 2 * k + 2 from by omega]; exact HS8.out⟩
                  case measure => simp [RowKit.intOf]; omega
                · have hkbi : ¬ (k : Int) < (bs.length : Int) := by omega
                  clear hkb HQ HSB
                  have hsz5 := HS5.out.bel.size
                  go_wp2_with (go_at_call 25; refine HAl.out.mono ?_; rintro e w7 ⟨v7, rfl, hr7, hb7⟩; rw [a7_at] at hr7; obtain ⟨sp7, cap7, rfl⟩ := row_form hr7; have hs7 := HS5.out.below hb7; have HS7 := Lib.hid hs7; have hsi := SameInts_any w7 sp7 _ cap7 cap2 (y2 :: l3) (y2 :: l3) (row_ints hr7) hs7.row.ints (by simp at hwB' ⊢; omega); rw [show ((y2 :: l3) == (y2 :: l3)) = true from by simp] at hsi; have HSI := Lib.hid hsi; clear hsi hs7 hr7 hb7; refine Hid.out ?_)
                  refine Lib.hid ?_
                  go_wp2_with (first
                    | (go_at_call 24; refine HSI.out.mono ?_; rintro e w8 ⟨rfl, hb8⟩; have hs8 := HS7.out.below hb8; have HS8 := Lib.hid hs8; have HLn := Lib.hid (Len_any w8 rb _ _ _ _ hs8.ra); clear hs8 hb8)
                    | (go_at_call 21; refine HLn.out.mono ?_; rintro e w9 ⟨rfl, hw9⟩; rw [hw9]; clear hw9 w9))
                  go_roundw
                  case rel => exact ⟨k + 1, FB, (y2 :: l3), by go_num, by omega, by omega, by simp at hwB' ⊢; omega, by rw [show 2 * (k + 1) = 2 * k + 2 from by omega]; exact HS8.out⟩
                  case measure => simp [RowKit.intOf]; omega
      · have hkx : (100 : Int) ≤ (k : Int) := by omega
        have HBel := Lib.hid hst.bel
        clear hst hp hq
        go_wp2_with fail
        go_ret
        exact ⟨rfl, HBel.out⟩
    · obtain rfl : k = cs.length := by omega
      have hkk : ¬ (cs.length : Int) < (cs.length : Int) := by omega
      have HBel := Lib.hid hst.bel
      clear hst hp hq
      go_wp2_with fail
      go_ret
      exact ⟨rfl, HBel.out⟩
end Go.Proofs.Ythknnmllibdggaa
