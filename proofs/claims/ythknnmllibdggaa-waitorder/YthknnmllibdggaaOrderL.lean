/- Those that wait at one place are woken in the order in which they came. -/
import Derived.Test.YthknnmllibdggaaLawB
namespace Go.Proofs.Ythknnmllibdggaa
open Go.RowKit Go.Sort
def no_ (_ : Int) : List Int := []
set_option maxRecDepth 100000 in
set_option maxHeartbeats 4000000 in
theorem WaitOrder_any (p q r : Option Addr) (cp cq cr : Nat) (ts os ls : List Int) (w : World) (hp : IntsAt w p ts) (hq : IntsAt w q os) (hr : IntsAt w r ls) (it : ∀ x ∈ ts, i64 x) (il : ∀ x ∈ ls, i64 x)
    (ll : ls.length ≤ maxLen) :
    Calls Try.prog 5 #[.slice p ts.length cp, .slice q os.length cq, .slice r ls.length cr] w fun e w' => e = .returned (.bool true) ∧ Below w.heap.size w w' := by
  obtain ⟨i0, hi, hz0, hz1, hz2⟩ := info_parts intInfo
  unfold maxLen at ll
  go_enter Try.func5, Try.ntmps5
  go_wp2_with (first
    | (go_at_call 8; refine (lives_any _).mono ?_; rintro e w1 ⟨rfl, hb1⟩)
    | (go_at_call 9; refine (New_any _).mono ?_; rintro e w2 ⟨rb, F0, rfl, hra0, hb2, hlo0, hlt0⟩))
  have hz1' := hb1.size
  have hst0 : St w w2 rb F0 [] no_ 0 (.slice none 0 0) [] := ⟨hra0, World.ownsRow_nil _ _ _ _, fun b hb => (by cases hb), hlt0, fun k hk => by have := hlo0 k hk; omega, hb1.trans (hb2.mono hz1')⟩
  clear hra0 hlo0 hlt0 hb1 hb2 hz1'
  go_loopw [8, 24] (fun v y wr => ∃ (k : Nat) (F : Nat → Prop) (all : List Who), y = .int .i64 k ∧ k ≤ ts.length ∧ k ≤ 60 ∧ St w wr rb F all no_ (2 * k) v (listA all 9 0)) (fun _ y _ => (ts.length - (RowKit.intOf y).toNat))
  case atStart => exact ⟨0, F0, [], rfl, Nat.zero_le _, Nat.zero_le _, hst0⟩
  case round =>
    obtain ⟨k, F, all, rfl, hk, hk6, hst⟩ := hrel
    have hln0 := hst.ra.len
    by_cases hlt : k < ts.length
    · have hki : (k : Int) < (ts.length : Int) := by omega
      obtain ⟨gp, op, rfl, cp0⟩ := hp.at_ hst.bel hlt
      have hti : i64 ts[k] := it _ (List.getElem_mem hlt)
      obtain ⟨t, ht⟩ : ∃ t, ts[k] = t := ⟨_, rfl⟩
      rw [ht] at cp0 hti
      clear ht
      by_cases h60 : k < 60
      · have h60i : ¬ (60 : Int) ≤ (k : Int) := by omega
        -- the second call, from any state
        have SEC : ∀ (W : World) (F1 : Nat → Prop) (all1 : List Who) (v1 : Value), St w W rb F1 all1 no_ (2 * k + 1) v1 (listA all1 9 0) → Calls Try.prog 14 #[pv rb, .int .i64 t, .int .i64 9, .int .i64 0] W fun e w' => e = .returned (.int .i64 (waitE all1 no_ t 9 0)) ∧ ∃ F2, St w w' rb F2 (if waitE all1 no_ t 9 0 = 0 then all1 ++ [(t, 9, 0)] else all1) no_ (2 * k + 2) v1 (listA all1 9 0) := fun W F1 all1 v1 hs => (Wait_any W rb F1 all1 no_ (2 * k + 1) t 9 0 hs.ra (by omega)).mono fun e w' ⟨h1, h2⟩ => ⟨h1, hs.call h2⟩
        have HSEC := Lib.hid SEC
        clear SEC
        obtain ⟨sp, cap, rfl⟩ := row_form hst.row
        by_cases ho : k < os.length
        · have hoi : (k : Int) < (os.length : Int) := by omega
          obtain ⟨gq, oq, rfl, cq0⟩ := hq.at_ hst.bel ho
          obtain ⟨o, hoo⟩ : ∃ o, os[k] = o := ⟨_, rfl⟩
          rw [hoo] at cq0
          clear hoo
          have HF : Hid (Calls Try.prog 14 #[pv rb, .int .i64 o, .int .i64 9, .int .i64 (1 + (k : Int))] wr fun e w' => (∃ c, e = .returned (.int .i64 c)) ∧ ∃ F1 all1, St w w' rb F1 all1 no_ (2 * k + 1) (.slice sp (listA all 9 0).length cap) (listA all1 9 0) ∧ listA all1 9 0 = listA all 9 0) := (Wait_any wr rb F all no_ (2 * k) o 9 (1 + (k : Int)) hst.ra (by omega)).mono fun e w' ⟨h1, h2⟩ => by
            refine ⟨⟨_, h1⟩, ?_⟩
            have hl : listA (if waitE all no_ o 9 (1 + (k : Int)) = 0 then all ++ [(o, 9, 1 + (k : Int))] else all) 9 0 = listA all 9 0 := by
              split
              · rw [listA_app, if_neg (by simp; omega), List.append_nil]
              · rfl
            obtain ⟨F1, hs1⟩ := hst.call h2
            exact ⟨F1, _, by rw [hl]; exact hs1, hl⟩
          clear hst hp hq hr
          go_wp2_with (go_at_call 14; refine HF.out.mono ?_; rintro e w5 ⟨⟨c5, rfl⟩, F1, all1, hs1, hl1⟩; refine Hid.out ?_)
          refine Lib.hid ?_
          rw [← hl1]
          have hlen1 := hs1.ra.len
          have hl1n := listA_len all1 9 0
          have HS1 := Lib.hid (HSEC.out w5 F1 all1 _ hs1)
          rw [← hl1] at HS1
          clear hs1 HF hl1
          obtain ⟨L1, hL1⟩ : ∃ L1, listA all1 9 0 = L1 := ⟨_, rfl⟩
          obtain ⟨c, hc⟩ : ∃ c, waitE all1 no_ t 9 0 = c := ⟨_, rfl⟩
          rw [hc, hL1] at HS1
          rw [hL1] at hl1n ⊢
          have HL1 := Lib.hid hL1
          clear hc hL1 HSEC
          by_cases hc0 : c = 0
          · subst hc0
            go_wp2_with (go_at_call 14; refine HS1.out.mono ?_; rintro e w6 ⟨rfl, F2, hs2⟩; refine Hid.out ?_)
            refine Lib.hid ?_
            rw [if_pos trivial] at hs2
            have HRA := Lib.hid (hs2.row.alloc (.cells #[.int .i64 t] 3))
            have HNw : Hid (∀ j u, ([.int .i64 t] : List Value)[j]? = some u → (w6.alloc (.cells #[.int .i64 t] 3)).cell? ((⟨w6.heap.size, 0, none⟩ : Addr).add j) = some u) := cell_one_new _ _ _
            have HOn : Hid (∀ u ∈ ([.int .i64 t] : List Value), u.oneCell' = true) := fun u hu => by simp at hu; rcases hu with rfl; rfl
            have hbs := hs2.bel.size
            have HS2 := Lib.hid hs2
            clear HS1 hs2
            go_wp2_with (at_builtin; refine wpList_append_own_at _ rfl _ _ 37 rfl w.heap.size 3 i0 (.int .i64 0) 1 8 (by kernel_rfl) hi hz0 hz1 hz2 rfl (by decide) _ _ _ rfl HRA.out ⟨w6.heap.size, 0, none⟩ 1 1 [.int .i64 t] rfl rfl HNw.out HOn.out (by show _ ≤ 2 ^ 63 - 1; omega) (by omega) (by simp; omega) ?_; intro v' w7 hown7 hgrow7 hnil7 hat7; clear hnil7; have HO7 := Lib.hid hown7; have HG7 := Lib.hid hgrow7; have HA7 := Lib.hid hat7; clear hown7 hgrow7 hat7)
            go_roundw
            case rel =>
              refine ⟨k + 1, F2, all1 ++ [(t, 9, 0)], by go_num, by omega, by omega, ?_⟩
              have := HS2.out.appended HO7.out HG7.out (HA7.out.imp id (fun h => ⟨_, h, by simp⟩))
              rw [listA_app, if_pos ⟨rfl, rfl⟩, HL1.out]
              exact this
            case measure => simp [RowKit.intOf]; omega
          · have hcb : (c == 0) = false := by simpa using hc0
            go_wp2_with (go_at_call 14; refine HS1.out.mono ?_; rintro e w6 ⟨rfl, F2, hs2⟩; rw [if_neg hc0] at hs2; have HS2 := Lib.hid hs2; clear hs2)
            go_roundw
            case rel => exact ⟨k + 1, F2, all1, by go_num, by omega, by omega, by rw [HL1.out]; exact HS2.out⟩
            case measure => simp [RowKit.intOf]; omega
        · have hoi : ¬ (k : Int) < (os.length : Int) := by omega
          have hs1 : St w wr rb F all no_ (2 * k + 1) (.slice sp (listA all 9 0).length cap) (listA all 9 0) := { hst with ra := hst.ra.mono (by omega) }
          have hlen1 := hs1.ra.len
          have hl1n := listA_len all 9 0
          have HS1 := Lib.hid (HSEC.out wr F all _ hs1)
          obtain ⟨all1, hall1⟩ : ∃ all1, all = all1 := ⟨_, rfl⟩
          rw [hall1] at HS1 hl1n hlen1 ⊢
          obtain ⟨L1, hL1⟩ : ∃ L1, listA all1 9 0 = L1 := ⟨_, rfl⟩
          clear hst hp hq hr hs1 hall1 hln0
          obtain ⟨c, hc⟩ : ∃ c, waitE all1 no_ t 9 0 = c := ⟨_, rfl⟩
          rw [hc, hL1] at HS1
          rw [hL1] at hl1n ⊢
          have HL1 := Lib.hid hL1
          clear hc hL1 HSEC
          by_cases hc0 : c = 0
          · subst hc0
            go_wp2_with (go_at_call 14; refine HS1.out.mono ?_; rintro e w6 ⟨rfl, F2, hs2⟩; refine Hid.out ?_)
            refine Lib.hid ?_
            rw [if_pos trivial] at hs2
            have HRA := Lib.hid (hs2.row.alloc (.cells #[.int .i64 t] 3))
            have HNw : Hid (∀ j u, ([.int .i64 t] : List Value)[j]? = some u → (w6.alloc (.cells #[.int .i64 t] 3)).cell? ((⟨w6.heap.size, 0, none⟩ : Addr).add j) = some u) := cell_one_new _ _ _
            have HOn : Hid (∀ u ∈ ([.int .i64 t] : List Value), u.oneCell' = true) := fun u hu => by simp at hu; rcases hu with rfl; rfl
            have hbs := hs2.bel.size
            have HS2 := Lib.hid hs2
            clear HS1 hs2
            go_wp2_with (at_builtin; refine wpList_append_own_at _ rfl _ _ 37 rfl w.heap.size 3 i0 (.int .i64 0) 1 8 (by kernel_rfl) hi hz0 hz1 hz2 rfl (by decide) _ _ _ rfl HRA.out ⟨w6.heap.size, 0, none⟩ 1 1 [.int .i64 t] rfl rfl HNw.out HOn.out (by show _ ≤ 2 ^ 63 - 1; omega) (by omega) (by simp; omega) ?_; intro v' w7 hown7 hgrow7 hnil7 hat7; clear hnil7; have HO7 := Lib.hid hown7; have HG7 := Lib.hid hgrow7; have HA7 := Lib.hid hat7; clear hown7 hgrow7 hat7)
            go_roundw
            case rel =>
              refine ⟨k + 1, F2, all1 ++ [(t, 9, 0)], by go_num, by omega, by omega, ?_⟩
              have := HS2.out.appended HO7.out HG7.out (HA7.out.imp id (fun h => ⟨_, h, by simp⟩))
              rw [listA_app, if_pos ⟨rfl, rfl⟩, HL1.out]
              exact this
            case measure => simp [RowKit.intOf]; omega
          · have hcb : (c == 0) = false := by simpa using hc0
            go_wp2_with (go_at_call 14; refine HS1.out.mono ?_; rintro e w6 ⟨rfl, F2, hs2⟩; rw [if_neg hc0] at hs2; have HS2 := Lib.hid hs2; clear hs2)
            go_roundw
            case rel => exact ⟨k + 1, F2, all1, by go_num, by omega, by omega, by rw [HL1.out]; exact HS2.out⟩
            case measure => simp [RowKit.intOf]; omega
      · have hk60 : (60 : Int) ≤ (k : Int) := by omega
        have hstN : St w wr rb F all no_ 120 _ (listA all 9 0) := { hst with ra := hst.ra.mono (N' := 120) (by omega) }
        obtain ⟨spv, capv, rfl⟩ := row_form hst.row
        have HST := Lib.hid hstN
        clear hstN
        clear hst
        clear hp hq
        go_wp2_with fail
        go_loopw [8, 54] (fun v y wr => ∃ (k : Nat) (F : Nat → Prop) (all : List Who), y = .int .i64 k ∧ k ≤ ls.length ∧ St w wr rb F all no_ 120 v (listA all 9 0)) (fun _ y _ => (ls.length - (RowKit.intOf y).toNat))
        case atStart => exact ⟨0, F, all, rfl, Nat.zero_le _, HST.out⟩
        case round =>
          clear HST
          obtain ⟨k2, F2, all2, rfl, hk2, hst2⟩ := hrel
          obtain ⟨sp2, cap2, rfl⟩ := row_form hst2.row
          have hln2 := hst2.ra.len
          have hla2 := listA_len all2 9 0
          by_cases hlt2 : k2 < ls.length
          · have hki2 : (k2 : Int) < (ls.length : Int) := by omega
            obtain ⟨gr, orr, rfl, cr0⟩ := hr.at_ hst2.bel hlt2
            have hti2 : i64 ls[k2] := il _ (List.getElem_mem hlt2)
            obtain ⟨t2, ht2⟩ : ∃ t2, ls[k2] = t2 := ⟨_, rfl⟩
            rw [ht2] at cr0 hti2
            clear ht2
            have HFG : Hid (Calls Try.prog 20 #[pv rb, .int .i64 t2] wr fun e w' => (∃ b, e = .returned (.bool b)) ∧ St w w' rb F2 (dropT t2 all2) no_ 120 (.slice sp2 (listA all2 9 0).length cap2) (listA all2 9 0)) := (Forget_any wr rb F2 all2 no_ 120 t2 hti2 hst2.ra (by omega)).mono fun e w' ⟨h1, h2, h3⟩ => ⟨⟨_, h1⟩, hst2.call2 (by have h4 : setI no_ t2 [] = no_ := setI_same t2; rw [h4] at h2; exact h2) h3⟩
            have HLD := Lib.hid (listA_dropT all2 t2 9 0)
            obtain ⟨L2, hL2⟩ : ∃ L2, listA all2 9 0 = L2 := ⟨_, rfl⟩
            rw [hL2] at HFG HLD hla2 ⊢
            clear hst2 hL2
            go_wp2_with (go_at_call 20; refine HFG.out.mono ?_; rintro e w5 ⟨⟨b5, rfl⟩, hs5⟩; refine Hid.out ?_)
            refine Lib.hid ?_
            have hint : IntsAt w5 sp2 L2 := row_ints hs5.row
            have HI5 := Lib.hid hint
            have HS5 := Lib.hid hs5
            have hz5 := hs5.bel.size
            clear HFG hint hs5
            obtain ⟨W6, hW6⟩ : ∃ W6, w5.alloc (.cells #[] 3) = W6 := ⟨_, rfl⟩
            have hrow6 : W6.ownsRow w5.heap.size 3 1 (.slice (some ⟨w5.heap.size, 0, none⟩) 0 0) 0 [] := by rw [← hW6]; exact World.ownsRow_lit (base := w5.heap.size) (e := 3) (size := 1) w5 #[] 0 (Nat.le_refl _) (by decide) rfl
            have hb6 : Below w5.heap.size w5 W6 := by rw [← hW6]; exact (Below.refl _ _).alloc (Nat.le_refl _) _
            go_wp2_with fail
            go_loopw [13, 64] (fun v y wr => ∃ (j : Nat), y = .int .i64 j ∧ j ≤ L2.length ∧ wr.ownsRow w5.heap.size 3 1 v ((L2.take j).filter fun y => !(y == t2)).length (ivs ((L2.take j).filter fun y => !(y == t2))) ∧ Below w5.heap.size w5 wr) (fun _ y _ => (L2.length - (RowKit.intOf y).toNat))
            case atStart => exact ⟨0, rfl, Nat.zero_le _, hrow6, hb6⟩
            case round =>
              clear hrow6 hb6 hW6
              obtain ⟨j, rfl, hj, hrw, hbw⟩ := hrel
              obtain ⟨sp7, cap7, rfl⟩ := row_form hrw
              have hbz := hbw.size
              have hfl := List.length_filter_le (fun y : Int => !(y == t2)) (L2.take j)
              rw [List.length_take] at hfl
              by_cases hjl : j < L2.length
              · have hji : (j : Int) < (L2.length : Int) := by omega
                obtain ⟨g2, o2, rfl, c20⟩ := HI5.out.at_ hbw hjl
                have HTS : Hid ((L2.take (j + 1)).filter (fun y => !(y == t2)) = (L2.take j).filter (fun y => !(y == t2)) ++ if L2[j] = t2 then [] else [L2[j]]) := by
                  show List.filter _ _ = _
                  rw [List.take_succ_eq_append_getElem hjl, List.filter_append, List.filter_cons, List.filter_nil]
                  by_cases h : L2[j] = t2
                  · simp [h]
                  · have h' : (L2[j] == t2) = false := by simpa using h
                    simp [h, h']
                obtain ⟨y2, hy2⟩ : ∃ y2, L2[j] = y2 := ⟨_, rfl⟩
                simp only [hy2] at c20 HTS
                clear hy2
                obtain ⟨FL, hFL⟩ : ∃ FL, (L2.take j).filter (fun y => !(y == t2)) = FL := ⟨_, rfl⟩
                rw [hFL] at hrw HTS hfl ⊢
                clear hFL
                by_cases he2 : y2 = t2
                · have heb : (y2 != t2) = false := by simp [he2]
                  rw [if_pos he2, List.append_nil] at HTS
                  have HRW := Lib.hid hrw
                  have HBW := Lib.hid hbw
                  clear hrw hbw
                  go_wp2_with fail
                  go_roundw
                  case rel => exact ⟨j + 1, by go_num, by omega, by rw [HTS.out]; exact HRW.out, HBW.out⟩
                  case measure => simp [RowKit.intOf]; omega
                · have heb : (y2 != t2) = true := by simp [he2]
                  rw [if_neg he2] at HTS
                  have HRA := Lib.hid (hrw.alloc (.cells #[.int .i64 y2] 3))
                  have HNw : Hid (∀ j u, ([.int .i64 y2] : List Value)[j]? = some u → (wr.alloc (.cells #[.int .i64 y2] 3)).cell? ((⟨wr.heap.size, 0, none⟩ : Addr).add j) = some u) := cell_one_new _ _ _
                  have HOn : Hid (∀ u ∈ ([.int .i64 y2] : List Value), u.oneCell' = true) := fun u hu => by simp at hu; rcases hu with rfl; rfl
                  have HRW := Lib.hid hrw
                  have HBW := Lib.hid hbw
                  clear hrw hbw
                  go_wp2_with (at_builtin; refine wpList_append_own_at _ rfl _ _ 37 rfl w5.heap.size 3 i0 (.int .i64 0) 1 8 (by kernel_rfl) hi hz0 hz1 hz2 rfl (by decide) _ _ _ rfl HRA.out ⟨wr.heap.size, 0, none⟩ 1 1 [.int .i64 y2] rfl rfl HNw.out HOn.out (by show _ ≤ 2 ^ 63 - 1; omega) (by omega) (by simp; omega) ?_; intro v' w7 hown7 hgrow7 hnil7 hat7; clear hnil7 hat7; have HO7 := Lib.hid hown7; have HG7 := Lib.hid hgrow7; clear hown7 hgrow7)
                  go_roundw
                  case rel =>
                    refine ⟨j + 1, by go_num, by omega, ?_, ?_⟩
                    · rw [HTS.out, List.length_append, show ivs (FL ++ [y2]) = ivs FL ++ [.int .i64 y2] from by unfold ivs; rw [List.map_append]; rfl]
                      exact HO7.out
                    · exact Below.grown (HBW.out.alloc (by omega) _) HG7.out (by simp; omega) (fun k hk => (HRW.out.lt k hk).1)
                  case measure => simp [RowKit.intOf]; omega
              · obtain rfl : j = L2.length := by omega
                have hjj : ¬ (L2.length : Int) < (L2.length : Int) := by omega
                rw [List.take_length] at hrw
                rw [List.take_length]
                obtain ⟨FL, hFL⟩ : ∃ FL, L2.filter (fun y => !(y == t2)) = FL := ⟨_, rfl⟩
                rw [hFL] at hrw HLD ⊢
                clear hFL
                have HRW := Lib.hid hrw
                have HBW := Lib.hid hbw
                clear hrw hbw
                go_wp2_with fail
                go_roundw
                case rel =>
                  refine ⟨k2 + 1, F2, dropT t2 all2, by go_num, by omega, ?_⟩
                  rw [HLD.out]
                  exact (HS5.out.below (HBW.out.mono (Nat.le_refl _))).swap (row_mono HRW.out hz5) (fun b hb hF => by have h1 := (HRW.out.lt b hb).1; have h2 := HS5.out.flt b hF; omega)
                case measure => simp [RowKit.intOf]; omega
          · obtain rfl : k2 = ls.length := by omega
            have hkk2 : ¬ (ls.length : Int) < (ls.length : Int) := by omega
            have hnd := hst2.ra.nd
            have hflt := hst2.flt
            have HFL := Lib.hid hflt
            clear hflt
            have HWL := Lib.hid (wake_len hnd 9 0)
            have HWN := Lib.hid (wake_none hnd 9 0)
            have HLen := Lib.hid (Len_any _ _ _ _ _ _ hst2.ra)
            have HLis := Lib.hid (List_any _ _ _ _ _ _ 9 0 (by unfold i64; omega) (by unfold i64; omega) hst2.ra (by omega))
            have HS2 := Lib.hid hst2
            clear hst2 hnd
            go_wp2_with (first
              | (go_at_call 21; refine HLen.out.mono ?_; rintro e w9 ⟨rfl, hw9⟩; rw [hw9]; clear hw9 w9)
              | (go_at_call 23; refine HLis.out.mono ?_; rintro e w3 ⟨v3, rfl, hr3, hb3⟩; refine Hid.out ?_))
            refine Lib.hid ?_
            have hs3 := HS2.out.below hb3
            have HWk := Lib.hid (Wake_any _ _ _ _ _ _ 9 0 (by unfold i64; omega) (by unfold i64; omega) hs3.ra (by omega) hs3.flt)
            have HS3 := Lib.hid hs3
            have HR3 := Lib.hid hr3
            clear hs3 hr3 HLis HLen HS2
            go_wp2_with (go_at_call 16; refine HWk.out.mono ?_; rintro e w4 ⟨v4, rfl, hr4, hra4, hf4⟩; refine Hid.out ?_)
            refine Lib.hid ?_
            have hs4 := HS3.out.call2 hra4 hf4
            have hr3' : w4.ownsRow wr.heap.size 3 1 v3 (listA all2 9 0).length (ivs (listA all2 9 0)) := row_same HR3.out (fun k hk => hf4.same k (HR3.out.lt k hk).2 (fun hF => by have h1 := HFL.out k hF; have h2 := (HR3.out.lt k hk).1; omega))
            obtain ⟨sp3, cap3, rfl⟩ := row_form hr3'
            obtain ⟨sp4, cap4, rfl⟩ := row_form hr4
            have i2 := row_ints hs4.row
            have i3 := row_ints hr3'
            have i4 := row_ints hr4
            have HSa := Lib.hid (SameInts_any w4 sp4 sp2 cap4 cap2 (listA all2 9 0) (listA all2 9 0) i4 i2 (by omega))
            rw [show (listA all2 9 0 == listA all2 9 0) = true from by simp] at HSa
            have HI2 := Lib.hid i2
            have HI3 := Lib.hid i3
            have HS4 := Lib.hid hs4
            clear HS3 HR3 hr3' hr4 i2 i3 i4 hs4 hra4 hf4 HWk
            go_wp2_with (go_at_call 24; refine HSa.out.mono ?_; rintro e w6 ⟨rfl, hb6⟩; refine Hid.out ?_)
            refine Lib.hid ?_
            have HSb := Lib.hid (SameInts_any w6 sp3 sp2 cap3 cap2 (listA all2 9 0) (listA all2 9 0) (HI3.out.below hb6) (HI2.out.below hb6) (by omega))
            rw [show (listA all2 9 0 == listA all2 9 0) = true from by simp] at HSb
            have hs6 := HS4.out.below hb6
            have HS6 := Lib.hid hs6
            clear HSa HI2 HI3 HS4 hb6 hs6
            go_wp2_with (go_at_call 24; refine HSb.out.mono ?_; rintro e w7 ⟨rfl, hb7⟩; refine Hid.out ?_)
            refine Lib.hid ?_
            have hs7 := HS6.out.below hb7
            have HLen := Lib.hid (Len_any _ _ _ _ _ _ hs7.ra)
            have HWk := Lib.hid (Wake_any _ _ _ _ _ _ 9 0 (by unfold i64; omega) (by unfold i64; omega) hs7.ra (by omega) hs7.flt)
            have HS7 := Lib.hid hs7
            rw [HWN.out] at HWk
            have hsub : ((dropL (listA all2 9 0) all2).length : Int) = (all2.length : Int) - ((listA all2 9 0).length : Int) := by have := HWL.out; omega
            obtain ⟨n1, hn1⟩ : ∃ n1 : Int, (all2.length : Int) = n1 := ⟨_, rfl⟩
            obtain ⟨n2, hn2⟩ : ∃ n2 : Int, ((listA all2 9 0).length : Int) = n2 := ⟨_, rfl⟩
            rw [hsub, hn1, hn2] at HLen
            have hn1b : 0 ≤ n1 ∧ n1 ≤ 120 := by omega
            have hn2b : 0 ≤ n2 ∧ n2 ≤ 120 := by omega
            clear HSb HS6 hb7 hs7 hsub HWL HWN
            go_wp2_with (first
              | (go_at_call 21; refine HLen.out.mono ?_; rintro e w9 ⟨rfl, hw9⟩; rw [hw9]; clear hw9 w9)
              | (go_at_call 16; refine HWk.out.mono ?_; rintro e w8 ⟨v8, rfl, hr8, hra8, hf8⟩; obtain ⟨sp8, cap8, rfl⟩ := row_form hr8; have HS8 := Lib.hid (HS7.out.call2 hra8 hf8); clear hr8 hra8 hf8))
            go_ret
            exact ⟨rfl, HS8.out.bel⟩
    · obtain rfl : k = ts.length := by omega
      have hkk : ¬ (ts.length : Int) < (ts.length : Int) := by omega
      have hstN : St w wr rb F all no_ 120 _ (listA all 9 0) := { hst with ra := hst.ra.mono (N' := 120) (by omega) }
      obtain ⟨spv, capv, rfl⟩ := row_form hst.row
      have HST := Lib.hid hstN
      clear hstN
      clear hst
      clear hp hq
      go_wp2_with fail
      go_loopw [8, 54] (fun v y wr => ∃ (k : Nat) (F : Nat → Prop) (all : List Who), y = .int .i64 k ∧ k ≤ ls.length ∧ St w wr rb F all no_ 120 v (listA all 9 0)) (fun _ y _ => (ls.length - (RowKit.intOf y).toNat))
      case atStart => exact ⟨0, F, all, rfl, Nat.zero_le _, HST.out⟩
      case round =>
        clear HST
        obtain ⟨k2, F2, all2, rfl, hk2, hst2⟩ := hrel
        obtain ⟨sp2, cap2, rfl⟩ := row_form hst2.row
        have hln2 := hst2.ra.len
        have hla2 := listA_len all2 9 0
        by_cases hlt2 : k2 < ls.length
        · have hki2 : (k2 : Int) < (ls.length : Int) := by omega
          obtain ⟨gr, orr, rfl, cr0⟩ := hr.at_ hst2.bel hlt2
          have hti2 : i64 ls[k2] := il _ (List.getElem_mem hlt2)
          obtain ⟨t2, ht2⟩ : ∃ t2, ls[k2] = t2 := ⟨_, rfl⟩
          rw [ht2] at cr0 hti2
          clear ht2
          have HFG : Hid (Calls Try.prog 20 #[pv rb, .int .i64 t2] wr fun e w' => (∃ b, e = .returned (.bool b)) ∧ St w w' rb F2 (dropT t2 all2) no_ 120 (.slice sp2 (listA all2 9 0).length cap2) (listA all2 9 0)) := (Forget_any wr rb F2 all2 no_ 120 t2 hti2 hst2.ra (by omega)).mono fun e w' ⟨h1, h2, h3⟩ => ⟨⟨_, h1⟩, hst2.call2 (by have h4 : setI no_ t2 [] = no_ := setI_same t2; rw [h4] at h2; exact h2) h3⟩
          have HLD := Lib.hid (listA_dropT all2 t2 9 0)
          obtain ⟨L2, hL2⟩ : ∃ L2, listA all2 9 0 = L2 := ⟨_, rfl⟩
          rw [hL2] at HFG HLD hla2 ⊢
          clear hst2 hL2
          go_wp2_with (go_at_call 20; refine HFG.out.mono ?_; rintro e w5 ⟨⟨b5, rfl⟩, hs5⟩; refine Hid.out ?_)
          refine Lib.hid ?_
          have hint : IntsAt w5 sp2 L2 := row_ints hs5.row
          have HI5 := Lib.hid hint
          have HS5 := Lib.hid hs5
          have hz5 := hs5.bel.size
          clear HFG hint hs5
          obtain ⟨W6, hW6⟩ : ∃ W6, w5.alloc (.cells #[] 3) = W6 := ⟨_, rfl⟩
          have hrow6 : W6.ownsRow w5.heap.size 3 1 (.slice (some ⟨w5.heap.size, 0, none⟩) 0 0) 0 [] := by rw [← hW6]; exact World.ownsRow_lit (base := w5.heap.size) (e := 3) (size := 1) w5 #[] 0 (Nat.le_refl _) (by decide) rfl
          have hb6 : Below w5.heap.size w5 W6 := by rw [← hW6]; exact (Below.refl _ _).alloc (Nat.le_refl _) _
          go_wp2_with fail
          go_loopw [13, 64] (fun v y wr => ∃ (j : Nat), y = .int .i64 j ∧ j ≤ L2.length ∧ wr.ownsRow w5.heap.size 3 1 v ((L2.take j).filter fun y => !(y == t2)).length (ivs ((L2.take j).filter fun y => !(y == t2))) ∧ Below w5.heap.size w5 wr) (fun _ y _ => (L2.length - (RowKit.intOf y).toNat))
          case atStart => exact ⟨0, rfl, Nat.zero_le _, hrow6, hb6⟩
          case round =>
            clear hrow6 hb6 hW6
            obtain ⟨j, rfl, hj, hrw, hbw⟩ := hrel
            obtain ⟨sp7, cap7, rfl⟩ := row_form hrw
            have hbz := hbw.size
            have hfl := List.length_filter_le (fun y : Int => !(y == t2)) (L2.take j)
            rw [List.length_take] at hfl
            by_cases hjl : j < L2.length
            · have hji : (j : Int) < (L2.length : Int) := by omega
              obtain ⟨g2, o2, rfl, c20⟩ := HI5.out.at_ hbw hjl
              have HTS : Hid ((L2.take (j + 1)).filter (fun y => !(y == t2)) = (L2.take j).filter (fun y => !(y == t2)) ++ if L2[j] = t2 then [] else [L2[j]]) := by
                show List.filter _ _ = _
                rw [List.take_succ_eq_append_getElem hjl, List.filter_append, List.filter_cons, List.filter_nil]
                by_cases h : L2[j] = t2
                · simp [h]
                · have h' : (L2[j] == t2) = false := by simpa using h
                  simp [h, h']
              obtain ⟨y2, hy2⟩ : ∃ y2, L2[j] = y2 := ⟨_, rfl⟩
              simp only [hy2] at c20 HTS
              clear hy2
              obtain ⟨FL, hFL⟩ : ∃ FL, (L2.take j).filter (fun y => !(y == t2)) = FL := ⟨_, rfl⟩
              rw [hFL] at hrw HTS hfl ⊢
              clear hFL
              by_cases he2 : y2 = t2
              · have heb : (y2 != t2) = false := by simp [he2]
                rw [if_pos he2, List.append_nil] at HTS
                have HRW := Lib.hid hrw
                have HBW := Lib.hid hbw
                clear hrw hbw
                go_wp2_with fail
                go_roundw
                case rel => exact ⟨j + 1, by go_num, by omega, by rw [HTS.out]; exact HRW.out, HBW.out⟩
                case measure => simp [RowKit.intOf]; omega
              · have heb : (y2 != t2) = true := by simp [he2]
                rw [if_neg he2] at HTS
                have HRA := Lib.hid (hrw.alloc (.cells #[.int .i64 y2] 3))
                have HNw : Hid (∀ j u, ([.int .i64 y2] : List Value)[j]? = some u → (wr.alloc (.cells #[.int .i64 y2] 3)).cell? ((⟨wr.heap.size, 0, none⟩ : Addr).add j) = some u) := cell_one_new _ _ _
                have HOn : Hid (∀ u ∈ ([.int .i64 y2] : List Value), u.oneCell' = true) := fun u hu => by simp at hu; rcases hu with rfl; rfl
                have HRW := Lib.hid hrw
                have HBW := Lib.hid hbw
                clear hrw hbw
                go_wp2_with (at_builtin; refine wpList_append_own_at _ rfl _ _ 37 rfl w5.heap.size 3 i0 (.int .i64 0) 1 8 (by kernel_rfl) hi hz0 hz1 hz2 rfl (by decide) _ _ _ rfl HRA.out ⟨wr.heap.size, 0, none⟩ 1 1 [.int .i64 y2] rfl rfl HNw.out HOn.out (by show _ ≤ 2 ^ 63 - 1; omega) (by omega) (by simp; omega) ?_; intro v' w7 hown7 hgrow7 hnil7 hat7; clear hnil7 hat7; have HO7 := Lib.hid hown7; have HG7 := Lib.hid hgrow7; clear hown7 hgrow7)
                go_roundw
                case rel =>
                  refine ⟨j + 1, by go_num, by omega, ?_, ?_⟩
                  · rw [HTS.out, List.length_append, show ivs (FL ++ [y2]) = ivs FL ++ [.int .i64 y2] from by unfold ivs; rw [List.map_append]; rfl]
                    exact HO7.out
                  · exact Below.grown (HBW.out.alloc (by omega) _) HG7.out (by simp; omega) (fun k hk => (HRW.out.lt k hk).1)
                case measure => simp [RowKit.intOf]; omega
            · obtain rfl : j = L2.length := by omega
              have hjj : ¬ (L2.length : Int) < (L2.length : Int) := by omega
              rw [List.take_length] at hrw
              rw [List.take_length]
              obtain ⟨FL, hFL⟩ : ∃ FL, L2.filter (fun y => !(y == t2)) = FL := ⟨_, rfl⟩
              rw [hFL] at hrw HLD ⊢
              clear hFL
              have HRW := Lib.hid hrw
              have HBW := Lib.hid hbw
              clear hrw hbw
              go_wp2_with fail
              go_roundw
              case rel =>
                refine ⟨k2 + 1, F2, dropT t2 all2, by go_num, by omega, ?_⟩
                rw [HLD.out]
                exact (HS5.out.below (HBW.out.mono (Nat.le_refl _))).swap (row_mono HRW.out hz5) (fun b hb hF => by have h1 := (HRW.out.lt b hb).1; have h2 := HS5.out.flt b hF; omega)
              case measure => simp [RowKit.intOf]; omega
        · obtain rfl : k2 = ls.length := by omega
          have hkk2 : ¬ (ls.length : Int) < (ls.length : Int) := by omega
          have hnd := hst2.ra.nd
          have hflt := hst2.flt
          have HFL := Lib.hid hflt
          clear hflt
          have HWL := Lib.hid (wake_len hnd 9 0)
          have HWN := Lib.hid (wake_none hnd 9 0)
          have HLen := Lib.hid (Len_any _ _ _ _ _ _ hst2.ra)
          have HLis := Lib.hid (List_any _ _ _ _ _ _ 9 0 (by unfold i64; omega) (by unfold i64; omega) hst2.ra (by omega))
          have HS2 := Lib.hid hst2
          clear hst2 hnd
          go_wp2_with (first
            | (go_at_call 21; refine HLen.out.mono ?_; rintro e w9 ⟨rfl, hw9⟩; rw [hw9]; clear hw9 w9)
            | (go_at_call 23; refine HLis.out.mono ?_; rintro e w3 ⟨v3, rfl, hr3, hb3⟩; refine Hid.out ?_))
          refine Lib.hid ?_
          have hs3 := HS2.out.below hb3
          have HWk := Lib.hid (Wake_any _ _ _ _ _ _ 9 0 (by unfold i64; omega) (by unfold i64; omega) hs3.ra (by omega) hs3.flt)
          have HS3 := Lib.hid hs3
          have HR3 := Lib.hid hr3
          clear hs3 hr3 HLis HLen HS2
          go_wp2_with (go_at_call 16; refine HWk.out.mono ?_; rintro e w4 ⟨v4, rfl, hr4, hra4, hf4⟩; refine Hid.out ?_)
          refine Lib.hid ?_
          have hs4 := HS3.out.call2 hra4 hf4
          have hr3' : w4.ownsRow wr.heap.size 3 1 v3 (listA all2 9 0).length (ivs (listA all2 9 0)) := row_same HR3.out (fun k hk => hf4.same k (HR3.out.lt k hk).2 (fun hF => by have h1 := HFL.out k hF; have h2 := (HR3.out.lt k hk).1; omega))
          obtain ⟨sp3, cap3, rfl⟩ := row_form hr3'
          obtain ⟨sp4, cap4, rfl⟩ := row_form hr4
          have i2 := row_ints hs4.row
          have i3 := row_ints hr3'
          have i4 := row_ints hr4
          have HSa := Lib.hid (SameInts_any w4 sp4 sp2 cap4 cap2 (listA all2 9 0) (listA all2 9 0) i4 i2 (by omega))
          rw [show (listA all2 9 0 == listA all2 9 0) = true from by simp] at HSa
          have HI2 := Lib.hid i2
          have HI3 := Lib.hid i3
          have HS4 := Lib.hid hs4
          clear HS3 HR3 hr3' hr4 i2 i3 i4 hs4 hra4 hf4 HWk
          go_wp2_with (go_at_call 24; refine HSa.out.mono ?_; rintro e w6 ⟨rfl, hb6⟩; refine Hid.out ?_)
          refine Lib.hid ?_
          have HSb := Lib.hid (SameInts_any w6 sp3 sp2 cap3 cap2 (listA all2 9 0) (listA all2 9 0) (HI3.out.below hb6) (HI2.out.below hb6) (by omega))
          rw [show (listA all2 9 0 == listA all2 9 0) = true from by simp] at HSb
          have hs6 := HS4.out.below hb6
          have HS6 := Lib.hid hs6
          clear HSa HI2 HI3 HS4 hb6 hs6
          go_wp2_with (go_at_call 24; refine HSb.out.mono ?_; rintro e w7 ⟨rfl, hb7⟩; refine Hid.out ?_)
          refine Lib.hid ?_
          have hs7 := HS6.out.below hb7
          have HLen := Lib.hid (Len_any _ _ _ _ _ _ hs7.ra)
          have HWk := Lib.hid (Wake_any _ _ _ _ _ _ 9 0 (by unfold i64; omega) (by unfold i64; omega) hs7.ra (by omega) hs7.flt)
          have HS7 := Lib.hid hs7
          rw [HWN.out] at HWk
          have hsub : ((dropL (listA all2 9 0) all2).length : Int) = (all2.length : Int) - ((listA all2 9 0).length : Int) := by have := HWL.out; omega
          obtain ⟨n1, hn1⟩ : ∃ n1 : Int, (all2.length : Int) = n1 := ⟨_, rfl⟩
          obtain ⟨n2, hn2⟩ : ∃ n2 : Int, ((listA all2 9 0).length : Int) = n2 := ⟨_, rfl⟩
          rw [hsub, hn1, hn2] at HLen
          have hn1b : 0 ≤ n1 ∧ n1 ≤ 120 := by omega
          have hn2b : 0 ≤ n2 ∧ n2 ≤ 120 := by omega
          clear HSb HS6 hb7 hs7 hsub HWL HWN
          go_wp2_with (first
            | (go_at_call 21; refine HLen.out.mono ?_; rintro e w9 ⟨rfl, hw9⟩; rw [hw9]; clear hw9 w9)
            | (go_at_call 16; refine HWk.out.mono ?_; rintro e w8 ⟨v8, rfl, hr8, hra8, hf8⟩; obtain ⟨sp8, cap8, rfl⟩ := row_form hr8; have HS8 := Lib.hid (HS7.out.call2 hra8 hf8); clear hr8 hra8 hf8))
          go_ret
          exact ⟨rfl, HS8.out.bel⟩
end Go.Proofs.Ythknnmllibdggaa
