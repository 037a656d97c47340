/- An object that several containers link to is there until the last of them drops it. -/
import Derived.Test.YtlblfelfaopjiaaLinkR
import Derived.Deep.DeepCutAuto
namespace Go.Proofs.Ytlblfelfaopjiaa
open Go.RowKit Go.Sort
/-- The law's state in its loops. -/
structure LW (w wr : World) (base tb mb N : Nat) (S : Abs) (v : Value) (M : List Int) : Prop where
  ex : ∃ F, HAt wr base tb mb F N S ∧ Made wr w.heap.size v M F
  blw : Below w.heap.size w wr
def sliceLen : Value → Nat
  | .slice _ n _ => n
  | _ => 0
set_option maxRecDepth 100000 in
set_option maxHeartbeats 8000000 in
theorem HoldLinks_any (p : Option Addr) (cap : Nat) (bx : List Int) (p2 : Option Addr) (cap2 : Nat) (od : List Int) (q0 : Int) (w : World) (hbx : IntsAt w p bx) (hod : IntsAt w p2 od) :
    Calls Try.prog 7 #[.slice p bx.length cap, .slice p2 od.length cap2, .int .i64 q0] w fun e w' => e = .returned (.bool true) ∧ Below w.heap.size w w' := by
  have HL := Lib.hid (lives_any w)
  have HP := Lib.hid plain_any
  have HN := Lib.hid (fun W => newA 1 W (by decide))
  obtain ⟨m, hm, hmv⟩ := mod_num q0 1000 (by omega) (by omega)
  have hmv' : wrap64 ((IntKind.u64.wrap q0).tmod 1000) = (m : Int) := hmv
  clear hmv
  obtain ⟨nn, hnn⟩ : ∃ nn : Nat, min bx.length 12 = nn := ⟨_, rfl⟩
  have hnn12 : nn ≤ 12 := by omega
  have hnb : nn ≤ bx.length := by omega
  have hmi : min (bx.length : Int) 12 = (nn : Int) := by omega
  have HBX := Lib.hid hbx
  have HOD := Lib.hid hod
  clear hbx hod hnn
  go_enter Try.func7, Try.ntmps7
  go_wp2_with (first
    | (go_at_call 8; refine HL.out.mono ?_; rintro e w0 ⟨rfl, hb0⟩)
    | (go_at_call 28; refine (HP.out _).mono ?_; rintro e w1 ⟨rfl, hb1⟩)
    | (go_at_call 9; refine (HN.out _).mono ?_; rintro e w2 ⟨tb, mb, F2, rfl, hA2, hb2⟩; refine Hid.out ?_))
  refine Lib.hid ?_
  have B1 := hb0.trans (hb1.mono hb0.size)
  have B2 : Below w.heap.size w w2 := B1.trans (hb2.mono B1.size)
  have hbase : w.heap.size ≤ w1.heap.size := B1.size
  clear hb1 hb2 HN B1 hb0 HL
  generalize w1.heap.size = base at hA2 hbase
  go_upto_region 4 with fail
  go_cut [8] from 25 to 27 (fun v8 wx => v8 = .int .i64 nn ∧ wx = w2)
  case first =>
    clear hmv'
    by_cases hn3 : 12 < (bx.length : Int)
    · obtain rfl : nn = 12 := by omega
      go_wp2_with fail
      go_meet
      exact ⟨rfl, rfl⟩
    · obtain rfl : nn = bx.length := by omega
      have hn4 : (bx.length : Int) ≤ 12 := by omega
      go_wp2_with fail
      go_meet
      exact ⟨rfl, rfl⟩
  case rest =>
    obtain ⟨hv8, hwc⟩ := hcut
    subst hv8 hwc
    rename World => w2
    clear hmi
    obtain ⟨q, hq⟩ : ∃ q : Int, 1 + (m : Int) = q := ⟨_, rfl⟩
    have hqb : 1 ≤ q ∧ q ≤ 1000 := by omega
    go_wp2_with (first
      | (go_at_call 28; refine (HP.out _).mono ?_; rintro e w3 ⟨rfl, hb3⟩; refine Hid.out ?_))
    refine Lib.hid ?_
    have hA3 := hA2.below hb3
    have B3 := B2.trans (hb3.mono B2.size)
    have HM := Lib.hid (makeA hA3 1 500 1 5000 (root0 1 2 []) (by unfold i64; omega) (updS_at _ _ _) rfl (by omega) (by omega) (by decide) (by decide) (updS_ne _ _ (by decide)) (by omega) (by decide) (by decide) (by decide) (by decide))
    clear hq hmv' hm hb3 B2 hA2
    go_wp2_with (first
      | (go_at_call 20; refine HM.out.mono ?_; rintro e w4 ⟨rfl, F4, hA4, hF4⟩; refine Hid.out ?_))
    refine Lib.hid ?_
    have B4 := B3.trans ((hA3.belowF hF4).mono hbase)
    clear hA3 hF4 B3 HM
    go_wp2_with (first
      | (go_at_call 28; refine (HP.out _).mono ?_; rintro e w5 ⟨rfl, hb5⟩; refine Hid.out ?_))
    refine Lib.hid ?_
    have hA5 := hA4.below hb5
    have B5 := B4.trans (hb5.mono B4.size)
    have HM := Lib.hid (makeA hA5 500 600 2 q (newOb 500 1 5000 2 []) (by unfold i64; omega) (updS_at _ _ _) rfl (by omega) (by omega) (by decide) (by decide) (by rw [updS_ne _ _ (by decide), updS_ne _ _ (by decide)]; exact updS_ne _ _ (by decide)) (by omega) (by show q ≤ 5000 - 0; omega) (by decide) (by decide) (by decide))
    clear hb5 B4 hA4
    go_wp2_with (first
      | (go_at_call 20; refine HM.out.mono ?_; rintro e w6 ⟨rfl, F6, hA6, hF6⟩; refine Hid.out ?_))
    refine Lib.hid ?_
    have B6 := B5.trans ((hA5.belowF hF6).mono hbase)
    clear hA5 hF6 B5 HM
    have hS6 : updS (updS (updS (updS (updS (fun _ => none) 1 (root0 1 2 [])) 1 { root0 1 2 [] with used := (root0 1 2 []).used + 5000, ents := (root0 1 2 []).ents ++ [500] }) 500 (newOb 500 1 5000 2 [])) 500 { newOb 500 1 5000 2 [] with used := (newOb 500 1 5000 2 []).used + q, ents := (newOb 500 1 5000 2 []).ents ++ [600] }) 600 (newOb 600 2 q 2 []) = P1S q 0 := by
      rw [← P1S_zero q]
      congr 1
      funext x
      unfold updS
      split <;> rfl
    rw [hS6] at hA6
    clear hS6
    go_wp2_with fail
    have hW7 : Below w6.heap.size w6 (w6.alloc (.cells #[.int .i64 500] 3)) := (Below.refl _ _).alloc (Nat.le_refl _) _
    have hM7 : Made (w6.alloc (.cells #[.int .i64 500] 3)) w.heap.size (.slice (some ⟨w6.heap.size, 0, none⟩) 1 1) (boxes 0) F6 := by
      refine ⟨?_, fun k hk hf => ?_⟩
      · have := World.ownsRow_lit (base := w.heap.size) (e := 3) (size := 1) w6 #[.int .i64 500] 1 B6.size (by decide) rfl
        simpa [boxes, ivs] using this
      · have := (hA6.lt hf).2
        have e : w6.heap.size = k := by simpa [Value.ownBlock] using hk
        omega
    generalize (IntKind.u64.wrap q0).tmod 1000 = z30
    generalize IntKind.u64.wrap q0 = z29
    go_loopw [9, 10] (fun v i wr => ∃ k : Nat, k ≤ nn ∧ i = .int .i64 k ∧ LW w wr base tb mb (3 + k) (P1S q k) v (boxes k)) (fun _ i _ => nn - (intOf i).toNat)
    case atStart => exact ⟨0, by omega, rfl, ⟨F6, hA6.below hW7, hM7⟩, B6.trans (hW7.mono B6.size)⟩
    case round =>
      obtain ⟨k, hk, rfl, ⟨F, hA, hMd⟩, hB⟩ := hrel
      by_cases hlt : k < nn
      · have hki : (k : Int) < (nn : Int) := by omega
        have hk12 : k < 12 := by omega
        go_wp2_with (first
          | (go_at_call 28; refine (HP.out _).mono ?_; rintro e x1 ⟨rfl, hc1⟩; refine Hid.out ?_))
        refine Lib.hid ?_
        have hA1 := hA.below hc1
        have hM1 := hMd.below hc1
        have hB1 := hB.trans (hc1.mono hB.size)
        have HM := Lib.hid (makeA hA1 1 (10 + (k : Int)) 1 2000 _ (by unfold i64; omega) (P1S_one q k) rfl (by omega) (by omega) (by decide) (by unfold isCt; simp; omega) (P1S_none q k hk12) (by omega) (by show (2000 : Int) ≤ 1099511627776 - (5000 + 2000 * (k : Int)); omega) (by show (0 : Int) ≤ 5000 + 2000 * (k : Int); omega) (by show (1099511627776 : Int) ≤ 1099511627776; omega) (by show (boxes k).length < _; rw [boxes_len]; omega))
        clear hc1 hA hMd hB
        go_wp2_with (first
          | (go_at_call 20; refine HM.out.mono ?_; rintro e x2 ⟨rfl, G2, hA2, hF2⟩; refine Hid.out ?_))
        refine Lib.hid ?_
        have hB2 := hB1.trans ((hA1.belowF hF2).mono hbase)
        have hM2 := hM1.fm hF2
        have hA2 : HAt x2 base tb mb G2 (3 + k + 1) (P1A q k) := hA2
        have HK := Lib.hid (linkA hA2 (10 + (k : Int)) 600 _ _ (by unfold i64; omega) i600 (P1A_box q k) (P1A_600 q k hk12) (by omega) rfl rfl rfl (by show 0 < 1000000; omega) rfl (by show q ≤ 2000 - 0; omega) (by show (0 : Int) ≤ 0; omega) (by show (2000 : Int) ≤ 1099511627776; omega) (by show 0 ≤ q; omega) (by show 0 ≤ (k : Int) + 1 ∧ (k : Int) + 1 ≤ 1000000; omega))
        clear HM hA1 hF2 hM1 hB1
        go_wp2_with (first
          | (go_at_call 21; refine HK.out.mono ?_; rintro e x3 ⟨rfl, G3, hA3, hF3⟩; refine Hid.out ?_))
        refine Lib.hid ?_
        have hB3 := hB2.trans ((hA2.belowF hF3).mono hbase)
        have hM3 := hM2.fm hF3
        have hA3 : HAt x3 base tb mb G3 (3 + k + 1) (P1S q (k + 1)) := by rw [← P1S_step q k hk12]; exact hA3
        have HK := Lib.hid (link_arg hA3 (10 + (k : Int)) 600 ⟨10 + (k : Int), 1, 2000, q, 1, 2, [], [600]⟩ _ (by unfold i64; omega) i600 (by unfold P1S; rw [if_neg (by omega), if_neg (by omega), if_neg (by omega), if_pos (by omega)]) (P1S_600 q (k + 1)) rfl rfl (by show 1 < 1000000; omega) rfl)
        clear hA2 hF3 hM2 hB2
        go_wp2_with (first
          | (go_at_call 21; refine HK.out.mono ?_; rintro e x4 ⟨rfl, hc4⟩; refine Hid.out ?_))
        refine Lib.hid ?_
        have hA4 := hA3.below hc4
        have hM4 := hM3.below hc4
        have hB4 := hB3.trans (hc4.mono hB3.size)
        have hW5 : Below x4.heap.size x4 (x4.alloc (.cells #[.int .i64 (10 + (k : Int))] 3)) := (Below.refl _ _).alloc (Nat.le_refl _) _
        have HA5 := Lib.hid (hA4.below hW5)
        have HM5 := Lib.hid (hM4.below hW5)
        have HB5 := Lib.hid (hB4.trans (hW5.mono hB4.size))
        have HN5 := Lib.hid (cell_new x4 (10 + (k : Int)) x4.heap.size rfl)
        have hbl := boxes_len k
        have HBl := Lib.hid hbl
        have hz5 : w.heap.size ≤ (x4.alloc (.cells #[.int .i64 (10 + (k : Int))] 3)).heap.size := HB5.out.size
        clear HK hA3 hM3 hB3 hc4 hA4 hM4 hB4 hW5 hbl
        go_wp2_with (at_builtin; refine app_ivs rfl _ _ rfl w.heap.size u9 (boxes k) [10 + (k : Int)] ⟨x4.heap.size, 0, none⟩ 1 rfl HM5.out.own hz5 (by rw [HBl.out]; simp; omega) rfl HN5.out ?_; intro v' x6 hown6 hgrow6 hnew6; have HO6 := Lib.hid hown6; have HG6 := Lib.hid hgrow6; have HNw6 := Lib.hid hnew6; clear hown6 hgrow6 hnew6)
        go_roundw
        case rel =>
          have hB6 : Below w.heap.size w x6 := HB5.out.trans ⟨HG6.out.os, HG6.out.tape, HG6.out.output, HG6.out.size, fun j hj => HG6.out.block j (by omega) (fun e => by have := (HM5.out.own.lt j e.symm).1; omega)⟩
          refine ⟨k + 1, by omega, by go_num, ⟨G3, HA5.out.same (fun j hj => HG6.out.block j (HA5.out.lt hj).2 (fun e => HM5.out.off j e.symm hj)), ?_, fun j hj hf => ?_⟩, hB6⟩
          · rw [boxes_succ]; exact HO6.out
          · rcases HNw6.out j hj with e | e
            · exact HM5.out.off j e hf
            · have := (HA5.out.lt hf).2; omega
        case measure => simp [intOf]; omega
      · obtain rfl : k = nn := by omega
        have hki : ¬ (k : Int) < (k : Int) := by omega
        have hLk := P1S_lk q k hnn12
        go_wp2_with fail
        clear hlt hk
        go_loopw [9, 12] (fun v i wr => ∃ (j : Nat) (N : Nat) (S : Abs) (M : List Int), i = .int .i64 j ∧ N ≤ 20 ∧ Lk S q M ∧ j + M.length ≤ 13 ∧ LW w wr base tb mb N S v M) (fun v _ _ => sliceLen v)
        case atStart => exact ⟨0, 3 + k, P1S q k, boxes k, rfl, by omega, hLk, by rw [boxes_len]; omega, ⟨F, hA, hMd⟩, hB⟩
        case round =>
          clear hA6 B6 hW7 hM7 hA hMd hB hLk
          obtain ⟨j, N, S, M, rfl, hN, hLk, hjM, ⟨F, hA, hMd⟩, hB⟩ := hrel
          by_cases hM0 : 0 < M.length
          · obtain ⟨g9, c9, rfl⟩ : ∃ g c, u9 = .slice (some ⟨g, 0, none⟩) M.length c := by
              rcases hMd.own.2 with ⟨_, h0⟩ | ⟨g, c, _, hv, _⟩
              · omega
              · exact ⟨g, c, hv⟩
            have hMi : (0 : Int) < (M.length : Int) := by omega
            have hji : (j : Int) ≤ 13 := by omega
            have hM13 : M.length ≤ 13 := hLk.len
            have HOr := Lib.hid (HOD.out.below hB)
            have HLk := Lib.hid hLk
            have HA := Lib.hid hA
            have HMd := Lib.hid hMd
            have HB := Lib.hid hB
            clear hLk hA hMd hB
            go_upto_if 81 with fail
            go_cut [13] (fun kv wx => ∃ kk : Nat, kv = .int .i64 kk ∧ kk < M.length ∧ wx = wr)
            case first =>
              by_cases hio : j < od.length
              · have hioi : (j : Int) < (od.length : Int) := by omega
                have hiob : decide (j < od.length) = true := by simpa using hio
                obtain ⟨b, off, rfl, hbl, hc⟩ := HOr.out j hio
                have hw1 : IntKind.u64.wrap (M.length : Int) = (M.length : Int) := by rw [IntKind.wrap_u64]; omega
                obtain ⟨U, hU⟩ : ∃ U, IntKind.u64.wrap od[j] = U := ⟨_, rfl⟩
                have hw0 : 0 ≤ U := by rw [← hU, IntKind.wrap_u64]; omega
                have hne : ¬ ((M.length : Int) = 0) := by omega
                have hneb : ((M.length : Int) == 0) = false := by simpa using hne
                obtain ⟨Q, htm, hm2⟩ : ∃ Q : Nat, U.tmod (M.length : Int) = (Q : Int) ∧ Q < M.length := by
                  have h1 := Int.emod_nonneg U hne
                  have h2 := Int.emod_lt_of_pos U hMi
                  exact ⟨(U % (M.length : Int)).toNat, by rw [Int.tmod_eq_emod_of_nonneg hw0]; omega, by omega⟩
                have hw3 : wrap64 (Q : Int) = (Q : Int) := by unfold wrap64; omega
                clear HOr hw0 hne hji hN hjM hM13 HLk HA HMd HB HP HBX HOD hqb hnn12 hnb hbase
                go_wp2_with fail
                go_meet
                exact ⟨Q, by rw [hw3], hm2, rfl⟩
              · have hioi : ¬ (j : Int) < (od.length : Int) := by omega
                have hiob : decide (j < od.length) = false := by simpa using hio
                clear HOr
                go_wp2_with fail
                go_meet
                exact ⟨0, rfl, hM0, rfl⟩
            case rest =>
              obtain ⟨kk, rfl, hkk, hwc⟩ := hcut
              rw [hwc]
              clear hwc HOr
              have hki : (kk : Int) < (M.length : Int) := by omega
              obtain ⟨po, hpo, p1, p2, p3, p4, p5⟩ := HLk.out.seg (fun e => by rw [e] at hM0; simp at hM0)
              have HI := infoA HA.out 600 i600 po hpo p5
              rw [p1, p2, p3] at HI
              have HI1 := Lib.hid HI
              clear HI hpo p1 p2 p3 p4 p5
              go_wp2_with (first
                | (go_at_call 16; refine HI1.out.mono ?_; rintro e x1 ⟨sp1, cp1, rfl, hc1⟩; refine Hid.out ?_))
              refine Lib.hid ?_
              have HA1 := Lib.hid (HA.out.below hc1)
              have HMd1 := Lib.hid (HMd.out.below hc1)
              have HB1 := Lib.hid (HB.out.trans (hc1.mono HB.out.size))
              have hg9 := HMd1.out.own.lt g9 rfl
              have ck : x1.cell? ⟨g9, kk, none⟩ = some (.int .i64 M[kk]) := by
                rw [HMd1.out.own.cellAt kk (by omega)]; unfold ivs; rw [List.getElem?_map, List.getElem?_eq_getElem hkk]; rfl
              clear hc1 HA HMd HB HI1
              go_upto_region 26 with fail
              have hW7 : Below x1.heap.size x1 (x1.alloc (.cells #[.int .i64 po.id, .int .i64 2, .int .i64 q, .int .i64 po.used, .int .i64 (M.length : Int), .int .i64 po.df, .slice sp1 0 cp1] 44)) := (Below.refl _ _).alloc (Nat.le_refl _) _
              have HA7 := Lib.hid (HA1.out.below hW7)
              have HMd7 := Lib.hid (HMd1.out.below hW7)
              have HB7 := Lib.hid (HB1.out.trans (hW7.mono HB1.out.size))
              clear hW7 HA1 HMd1 HB1 ck hg9
              generalize (x1.alloc (.cells #[.int .i64 po.id, .int .i64 2, .int .i64 q, .int .i64 po.used, .int .i64 (M.length : Int), .int .i64 po.df, .slice sp1 0 cp1] 44)) = W7 at HA7 HMd7 HB7 ⊢
              have hown9 := HMd7.out.own
              have hg9r : g9 < W7.heap.size := (hown9.lt g9 rfl).2
              have hc9 : M.length ≤ c9 := by
                rcases hown9.2 with ⟨h', _⟩ | ⟨g', cap', cur, h', _, _, hc, _⟩
                · simp at h'
                · simp only [Value.slice.injEq, Option.some.injEq, Addr.mk.injEq, and_true, true_and] at h'
                  omega
              have hkc : kk ≤ c9 := by omega
              obtain ⟨AD, hAD⟩ : ∃ AD, (if c9 = kk + 1 then (⟨g9, 0, none⟩ : Addr) else ⟨g9, kk + 1, none⟩) = AD := ⟨_, rfl⟩
              have hcellL : ∀ W, Below W7.heap.size W7 W → ∀ j (h : j < M.length), W.cell? ⟨g9, j, none⟩ = some (.int .i64 M[j]) := fun W hW j h =>
                (hW.cell (p := ⟨g9, j, none⟩) hg9r).trans (by rw [hown9.cellAt j (by omega)]; unfold ivs; rw [List.getElem?_map, List.getElem?_eq_getElem h]; rfl)
              have hbA0 : Below W7.heap.size W7 (W7.drew.alloc (.cells #[] 3)) := (Below.refl W7.heap.size W7).drew.alloc (Nat.le_refl _) _
              have HAP1 : Hid (∃ v' w5, (Builtin.append_ #[38, 38] 38 #[.slice (some ⟨W7.heap.size, 0, none⟩) 0 0, .slice (some ⟨g9, 0, none⟩) kk c9]).run Try.prog (W7.drew.alloc (.cells #[] 3)) = .ok v' w5 ∧ w5.ownsRow W7.heap.size 3 1 v' (M.take kk).length (ivs (M.take kk)) ∧ Below W7.heap.size W7 w5) := by
                have hO0 : (W7.drew.alloc (.cells #[] 3)).ownsRow W7.heap.size 3 1 (.slice (some ⟨W7.heap.size, 0, none⟩) 0 0) ([] : List Int).length (ivs []) := World.ownsRow_lit (base := W7.heap.size) (e := 3) (size := 1) W7.drew #[] 0 (Nat.le_refl _) (by decide) rfl
                have hlk : (M.take kk).length = kk := by rw [List.length_take]; omega
                have := run_appI hO0 (by simp) (Y := M.take kk) (ad := ⟨g9, 0, none⟩) (c := c9) (by simp; omega) (fun j u hu => by
                  obtain ⟨hj, rfl⟩ := ivs_get hu
                  rw [hlk] at hj
                  rw [addr_plus, Nat.zero_add, hcellL _ hbA0 j (by omega), List.getElem_take])
                rw [hlk] at this ⊢
                obtain ⟨v', w5, h1, h2, h3⟩ := this
                simp only [List.nil_append, hlk] at h2
                exact ⟨v', w5, h1, h2, hbA0.trans h3⟩
              have HAP2 : Hid (∀ w' v, w'.ownsRow W7.heap.size 3 1 v (M.take kk).length (ivs (M.take kk)) → Below W7.heap.size W7 w' → ∃ v' w5, (Builtin.append_ #[38, 38] 38 #[v, .slice (some AD) (M.length - (kk + 1)) (c9 - (kk + 1))]).run Try.prog w' = .ok v' w5 ∧ w5.ownsRow W7.heap.size 3 1 v' (M.take kk ++ M.drop (kk + 1)).length (ivs (M.take kk ++ M.drop (kk + 1))) ∧ Below W7.heap.size W7 w5) := fun w' v hO hB => by
                have hlk : (M.drop (kk + 1)).length = M.length - (kk + 1) := by rw [List.length_drop]
                have := run_appI hO hB.size (Y := M.drop (kk + 1)) (ad := AD) (c := c9 - (kk + 1)) (by simp; omega) (fun j u hu => by
                  obtain ⟨hj, rfl⟩ := ivs_get hu
                  rw [hlk] at hj
                  rw [← hAD, if_neg (by omega), addr_plus, hcellL _ hB (kk + 1 + j) (by omega), List.getElem_drop])
                rw [hlk] at this
                obtain ⟨v', w5, h1, h2, h3⟩ := this
                exact ⟨v', w5, h1, h2, hB.trans h3⟩
              have hwk : IntKind.i64.wrap ((kk : Int) + 1) = (kk : Int) + 1 := by rw [IntKind.wrap_i64]; omega
              clear hcellL hown9 hbA0
              refine wp_region_inv (I := (fun li a' w' => ∃ (b0 b1 b2 b3 b4 b5 b6 b7 b8 b9 b10 : Bool) (t9 t116 t117 t118 t119 t120 t121 t122 t123 t124 t125 : Value), li = #[b0, b1, b2, b3, b4, b5, b6, b7, b8, b9, b10] ∧ a' = { tmps := #[.slice p bx.length cap, .slice p2 od.length cap2, .int .i64 q, undef, undef, undef, u6, .pointer (some ⟨tb, 0, none⟩), .int .i64 k, t9, .int .i64 k, u11, .int .i64 j, .int .i64 kk, .pointer (some ⟨x1.heap.size, 0, none⟩), .bool true, .int .i64 M[kk], u17, u18, undef, undef, .bool true, .bool false, .agg #[.int .i64 2, .slice none 0 0], .pointer (some ⟨tb, 0, none⟩), u25, u26, u27, .int .i64 q0, .int .u64 z29, .int .u64 z30, .int .i64 m, .int .i64 q, .pointer (some ⟨tb, 0, none⟩), .agg #[.int .i64 2, .slice none 0 0], .int .i64 0, .bool false, .bool false, .pointer (some ⟨tb, 0, none⟩), .int .i64 q, .agg #[.int .i64 2, .slice none 0 0], .int .i64 0, .bool false, .bool false, .slice (some ⟨w6.heap.size, 0, none⟩) 1 1, .int .i64 k, .int .i64 k, .bool false, u48, u49, u50, u51, u52, u53, u54, u55, u56, u57, u58, u59, u60, u61, u62, u63, u64, u65, u66, u67, u68, u69, u70, u71, u72, u73, u74, u75, u76, u77, u78, u79, u80, u81, u82, u83, u84, u85, u86, u87, u88, u89, u90, u91, .tuple #[.agg #[.int .i64 po.id, .int .i64 2, .int .i64 q, .int .i64 po.used, .int .i64 M.length, .int .i64 po.df, .slice sp1 0 cp1], .bool true], .pointer (some ⟨tb, 0, none⟩), .tuple #[.agg #[.int .i64 po.id, .int .i64 2, .int .i64 q, .int .i64 po.used, .int .i64 M.length, .int .i64 po.df, .slice sp1 0 cp1], .bool true], .agg #[.int .i64 po.id, .int .i64 2, .int .i64 q, .int .i64 po.used, .int .i64 M.length, .int .i64 po.df, .slice sp1 0 cp1], .bool true, .bool true, .bool false, .bool false, .pointer (some ⟨x1.heap.size, 4, none⟩), .int .i64 M.length, .slice (some ⟨g9, 0, none⟩) M.length c9, .int .i64 M.length, .bool false, .bool false, .bool false, .pointer (some ⟨x1.heap.size, 2, none⟩), .int .i64 q, .int .i64 q, .bool false, .bool false, .slice (some ⟨g9, 0, none⟩) M.length c9, .int .i64 kk, .pointer (some { block := g9, off := kk }), .int .i64 M[kk], t116, t117, t118, t119, t120, t121, t122, t123, t124, t125, u126, u127, u128, u129, u130, u131, u132, u133, u134, u135, u136, u137, u138, u139, u140, u141, u142, u143, u144, u145, u146, u147, u148, u149, u150, u151, u152, u153, u154, u155, u156, u157, u158, u159, undef, undef, undef, undef, undef, undef, undef], defers := [] } ∧ (b0 = true → t116 = .slice (some ⟨W7.heap.size, 0, none⟩) 0 0) ∧ (b1 = true → t117 = .slice (some ⟨g9, 0, none⟩) M.length c9) ∧ (b2 = true → t118 = .int .i64 (kk : Int)) ∧ (b3 = true → t119 = .slice (some ⟨g9, 0, none⟩) kk c9) ∧ (b5 = true → t121 = .slice (some ⟨g9, 0, none⟩) M.length c9) ∧ (b6 = true → t122 = .int .i64 (kk : Int)) ∧ (b7 = true → t123 = .int .i64 ((kk + 1 : Nat) : Int)) ∧ (b8 = true → t124 = .slice (some AD) (M.length - (kk + 1)) (c9 - (kk + 1))) ∧ (b10 = true → t9 = t125) ∧ (b10 = true → b9 = true) ∧ (b9 = true → b4 = true ∧ b8 = true) ∧ (b4 = true → b3 = true) ∧ (b3 = true → b1 = true) ∧ (b8 = true → b5 = true) ∧ (b10 = false → t9 = .slice (some ⟨g9, 0, none⟩) M.length c9) ∧ ((b0 = false ∧ b4 = false ∧ b9 = false ∧ w' = W7.drew) ∨ (b0 = true ∧ b4 = false ∧ b9 = false ∧ w' = (W7.drew.alloc (.cells #[] 3))) ∨ (b0 = true ∧ b4 = true ∧ b9 = false ∧ (w'.ownsRow W7.heap.size 3 1 t120 (M.take kk).length (ivs (M.take kk)) ∧ Below W7.heap.size W7 w')) ∨ (b0 = true ∧ b4 = true ∧ b9 = true ∧ (w'.ownsRow W7.heap.size 3 1 t125 (M.take kk ++ M.drop (kk + 1)).length (ivs (M.take kk ++ M.drop (kk + 1))) ∧ Below W7.heap.size W7 w'))))) (by kernel_rfl) ?step ?fin ⟨false, false, false, false, false, false, false, false, false, false, false, _, _, _, _, _, _, _, _, _, _, _, rfl, rfl, by simp, by simp, by simp, by simp, by simp, by simp, by simp, by simp, by simp, by simp, by simp, by simp, by simp, by simp, (fun _ => rfl), .inl ⟨rfl, rfl, rfl, rfl⟩⟩
              case step =>
                clear HA7 HMd7 HB7 HLk HOD HBX HP hN hjM hM13 hji hqb hnn12 hnb hbase hMi hM0 hki
                rintro li a' w' i' o' ⟨b0, b1, b2, b3, b4, b5, b6, b7, b8, b9, b10, t9, t116, t117, t118, t119, t120, t121, t122, t123, t124, t125, rfl, rfl, f0, f1, f2, f3, f5, f6, f7, f8, f10, y1, y2, y3, y4, y5, y6, hst⟩ hu ho hd
                have hi' : i' < 11 := (Array.getElem?_eq_some_iff.1 ho).1
                obtain rfl | rfl | rfl | rfl | rfl | rfl | rfl | rfl | rfl | rfl | rfl : i' = 0 ∨ i' = 1 ∨ i' = 2 ∨ i' = 3 ∨ i' = 4 ∨ i' = 5 ∨ i' = 6 ∨ i' = 7 ∨ i' = 8 ∨ i' = 9 ∨ i' = 10 := by omega
                · obtain rfl : _ = o' := Option.some.inj ho
                  have ui : b0 = false := hu
                  have hw' : w' = W7.drew ∧ b4 = false ∧ b9 = false := by
                    rcases hst with ⟨_, h1, h2, h⟩ | ⟨h, _⟩ | ⟨h, _⟩ | ⟨h, _⟩
                    · exact ⟨h, h1, h2⟩
                    · rw [ui] at h; cases h
                    · rw [ui] at h; cases h
                    · rw [ui] at h; cases h
                  obtain ⟨rfl, h4, h9⟩ := hw'
                  refine ⟨rfl, .inl ⟨.slice (some ⟨W7.heap.size, 0, none⟩) 0 0, (W7.drew.alloc (.cells #[] 3)), ?_, ⟨true, b1, b2, b3, b4, b5, b6, b7, b8, b9, b10, _, _, _, _, _, _, _, _, _, _, _, rfl, rfl, (fun _ => rfl), f1, f2, f3, f5, f6, f7, f8, f10, y1, y2, y3, y4, y5, y6, .inr (.inl ⟨rfl, h4, h9, rfl⟩)⟩⟩⟩
                  clear hst hu ho hd
                  go_simp
                · obtain rfl : _ = o' := Option.some.inj ho
                  have ui : b1 = false := hu
                  have hb10 : b10 = false := by
                    cases h : b10 with
                    | false => rfl
                    | true => have h2 := y4 (y3 (y2 (y1 h)).1); rw [ui] at h2; cases h2
                  have g5' := y6 hb10
                  refine ⟨rfl, .inl ⟨.slice (some ⟨g9, 0, none⟩) M.length c9, w', ?_, ⟨b0, true, b2, b3, b4, b5, b6, b7, b8, b9, b10, _, _, _, _, _, _, _, _, _, _, _, rfl, rfl, f0, (fun _ => rfl), f2, f3, f5, f6, f7, f8, f10, y1, y2, y3, (fun _ => rfl), y5, y6, hst⟩⟩⟩
                  rw [g5']
                  clear hst hu ho hd
                  go_simp
                · obtain rfl : _ = o' := Option.some.inj ho
                  have ui : b2 = false := hu
                  refine ⟨rfl, .inl ⟨.int .i64 (kk : Int), w', ?_, ⟨b0, b1, true, b3, b4, b5, b6, b7, b8, b9, b10, _, _, _, _, _, _, _, _, _, _, _, rfl, rfl, f0, f1, (fun _ => rfl), f3, f5, f6, f7, f8, f10, y1, y2, y3, y4, y5, y6, hst⟩⟩⟩
                  clear hst hu ho hd
                  go_simp
                · obtain rfl : _ = o' := Option.some.inj ho
                  have ui : b3 = false := hu
                  have e1 : b1 = true := hd ⟨1, .data⟩ (by simp) rfl
                  have g1 := f1 e1
                  subst g1
                  have e2 : b2 = true := hd ⟨2, .data⟩ (by simp) rfl
                  have g2 := f2 e2
                  subst g2
                  exact ⟨rfl, .inl ⟨_, w', exec_hiI rfl rfl rfl hkc w', ⟨b0, b1, b2, true, b4, b5, b6, b7, b8, b9, b10, _, _, _, _, _, _, _, _, _, _, _, rfl, rfl, f0, f1, f2, (fun _ => rfl), f5, f6, f7, f8, f10, y1, y2, (fun _ => rfl), (fun _ => e1), y5, y6, hst⟩⟩⟩
                · obtain rfl : _ = o' := Option.some.inj ho
                  have ui : b4 = false := hu
                  have e0 : b0 = true := hd ⟨0, .data⟩ (by simp) rfl
                  have g0 := f0 e0
                  subst g0
                  have e3 : b3 = true := hd ⟨3, .data⟩ (by simp) rfl
                  have g3 := f3 e3
                  subst g3
                  have hw' : w' = (W7.drew.alloc (.cells #[] 3)) ∧ b9 = false := by
                    rcases hst with ⟨h, _⟩ | ⟨_, _, h9, h⟩ | ⟨_, h, _⟩ | ⟨_, h, _⟩
                    · rw [e0] at h; cases h
                    · exact ⟨h, h9⟩
                    · rw [ui] at h; cases h
                    · rw [ui] at h; cases h
                  obtain ⟨rfl, h9⟩ := hw'
                  obtain ⟨v', w5, hrun, ho5, hb5⟩ := HAP1.out
                  exact ⟨rfl, .inl ⟨v', w5, exec_appI rfl rfl rfl hrun, ⟨b0, b1, b2, b3, true, b5, b6, b7, b8, b9, b10, _, _, _, _, _, _, _, _, _, _, _, rfl, rfl, f0, f1, f2, f3, f5, f6, f7, f8, f10, y1, (fun h => ⟨rfl, (y2 h).2⟩), (fun _ => e3), y4, y5, y6, .inr (.inr (.inl ⟨e0, rfl, h9, ho5, hb5⟩))⟩⟩⟩
                · obtain rfl : _ = o' := Option.some.inj ho
                  have ui : b5 = false := hu
                  have hb10 : b10 = false := by
                    cases h : b10 with
                    | false => rfl
                    | true => have h2 := y5 (y2 (y1 h)).2; rw [ui] at h2; cases h2
                  have g5' := y6 hb10
                  refine ⟨rfl, .inl ⟨.slice (some ⟨g9, 0, none⟩) M.length c9, w', ?_, ⟨b0, b1, b2, b3, b4, true, b6, b7, b8, b9, b10, _, _, _, _, _, _, _, _, _, _, _, rfl, rfl, f0, f1, f2, f3, (fun _ => rfl), f6, f7, f8, f10, y1, y2, y3, y4, (fun _ => rfl), y6, hst⟩⟩⟩
                  rw [g5']
                  clear hst hu ho hd
                  go_simp
                · obtain rfl : _ = o' := Option.some.inj ho
                  have ui : b6 = false := hu
                  refine ⟨rfl, .inl ⟨.int .i64 (kk : Int), w', ?_, ⟨b0, b1, b2, b3, b4, b5, true, b7, b8, b9, b10, _, _, _, _, _, _, _, _, _, _, _, rfl, rfl, f0, f1, f2, f3, f5, (fun _ => rfl), f7, f8, f10, y1, y2, y3, y4, y5, y6, hst⟩⟩⟩
                  clear hst hu ho hd
                  go_simp
                · obtain rfl : _ = o' := Option.some.inj ho
                  have ui : b7 = false := hu
                  have e6 : b6 = true := hd ⟨6, .data⟩ (by simp) rfl
                  have g6 := f6 e6
                  subst g6
                  refine ⟨rfl, .inl ⟨.int .i64 ((kk + 1 : Nat) : Int), w', ?_, ⟨b0, b1, b2, b3, b4, b5, b6, true, b8, b9, b10, _, _, _, _, _, _, _, _, _, _, _, rfl, rfl, f0, f1, f2, f3, f5, f6, (fun _ => rfl), f8, f10, y1, y2, y3, y4, y5, y6, hst⟩⟩⟩
                  clear hst hu ho hd
                  go_simp
                · obtain rfl : _ = o' := Option.some.inj ho
                  have ui : b8 = false := hu
                  have e5 : b5 = true := hd ⟨5, .data⟩ (by simp) rfl
                  have g9 := f5 e5
                  subst g9
                  have e7 : b7 = true := hd ⟨7, .data⟩ (by simp) rfl
                  have g7 := f7 e7
                  subst g7
                  exact ⟨rfl, .inl ⟨_, w', exec_loI hAD rfl rfl rfl hkk w', ⟨b0, b1, b2, b3, b4, b5, b6, b7, true, b9, b10, _, _, _, _, _, _, _, _, _, _, _, rfl, rfl, f0, f1, f2, f3, f5, f6, f7, (fun _ => rfl), f10, y1, (fun h => ⟨(y2 h).1, rfl⟩), y3, y4, (fun _ => e5), y6, hst⟩⟩⟩
                · obtain rfl : _ = o' := Option.some.inj ho
                  have ui : b9 = false := hu
                  have e4 : b4 = true := hd ⟨4, .data⟩ (by simp) rfl
                  have e8 : b8 = true := hd ⟨8, .data⟩ (by simp) rfl
                  have g8 := f8 e8
                  subst g8
                  have hw' : b0 = true ∧ (w'.ownsRow W7.heap.size 3 1 t120 (M.take kk).length (ivs (M.take kk)) ∧ Below W7.heap.size W7 w') := by
                    rcases hst with ⟨_, h, _⟩ | ⟨_, h, _⟩ | ⟨h0, _, _, h⟩ | ⟨_, _, h, _⟩
                    · rw [e4] at h; cases h
                    · rw [e4] at h; cases h
                    · exact ⟨h0, h⟩
                    · rw [ui] at h; cases h
                  obtain ⟨h0, hoA, hbA⟩ := hw'
                  obtain ⟨v', w5, hrun, ho5, hb5⟩ := HAP2.out w' t120 hoA hbA
                  exact ⟨rfl, .inl ⟨v', w5, exec_appI rfl rfl rfl hrun, ⟨b0, b1, b2, b3, b4, b5, b6, b7, b8, true, b10, _, _, _, _, _, _, _, _, _, _, _, rfl, rfl, f0, f1, f2, f3, f5, f6, f7, f8, (fun h => by rw [y1 h] at ui; cases ui), (fun _ => rfl), (fun _ => ⟨e4, e8⟩), y3, y4, y5, y6, .inr (.inr (.inr ⟨h0, e4, rfl, ho5, hb5⟩))⟩⟩⟩
                · obtain rfl : _ = o' := Option.some.inj ho
                  have ui : b10 = false := hu
                  have e9 : b9 = true := hd ⟨9, .data⟩ (by simp) rfl
                  refine ⟨rfl, .inl ⟨t125, w', ?_, ⟨b0, b1, b2, b3, b4, b5, b6, b7, b8, b9, true, _, _, _, _, _, _, _, _, _, _, _, rfl, rfl, f0, f1, f2, f3, f5, f6, f7, f8, (fun _ => rfl), (fun _ => e9), y2, y3, y4, y5, (fun h => by cases h), hst⟩⟩⟩
                  clear hst hu ho hd
                  go_simp
            
              case fin =>
                rintro li a' w' ⟨b0, b1, b2, b3, b4, b5, b6, b7, b8, b9, b10, t9, t116, t117, t118, t119, t120, t121, t122, t123, t124, t125, rfl, rfl, f0, f1, f2, f3, f5, f6, f7, f8, f10, y1, y2, y3, y4, y5, y6, hst⟩ hrd
                have hall := ready_nil_all (by kernel_rfl) rfl hrd 10
                have e9 : b9 = true := hall 9 (by omega) (by decide)
                have g10 := f10 (hall 10 (by omega) (by decide))
                have hO : (w'.ownsRow W7.heap.size 3 1 t125 (M.take kk ++ M.drop (kk + 1)).length (ivs (M.take kk ++ M.drop (kk + 1))) ∧ Below W7.heap.size W7 w') := by
                  rcases hst with ⟨_, _, h, _⟩ | ⟨_, _, h, _⟩ | ⟨_, _, h, _⟩ | ⟨_, _, _, h⟩
                  · rw [e9] at h; cases h
                  · rw [e9] at h; cases h
                  · rw [e9] at h; cases h
                  · exact h
                clear hst f0 f1 f2 f3 f5 f6 f7 f8 f10 y1 y2 y3 y4 y5 y6 hall hrd e9
                rw [g10]
                clear g10
                obtain ⟨hoL, hbL⟩ := hO
                obtain ⟨A, hA'⟩ : ∃ A, M.take kk = A := ⟨_, rfl⟩
                obtain ⟨B, hB'⟩ : ∃ B, M.drop (kk + 1) = B := ⟨_, rfl⟩
                obtain ⟨ii, hii'⟩ : ∃ ii, M[kk] = ii := ⟨_, rfl⟩
                have hMAB : M = A ++ ii :: B := by rw [← hA', ← hB', ← hii', ← List.drop_eq_getElem_cons hkk, List.take_append_drop]
                rw [hA', hB'] at hoL
                rw [hii']
                have hLkM := HLk.out
                rw [hMAB] at hLkM
                have HLk2 := Lib.hid hLkM
                have hids := hLkM.ids ii (by simp)
                have hii : i64 ii := by unfold i64; omega
                have hMl : M.length = (A ++ B).length + 1 := by rw [hMAB]; simp; omega
                obtain ⟨sp8, cp8, hv8⟩ := row_form hoL
                obtain ⟨nl, hnl⟩ : ∃ nl, (A ++ B).length = nl := ⟨_, rfl⟩
                rw [hnl] at hv8 hMl
                have HNl := Lib.hid hnl
                have hnl12 : nl ≤ 12 := by omega
                have HA8 := Lib.hid (HA7.out.below hbL)
                have HMd8 : Hid (Made w' w.heap.size t125 (A ++ B) F) := ⟨row_mono hoL HB7.out.size, fun k9 hk9 hf => by have := (hoL.lt k9 hk9).1; have := (HA7.out.lt hf).2; omega⟩
                have HB8 := Lib.hid (HB7.out.trans (hbL.mono HB7.out.size))
                have HBx8 := Lib.hid (HBX.out.below HB8.out)
                subst hv8
                clear hoL hbL HA7 HMd7 HB7 hA' hB' hii' hLkM HLk hMAB hnl
                by_cases hjb : j < bx.length
                · have hjbi : (j : Int) < (bx.length : Int) := by omega
                  have hjbb : decide (j < bx.length) = true := by simpa using hjb
                  obtain ⟨b, off, hpb, hbl, hcb⟩ := HBx8.out j hjb
                  subst hpb
                  obtain ⟨bj, hbj⟩ : ∃ bj, bx[j] = bj := ⟨_, rfl⟩
                  rw [hbj] at hcb
                  clear hbj HBx8 HBX
                  by_cases hpar : bj.tmod 2 = 0
                  · skip
                    by_cases hAB : A ++ B = []
                    · obtain ⟨ob, pb, S2, g2, d1, d2, d3, d4, d5, d6, hLk2, hg2⟩ := HLk2.out.drop600
                      have HD := Lib.hid (dropA HA8.out ii 600 ob pb hii i600 d1 d4 (by omega) d2 d3 HLk2.out.good (by omega) d5 1 S2 g2 d6)
                      have HLk3 := Lib.hid hLk2
                      rw [if_pos hAB] at hg2
                      obtain rfl : nl = 0 := by rw [← HNl.out, hAB]; rfl
                      have hgl : g2.length ≤ 2 := by rw [hg2]; simp
                      have hgd : decide (g2.getLast? = some 600) = true := by rw [hg2]; rfl
                      clear d1 d2 d3 d4 d5 d6 hLk2 hg2
                      go_wp2_with (first
                        | (go_at_call 22; refine HD.out.mono ?_; rintro e y2 ⟨gv, F2, N2, rfl, hA2, hrow2, hcnt2, hsub2, hF2⟩; obtain ⟨sp2, cpg, hgv⟩ := row_form hrow2; subst hgv; refine Hid.out ?_))
                      refine Lib.hid ?_
                      have HLa := last_any _ _ g2 600 y2 hrow2 (by omega)
                      rw [hgd] at HLa
                      have HLa1 := Lib.hid HLa
                      have HA9 := Lib.hid hA2
                      have HF9 := Lib.hid hF2
                      have hN2 : N2 ≤ 20 := by omega
                      clear HLa hgd hA2 hF2 hrow2 hsub2 hcnt2 HD
                      go_wp2_with (first
                        | (go_at_call 29; refine HLa1.out.mono ?_; rintro e y3 ⟨rfl, hy3⟩; rw [hy3]; clear hy3 y3))
                      go_roundw
                      case rel => exact ⟨j + 1, N2, S2, A ++ B, by go_num, hN2, HLk3.out, by rw [HNl.out]; omega, ⟨F2, HA9.out, HMd8.out.fm HF9.out⟩, HB8.out.trans ((HA8.out.belowF HF9.out).mono hbase)⟩
                      case measure => simp [sliceLen]; omega
                    · obtain ⟨ob, pb, S2, g2, d1, d2, d3, d4, d5, d6, hLk2, hg2⟩ := HLk2.out.drop600
                      have HD := Lib.hid (dropA HA8.out ii 600 ob pb hii i600 d1 d4 (by omega) d2 d3 HLk2.out.good (by omega) d5 1 S2 g2 d6)
                      have HLk3 := Lib.hid hLk2
                      rw [if_neg hAB] at hg2
                      have hlen0 : 0 < nl := by rw [← HNl.out]; exact List.length_pos_iff.2 hAB
                      have hlenb : ¬ ((nl : Int) = 0) := by omega
                      have hgl : g2.length ≤ 2 := by rw [hg2]; simp
                      have hgd : decide (g2.getLast? = some 600) = false := by rw [hg2]; rfl
                      clear d1 d2 d3 d4 d5 d6 hLk2 hg2
                      go_wp2_with (first
                        | (go_at_call 22; refine HD.out.mono ?_; rintro e y2 ⟨gv, F2, N2, rfl, hA2, hrow2, hcnt2, hsub2, hF2⟩; obtain ⟨sp2, cpg, hgv⟩ := row_form hrow2; subst hgv; refine Hid.out ?_))
                      refine Lib.hid ?_
                      have HLa := last_any _ _ g2 600 y2 hrow2 (by omega)
                      rw [hgd] at HLa
                      have HLa1 := Lib.hid HLa
                      have HA9 := Lib.hid hA2
                      have HF9 := Lib.hid hF2
                      have hN2 : N2 ≤ 20 := by omega
                      clear HLa hgd hA2 hF2 hrow2 hsub2 hcnt2 HD
                      go_wp2_with (first
                        | (go_at_call 29; refine HLa1.out.mono ?_; rintro e y3 ⟨rfl, hy3⟩; rw [hy3]; clear hy3 y3))
                      go_roundw
                      case rel => exact ⟨j + 1, N2, S2, A ++ B, by go_num, hN2, HLk3.out, by rw [HNl.out]; omega, ⟨F2, HA9.out, HMd8.out.fm HF9.out⟩, HB8.out.trans ((HA8.out.belowF HF9.out).mono hbase)⟩
                      case measure => simp [sliceLen]; omega
                  · have hparb : ¬ (bj.tmod 2 = 0) := hpar
                    by_cases hAB : A ++ B = []
                    · obtain ⟨ob, pb, S2, g2, d1, d2, d3, d4, d5, d6, hLk2, hg2⟩ := HLk2.out.dropBox
                      have HD := Lib.hid (dropA HA8.out 1 ii ob pb (by unfold i64; omega) hii d1 d4 (by omega) d2 d3 HLk2.out.good (by omega) d5 2 S2 g2 d6)
                      have HLk3 := Lib.hid hLk2
                      rw [if_pos hAB] at hg2
                      obtain rfl : nl = 0 := by rw [← HNl.out, hAB]; rfl
                      have hgl : g2.length ≤ 2 := by rw [hg2]; simp
                      have hgd : decide (g2.getLast? = some 600) = true := by rw [hg2]; rfl
                      clear d1 d2 d3 d4 d5 d6 hLk2 hg2
                      go_wp2_with (first
                        | (go_at_call 22; refine HD.out.mono ?_; rintro e y2 ⟨gv, F2, N2, rfl, hA2, hrow2, hcnt2, hsub2, hF2⟩; obtain ⟨sp2, cpg, hgv⟩ := row_form hrow2; subst hgv; refine Hid.out ?_))
                      refine Lib.hid ?_
                      have HLa := last_any _ _ g2 600 y2 hrow2 (by omega)
                      rw [hgd] at HLa
                      have HLa1 := Lib.hid HLa
                      have HA9 := Lib.hid hA2
                      have HF9 := Lib.hid hF2
                      have hN2 : N2 ≤ 20 := by omega
                      clear HLa hgd hA2 hF2 hrow2 hsub2 hcnt2 HD
                      go_wp2_with (first
                        | (go_at_call 29; refine HLa1.out.mono ?_; rintro e y3 ⟨rfl, hy3⟩; rw [hy3]; clear hy3 y3))
                      go_roundw
                      case rel => exact ⟨j + 1, N2, S2, A ++ B, by go_num, hN2, HLk3.out, by rw [HNl.out]; omega, ⟨F2, HA9.out, HMd8.out.fm HF9.out⟩, HB8.out.trans ((HA8.out.belowF HF9.out).mono hbase)⟩
                      case measure => simp [sliceLen]; omega
                    · obtain ⟨ob, pb, S2, g2, d1, d2, d3, d4, d5, d6, hLk2, hg2⟩ := HLk2.out.dropBox
                      have HD := Lib.hid (dropA HA8.out 1 ii ob pb (by unfold i64; omega) hii d1 d4 (by omega) d2 d3 HLk2.out.good (by omega) d5 2 S2 g2 d6)
                      have HLk3 := Lib.hid hLk2
                      rw [if_neg hAB] at hg2
                      have hlen0 : 0 < nl := by rw [← HNl.out]; exact List.length_pos_iff.2 hAB
                      have hlenb : ¬ ((nl : Int) = 0) := by omega
                      have hgl : g2.length ≤ 2 := by rw [hg2]; simp
                      have hgd : decide (g2.getLast? = some 600) = false := by rw [hg2]; simp; omega
                      clear d1 d2 d3 d4 d5 d6 hLk2 hg2
                      go_wp2_with (first
                        | (go_at_call 22; refine HD.out.mono ?_; rintro e y2 ⟨gv, F2, N2, rfl, hA2, hrow2, hcnt2, hsub2, hF2⟩; obtain ⟨sp2, cpg, hgv⟩ := row_form hrow2; subst hgv; refine Hid.out ?_))
                      refine Lib.hid ?_
                      have HLa := last_any _ _ g2 600 y2 hrow2 (by omega)
                      rw [hgd] at HLa
                      have HLa1 := Lib.hid HLa
                      have HA9 := Lib.hid hA2
                      have HF9 := Lib.hid hF2
                      have hN2 : N2 ≤ 20 := by omega
                      clear HLa hgd hA2 hF2 hrow2 hsub2 hcnt2 HD
                      go_wp2_with (first
                        | (go_at_call 29; refine HLa1.out.mono ?_; rintro e y3 ⟨rfl, hy3⟩; rw [hy3]; clear hy3 y3))
                      go_roundw
                      case rel => exact ⟨j + 1, N2, S2, A ++ B, by go_num, hN2, HLk3.out, by rw [HNl.out]; omega, ⟨F2, HA9.out, HMd8.out.fm HF9.out⟩, HB8.out.trans ((HA8.out.belowF HF9.out).mono hbase)⟩
                      case measure => simp [sliceLen]; omega
                · have hjbi : ¬ (j : Int) < (bx.length : Int) := by omega
                  have hjbb : decide (j < bx.length) = false := by simpa using hjb
                  clear HBx8
                  by_cases hAB : A ++ B = []
                  · obtain ⟨ob, pb, S2, g2, d1, d2, d3, d4, d5, d6, hLk2, hg2⟩ := HLk2.out.dropBox
                    have HD := Lib.hid (dropA HA8.out 1 ii ob pb (by unfold i64; omega) hii d1 d4 (by omega) d2 d3 HLk2.out.good (by omega) d5 2 S2 g2 d6)
                    have HLk3 := Lib.hid hLk2
                    rw [if_pos hAB] at hg2
                    obtain rfl : nl = 0 := by rw [← HNl.out, hAB]; rfl
                    have hgl : g2.length ≤ 2 := by rw [hg2]; simp
                    have hgd : decide (g2.getLast? = some 600) = true := by rw [hg2]; rfl
                    clear d1 d2 d3 d4 d5 d6 hLk2 hg2
                    go_wp2_with (first
                      | (go_at_call 22; refine HD.out.mono ?_; rintro e y2 ⟨gv, F2, N2, rfl, hA2, hrow2, hcnt2, hsub2, hF2⟩; obtain ⟨sp2, cpg, hgv⟩ := row_form hrow2; subst hgv; refine Hid.out ?_))
                    refine Lib.hid ?_
                    have HLa := last_any _ _ g2 600 y2 hrow2 (by omega)
                    rw [hgd] at HLa
                    have HLa1 := Lib.hid HLa
                    have HA9 := Lib.hid hA2
                    have HF9 := Lib.hid hF2
                    have hN2 : N2 ≤ 20 := by omega
                    clear HLa hgd hA2 hF2 hrow2 hsub2 hcnt2 HD
                    go_wp2_with (first
                      | (go_at_call 29; refine HLa1.out.mono ?_; rintro e y3 ⟨rfl, hy3⟩; rw [hy3]; clear hy3 y3))
                    go_roundw
                    case rel => exact ⟨j + 1, N2, S2, A ++ B, by go_num, hN2, HLk3.out, by rw [HNl.out]; omega, ⟨F2, HA9.out, HMd8.out.fm HF9.out⟩, HB8.out.trans ((HA8.out.belowF HF9.out).mono hbase)⟩
                    case measure => simp [sliceLen]; omega
                  · obtain ⟨ob, pb, S2, g2, d1, d2, d3, d4, d5, d6, hLk2, hg2⟩ := HLk2.out.dropBox
                    have HD := Lib.hid (dropA HA8.out 1 ii ob pb (by unfold i64; omega) hii d1 d4 (by omega) d2 d3 HLk2.out.good (by omega) d5 2 S2 g2 d6)
                    have HLk3 := Lib.hid hLk2
                    rw [if_neg hAB] at hg2
                    have hlen0 : 0 < nl := by rw [← HNl.out]; exact List.length_pos_iff.2 hAB
                    have hlenb : ¬ ((nl : Int) = 0) := by omega
                    have hgl : g2.length ≤ 2 := by rw [hg2]; simp
                    have hgd : decide (g2.getLast? = some 600) = false := by rw [hg2]; simp; omega
                    clear d1 d2 d3 d4 d5 d6 hLk2 hg2
                    go_wp2_with (first
                      | (go_at_call 22; refine HD.out.mono ?_; rintro e y2 ⟨gv, F2, N2, rfl, hA2, hrow2, hcnt2, hsub2, hF2⟩; obtain ⟨sp2, cpg, hgv⟩ := row_form hrow2; subst hgv; refine Hid.out ?_))
                    refine Lib.hid ?_
                    have HLa := last_any _ _ g2 600 y2 hrow2 (by omega)
                    rw [hgd] at HLa
                    have HLa1 := Lib.hid HLa
                    have HA9 := Lib.hid hA2
                    have HF9 := Lib.hid hF2
                    have hN2 : N2 ≤ 20 := by omega
                    clear HLa hgd hA2 hF2 hrow2 hsub2 hcnt2 HD
                    go_wp2_with (first
                      | (go_at_call 29; refine HLa1.out.mono ?_; rintro e y3 ⟨rfl, hy3⟩; rw [hy3]; clear hy3 y3))
                    go_roundw
                    case rel => exact ⟨j + 1, N2, S2, A ++ B, by go_num, hN2, HLk3.out, by rw [HNl.out]; omega, ⟨F2, HA9.out, HMd8.out.fm HF9.out⟩, HB8.out.trans ((HA8.out.belowF HF9.out).mono hbase)⟩
                    case measure => simp [sliceLen]; omega
          · obtain rfl : M = [] := List.length_eq_zero_iff.1 (by omega)
            have hS := hLk.gone rfl
            have HI := Lib.hid (infoN hA 600 i600 hS)
            have hu9 : sliceLen u9 = 0 ∧ ∃ sp c, u9 = .slice sp 0 c := by
              obtain ⟨sp, c, e⟩ := row_form hMd.own
              exact ⟨by rw [e]; rfl, sp, c, e⟩
            obtain ⟨_, sp, c, rfl⟩ := hu9
            have HB := Lib.hid hB
            clear hLk hA hMd hB hS
            go_wp2_with (first
              | (go_at_call 16; refine HI.out.mono ?_; rintro e x1 ⟨rfl, hc1⟩; refine Hid.out ?_))
            refine Lib.hid ?_
            have HB1 := HB.out.trans (hc1.mono HB.out.size)
            go_wp2_with fail
            go_ret
            exact ⟨rfl, HB1.alloc HB1.size _⟩
end Go.Proofs.Ytlblfelfaopjiaa
