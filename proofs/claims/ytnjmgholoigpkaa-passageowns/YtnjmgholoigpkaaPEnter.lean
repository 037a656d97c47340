/- What Enter of package passage answers. -/
import Derived.Test.YtnjmgholoigpkaaPMake
namespace Go.Proofs.Ytnjmgholoigpkaa
open Go.RowKit Go.Sort
theorem ent_passage_floor : Enters 46 := fun args W => by go_simp
def enterI (t c g gc want wc : ML) : Int := if plainS want.1 want.2 = true then (if freeS wc.1 wc.2 = true then allowI [atMB t [gc], undB (fl t g) (gr [want]) (namL [t, g, want]), atMB want [wc], atMB wc [c, gc]] else 1) else 1
set_option maxRecDepth 100000 in
set_option maxHeartbeats 1000000 in
theorem Enter_c {t c g gc want wc : ML} {vt vc vg vgc vwant vwc : Value} {w : World} (ht : LV t vt w) (hc : LV c vc w) (hg : LV g vg w) (hgc : LV gc vgc w) (hwant : LV want vwant w) (hwc : LV wc vwc w) :
    Calls Try.prog 25 #[vt, vc, vg, vgc, vwant, vwc] w fun e w' => ∃ v', e = .returned v' ∧ Below w.heap.size w w' ∧ v' = .int .i64 (enterI t c g gc want wc) := by
  obtain ⟨pt, ct, rfl, ht1, ht2, ht3⟩ := id ht
  obtain ⟨pc, cc, rfl, hc1, hc2, hc3⟩ := id hc
  obtain ⟨pg, cg, rfl, hg1, hg2, hg3⟩ := id hg
  obtain ⟨pgc, cgc, rfl, hgc1, hgc2, hgc3⟩ := id hgc
  obtain ⟨pwant, cwant, rfl, hwant1, hwant2, hwant3⟩ := id hwant
  obtain ⟨pwc, cwc, rfl, hwc1, hwc2, hwc3⟩ := id hwc
  have hA : Below w.heap.size w ((((((w.alloc (.cells #[.int .i64 t.1, .slice pt t.2.length ct] 24)).alloc (.cells #[.int .i64 c.1, .slice pc c.2.length cc] 24)).alloc (.cells #[.int .i64 g.1, .slice pg g.2.length cg] 24)).alloc (.cells #[.int .i64 gc.1, .slice pgc gc.2.length cgc] 24)).alloc (.cells #[.int .i64 want.1, .slice pwant want.2.length cwant] 24)).alloc (.cells #[.int .i64 wc.1, .slice pwc wc.2.length cwc] 24)) := by go_grown
  have hbt : LBox t ((((((w.alloc (.cells #[.int .i64 t.1, .slice pt t.2.length ct] 24)).alloc (.cells #[.int .i64 c.1, .slice pc c.2.length cc] 24)).alloc (.cells #[.int .i64 g.1, .slice pg g.2.length cg] 24)).alloc (.cells #[.int .i64 gc.1, .slice pgc gc.2.length cgc] 24)).alloc (.cells #[.int .i64 want.1, .slice pwant want.2.length cwant] 24)).alloc (.cells #[.int .i64 wc.1, .slice pwc wc.2.length cwc] 24)) w.heap.size 0 := ⟨pt, ct, by simp <;> omega, by simp [go_sem], by simp [go_sem], ht1.below hA, ht2, ht3⟩
  have hbc : LBox c ((((((w.alloc (.cells #[.int .i64 t.1, .slice pt t.2.length ct] 24)).alloc (.cells #[.int .i64 c.1, .slice pc c.2.length cc] 24)).alloc (.cells #[.int .i64 g.1, .slice pg g.2.length cg] 24)).alloc (.cells #[.int .i64 gc.1, .slice pgc gc.2.length cgc] 24)).alloc (.cells #[.int .i64 want.1, .slice pwant want.2.length cwant] 24)).alloc (.cells #[.int .i64 wc.1, .slice pwc wc.2.length cwc] 24)) (w.heap.size + 1) 0 := ⟨pc, cc, by simp <;> omega, by simp [go_sem], by simp [go_sem], hc1.below hA, hc2, hc3⟩
  have hbg : LBox g ((((((w.alloc (.cells #[.int .i64 t.1, .slice pt t.2.length ct] 24)).alloc (.cells #[.int .i64 c.1, .slice pc c.2.length cc] 24)).alloc (.cells #[.int .i64 g.1, .slice pg g.2.length cg] 24)).alloc (.cells #[.int .i64 gc.1, .slice pgc gc.2.length cgc] 24)).alloc (.cells #[.int .i64 want.1, .slice pwant want.2.length cwant] 24)).alloc (.cells #[.int .i64 wc.1, .slice pwc wc.2.length cwc] 24)) (w.heap.size + 1 + 1) 0 := ⟨pg, cg, by simp <;> omega, by simp [go_sem], by simp [go_sem], hg1.below hA, hg2, hg3⟩
  have hbgc : LBox gc ((((((w.alloc (.cells #[.int .i64 t.1, .slice pt t.2.length ct] 24)).alloc (.cells #[.int .i64 c.1, .slice pc c.2.length cc] 24)).alloc (.cells #[.int .i64 g.1, .slice pg g.2.length cg] 24)).alloc (.cells #[.int .i64 gc.1, .slice pgc gc.2.length cgc] 24)).alloc (.cells #[.int .i64 want.1, .slice pwant want.2.length cwant] 24)).alloc (.cells #[.int .i64 wc.1, .slice pwc wc.2.length cwc] 24)) (w.heap.size + 1 + 1 + 1) 0 := ⟨pgc, cgc, by simp <;> omega, by simp [go_sem], by simp [go_sem], hgc1.below hA, hgc2, hgc3⟩
  have hbwant : LBox want ((((((w.alloc (.cells #[.int .i64 t.1, .slice pt t.2.length ct] 24)).alloc (.cells #[.int .i64 c.1, .slice pc c.2.length cc] 24)).alloc (.cells #[.int .i64 g.1, .slice pg g.2.length cg] 24)).alloc (.cells #[.int .i64 gc.1, .slice pgc gc.2.length cgc] 24)).alloc (.cells #[.int .i64 want.1, .slice pwant want.2.length cwant] 24)).alloc (.cells #[.int .i64 wc.1, .slice pwc wc.2.length cwc] 24)) (w.heap.size + 1 + 1 + 1 + 1) 0 := ⟨pwant, cwant, by simp <;> omega, by simp [go_sem], by simp [go_sem], hwant1.below hA, hwant2, hwant3⟩
  have hbwc : LBox wc ((((((w.alloc (.cells #[.int .i64 t.1, .slice pt t.2.length ct] 24)).alloc (.cells #[.int .i64 c.1, .slice pc c.2.length cc] 24)).alloc (.cells #[.int .i64 g.1, .slice pg g.2.length cg] 24)).alloc (.cells #[.int .i64 gc.1, .slice pgc gc.2.length cgc] 24)).alloc (.cells #[.int .i64 want.1, .slice pwant want.2.length cwant] 24)).alloc (.cells #[.int .i64 wc.1, .slice pwc wc.2.length cwc] 24)) (w.heap.size + 1 + 1 + 1 + 1 + 1) 0 := ⟨pwc, cwc, by simp <;> omega, by simp [go_sem], by simp [go_sem], hwc1.below hA, hwc2, hwc3⟩
  have HP := Lib.hid (Plain_c (hwant.below hA))
  have HF : Hid (∀ W, Below w.heap.size w W → _) := fun W hW => Free_c (hwc.below hW)
  obtain ⟨x0, hx0⟩ : ∃ b, plainS want.1 want.2 = b := ⟨_, rfl⟩
  rw [hx0] at HP
  have HX := Lib.hid hx0
  obtain ⟨x1, hx1⟩ : ∃ b, freeS wc.1 wc.2 = b := ⟨_, rfl⟩
  simp only [hx1] at HF
  have HY := Lib.hid hx1
  clear hx0 hx1
  have hlen : (namL [t, g, want]).length < 1000000 := by
    have := namL_len [t, g, want] (fun x hx => by
      simp only [List.mem_cons, List.not_mem_nil, or_false] at hx
      rcases hx with rfl | rfl | rfl <;> assumption)
    simp at this
    omega
  cases x0 with
  | true =>
    cases x1 with
    | true =>
      go_enter Try.func25, Try.ntmps25
      go_wp2_with (first | (go_at_call 40; refine HP.out.mono ?_; rintro e w1 ⟨_, rfl, hb1, rfl⟩; have hAB : Below w.heap.size w w1 := hA.trans (hb1.mono hA.size); have bwc0 : w1.cell? ⟨w.heap.size + 1 + 1 + 1 + 1 + 1, 0, none⟩ = some (.int .i64 wc.1) := (hb1.cell (p := ⟨w.heap.size + 1 + 1 + 1 + 1 + 1, 0, none⟩) (by simp <;> omega)).trans (by simp [go_sem]); have bwc1 : w1.cell? ⟨w.heap.size + 1 + 1 + 1 + 1 + 1, 1, none⟩ = some (.slice pwc wc.2.length cwc) := (hb1.cell (p := ⟨w.heap.size + 1 + 1 + 1 + 1 + 1, 1, none⟩) (by simp <;> omega)).trans (by simp [go_sem])) | (go_at_call 41; refine (HF.out w1 hAB).mono ?_; rintro e w2 ⟨_, rfl, hb2, rfl⟩))
      have hAC : Below w.heap.size w w2 := hAB.trans (hb2.mono hAB.size)
      have hct := (hbt.below hb1).below hb2
      have hcc := (hbc.below hb1).below hb2
      have hcg := (hbg.below hb1).below hb2
      have hcgc := (hbgc.below hb1).below hb2
      have hcwant := (hbwant.below hb1).below hb2
      have hcwc := (hbwc.below hb1).below hb2
      refine wp_region_mono 27 (fun k v W => match k with | 21 => LV t v W | 22 => LV gc v W | 23 => LsV [gc] v W | 24 => v = .bool (atMB t [gc]) | 25 => LV t v W | 26 => LV g v W | 27 => Lev (fl t g) v W | 28 => LV want v W | 29 => LsV [want] v W | 30 => Lev (gr [want]) v W | 31 => LV t v W | 32 => LV g v W | 33 => LV want v W | 34 => LsV [t, g, want] v W | 35 => IV (namL [t, g, want]) v W | 36 => v = .bool (undB (fl t g) (gr [want]) (namL [t, g, want])) | 37 => LV want v W | 38 => LV wc v W | 39 => LsV [wc] v W | 40 => v = .bool (atMB want [wc]) | 41 => LV wc v W | 42 => LV c v W | 43 => LV gc v W | 44 => LsV [c, gc] v W | 45 => v = .bool (atMB wc [c, gc]) | 46 => BsV [(atMB t [gc]), (undB (fl t g) (gr [want]) (namL [t, g, want])), (atMB want [wc]), (atMB wc [c, gc])] v W | 47 => v = .int .i64 (allowI [(atMB t [gc]), (undB (fl t g) (gr [want]) (namL [t, g, want])), (atMB want [wc]), (atMB wc [c, gc])]) | _ => True) (by kernel_rfl) (by kernel_rfl) (by kernel_rfl) (by kernel_rfl) (by simp) (by kernel_rfl) ?_ ?_ ?_
      · intro k v W W' h hb
        revert h
        try dsimp only
        split
        · intro h; exact LV.below h hb
        · intro h; exact LV.below h hb
        · intro h; exact LsV.below h hb
        · intro h; exact h
        · intro h; exact LV.below h hb
        · intro h; exact LV.below h hb
        · intro h; exact Lev.below h hb
        · intro h; exact LV.below h hb
        · intro h; exact LsV.below h hb
        · intro h; exact Lev.below h hb
        · intro h; exact LV.below h hb
        · intro h; exact LV.below h hb
        · intro h; exact LV.below h hb
        · intro h; exact LsV.below h hb
        · intro h; exact IV.below h hb
        · intro h; exact h
        · intro h; exact LV.below h hb
        · intro h; exact LV.below h hb
        · intro h; exact LsV.below h hb
        · intro h; exact h
        · intro h; exact LV.below h hb
        · intro h; exact LV.below h hb
        · intro h; exact LV.below h hb
        · intro h; exact LsV.below h hb
        · intro h; exact h
        · intro h; exact BsV.below h hb
        · intro h; exact h
        · intro h; trivial
      · intro a' W hB hs hk i o d ho hd hG
        match i, ho with
        | 0, ho =>
          obtain rfl : _ = o := Option.some.inj ho
          obtain rfl : 21 = d := Option.some.inj hd
          obtain ⟨v, hr, hv⟩ := run_loadL (ev := a'.eval) (W := W) (hk 6 (by kernel_rfl)) (hct.below hB)
          exact .inr ⟨rfl, .inl ⟨v, W, hr, Below.refl _ _, hv⟩⟩
        | 1, ho =>
          obtain rfl : _ = o := Option.some.inj ho
          obtain rfl : 22 = d := Option.some.inj hd
          obtain ⟨v, hr, hv⟩ := run_loadL (ev := a'.eval) (W := W) (hk 9 (by kernel_rfl)) (hcgc.below hB)
          exact .inr ⟨rfl, .inl ⟨v, W, hr, Below.refl _ _, hv⟩⟩
        | 2, ho =>
          obtain rfl : _ = o := Option.some.inj ho
          obtain rfl : 23 = d := Option.some.inj hd
          have g22 : LV gc (a'.eval (.tmp 22)) W := hG ⟨1, .data⟩ (by simp) rfl 22 rfl
          obtain ⟨v, W', hr, hb, hv⟩ := run_slice1 (ev := a'.eval) (W := W) rfl g22
          exact .inr ⟨rfl, .inl ⟨v, W', hr, hb, hv⟩⟩
        | 3, ho =>
          obtain rfl : _ = o := Option.some.inj ho
          obtain rfl : 24 = d := Option.some.inj hd
          have g21 : LV t (a'.eval (.tmp 21)) W := hG ⟨0, .data⟩ (by simp) rfl 21 rfl
          have g23 : LsV [gc] (a'.eval (.tmp 23)) W := hG ⟨2, .data⟩ (by simp) rfl 23 rfl
          exact .inr ⟨rfl, .inr ⟨_, _, run_call rfl map_2 ent_passage_atMost, atMost_c g21 g23 (by simp)⟩⟩
        | 4, ho =>
          obtain rfl : _ = o := Option.some.inj ho
          obtain rfl : 25 = d := Option.some.inj hd
          obtain ⟨v, hr, hv⟩ := run_loadL (ev := a'.eval) (W := W) (hk 6 (by kernel_rfl)) (hct.below hB)
          exact .inr ⟨rfl, .inl ⟨v, W, hr, Below.refl _ _, hv⟩⟩
        | 5, ho =>
          obtain rfl : _ = o := Option.some.inj ho
          obtain rfl : 26 = d := Option.some.inj hd
          obtain ⟨v, hr, hv⟩ := run_loadL (ev := a'.eval) (W := W) (hk 8 (by kernel_rfl)) (hcg.below hB)
          exact .inr ⟨rfl, .inl ⟨v, W, hr, Below.refl _ _, hv⟩⟩
        | 6, ho =>
          obtain rfl : _ = o := Option.some.inj ho
          obtain rfl : 27 = d := Option.some.inj hd
          have g25 : LV t (a'.eval (.tmp 25)) W := hG ⟨4, .data⟩ (by simp) rfl 25 rfl
          have g26 : LV g (a'.eval (.tmp 26)) W := hG ⟨5, .data⟩ (by simp) rfl 26 rfl
          exact .inr ⟨rfl, .inr ⟨_, _, run_call rfl map_2 ent_passage_floor, floor_c g25 g26⟩⟩
        | 7, ho =>
          obtain rfl : _ = o := Option.some.inj ho
          obtain rfl : 28 = d := Option.some.inj hd
          obtain ⟨v, hr, hv⟩ := run_loadL (ev := a'.eval) (W := W) (hk 10 (by kernel_rfl)) (hcwant.below hB)
          exact .inr ⟨rfl, .inl ⟨v, W, hr, Below.refl _ _, hv⟩⟩
        | 8, ho =>
          obtain rfl : _ = o := Option.some.inj ho
          obtain rfl : 29 = d := Option.some.inj hd
          have g28 : LV want (a'.eval (.tmp 28)) W := hG ⟨7, .data⟩ (by simp) rfl 28 rfl
          obtain ⟨v, W', hr, hb, hv⟩ := run_slice1 (ev := a'.eval) (W := W) rfl g28
          exact .inr ⟨rfl, .inl ⟨v, W', hr, hb, hv⟩⟩
        | 9, ho =>
          obtain rfl : _ = o := Option.some.inj ho
          obtain rfl : 30 = d := Option.some.inj hd
          have g29 : LsV [want] (a'.eval (.tmp 29)) W := hG ⟨8, .data⟩ (by simp) rfl 29 rfl
          exact .inr ⟨rfl, .inr ⟨_, _, run_call rfl map_1 ent_passage_greatest, greatest_c g29 (by simp)⟩⟩
        | 10, ho =>
          obtain rfl : _ = o := Option.some.inj ho
          obtain rfl : 31 = d := Option.some.inj hd
          obtain ⟨v, hr, hv⟩ := run_loadL (ev := a'.eval) (W := W) (hk 6 (by kernel_rfl)) (hct.below hB)
          exact .inr ⟨rfl, .inl ⟨v, W, hr, Below.refl _ _, hv⟩⟩
        | 11, ho =>
          obtain rfl : _ = o := Option.some.inj ho
          obtain rfl : 32 = d := Option.some.inj hd
          obtain ⟨v, hr, hv⟩ := run_loadL (ev := a'.eval) (W := W) (hk 8 (by kernel_rfl)) (hcg.below hB)
          exact .inr ⟨rfl, .inl ⟨v, W, hr, Below.refl _ _, hv⟩⟩
        | 12, ho =>
          obtain rfl : _ = o := Option.some.inj ho
          obtain rfl : 33 = d := Option.some.inj hd
          obtain ⟨v, hr, hv⟩ := run_loadL (ev := a'.eval) (W := W) (hk 10 (by kernel_rfl)) (hcwant.below hB)
          exact .inr ⟨rfl, .inl ⟨v, W, hr, Below.refl _ _, hv⟩⟩
        | 13, ho =>
          obtain rfl : _ = o := Option.some.inj ho
          obtain rfl : 34 = d := Option.some.inj hd
          have g31 : LV t (a'.eval (.tmp 31)) W := hG ⟨10, .data⟩ (by simp) rfl 31 rfl
          have g32 : LV g (a'.eval (.tmp 32)) W := hG ⟨11, .data⟩ (by simp) rfl 32 rfl
          have g33 : LV want (a'.eval (.tmp 33)) W := hG ⟨12, .data⟩ (by simp) rfl 33 rfl
          obtain ⟨v, W', hr, hb, hv⟩ := run_slice3 (ev := a'.eval) (W := W) rfl rfl rfl g31 g32 g33
          exact .inr ⟨rfl, .inl ⟨v, W', hr, hb, hv⟩⟩
        | 14, ho =>
          obtain rfl : _ = o := Option.some.inj ho
          obtain rfl : 35 = d := Option.some.inj hd
          have g34 : LsV [t, g, want] (a'.eval (.tmp 34)) W := hG ⟨13, .data⟩ (by simp) rfl 34 rfl
          exact .inr ⟨rfl, .inr ⟨_, _, run_call rfl map_1 ent_passage_named, named_c g34 (by simp)⟩⟩
        | 15, ho =>
          obtain rfl : _ = o := Option.some.inj ho
          obtain rfl : 36 = d := Option.some.inj hd
          have g27 : Lev (fl t g) (a'.eval (.tmp 27)) W := hG ⟨6, .data⟩ (by simp) rfl 27 rfl
          have g30 : Lev (gr [want]) (a'.eval (.tmp 30)) W := hG ⟨9, .data⟩ (by simp) rfl 30 rfl
          have g35 : IV (namL [t, g, want]) (a'.eval (.tmp 35)) W := hG ⟨14, .data⟩ (by simp) rfl 35 rfl
          exact .inr ⟨rfl, .inr ⟨_, _, run_call rfl map_3 ent_passage_under, under_c g27 g30 g35 hlen⟩⟩
        | 16, ho =>
          obtain rfl : _ = o := Option.some.inj ho
          obtain rfl : 37 = d := Option.some.inj hd
          obtain ⟨v, hr, hv⟩ := run_loadL (ev := a'.eval) (W := W) (hk 10 (by kernel_rfl)) (hcwant.below hB)
          exact .inr ⟨rfl, .inl ⟨v, W, hr, Below.refl _ _, hv⟩⟩
        | 17, ho =>
          obtain rfl : _ = o := Option.some.inj ho
          obtain rfl : 38 = d := Option.some.inj hd
          obtain ⟨v, hr, hv⟩ := run_loadL (ev := a'.eval) (W := W) (hk 11 (by kernel_rfl)) (hcwc.below hB)
          exact .inr ⟨rfl, .inl ⟨v, W, hr, Below.refl _ _, hv⟩⟩
        | 18, ho =>
          obtain rfl : _ = o := Option.some.inj ho
          obtain rfl : 39 = d := Option.some.inj hd
          have g38 : LV wc (a'.eval (.tmp 38)) W := hG ⟨17, .data⟩ (by simp) rfl 38 rfl
          obtain ⟨v, W', hr, hb, hv⟩ := run_slice1 (ev := a'.eval) (W := W) rfl g38
          exact .inr ⟨rfl, .inl ⟨v, W', hr, hb, hv⟩⟩
        | 19, ho =>
          obtain rfl : _ = o := Option.some.inj ho
          obtain rfl : 40 = d := Option.some.inj hd
          have g37 : LV want (a'.eval (.tmp 37)) W := hG ⟨16, .data⟩ (by simp) rfl 37 rfl
          have g39 : LsV [wc] (a'.eval (.tmp 39)) W := hG ⟨18, .data⟩ (by simp) rfl 39 rfl
          exact .inr ⟨rfl, .inr ⟨_, _, run_call rfl map_2 ent_passage_atMost, atMost_c g37 g39 (by simp)⟩⟩
        | 20, ho =>
          obtain rfl : _ = o := Option.some.inj ho
          obtain rfl : 41 = d := Option.some.inj hd
          obtain ⟨v, hr, hv⟩ := run_loadL (ev := a'.eval) (W := W) (hk 11 (by kernel_rfl)) (hcwc.below hB)
          exact .inr ⟨rfl, .inl ⟨v, W, hr, Below.refl _ _, hv⟩⟩
        | 21, ho =>
          obtain rfl : _ = o := Option.some.inj ho
          obtain rfl : 42 = d := Option.some.inj hd
          obtain ⟨v, hr, hv⟩ := run_loadL (ev := a'.eval) (W := W) (hk 7 (by kernel_rfl)) (hcc.below hB)
          exact .inr ⟨rfl, .inl ⟨v, W, hr, Below.refl _ _, hv⟩⟩
        | 22, ho =>
          obtain rfl : _ = o := Option.some.inj ho
          obtain rfl : 43 = d := Option.some.inj hd
          obtain ⟨v, hr, hv⟩ := run_loadL (ev := a'.eval) (W := W) (hk 9 (by kernel_rfl)) (hcgc.below hB)
          exact .inr ⟨rfl, .inl ⟨v, W, hr, Below.refl _ _, hv⟩⟩
        | 23, ho =>
          obtain rfl : _ = o := Option.some.inj ho
          obtain rfl : 44 = d := Option.some.inj hd
          have g42 : LV c (a'.eval (.tmp 42)) W := hG ⟨21, .data⟩ (by simp) rfl 42 rfl
          have g43 : LV gc (a'.eval (.tmp 43)) W := hG ⟨22, .data⟩ (by simp) rfl 43 rfl
          obtain ⟨v, W', hr, hb, hv⟩ := run_slice2 (ev := a'.eval) (W := W) rfl rfl g42 g43
          exact .inr ⟨rfl, .inl ⟨v, W', hr, hb, hv⟩⟩
        | 24, ho =>
          obtain rfl : _ = o := Option.some.inj ho
          obtain rfl : 45 = d := Option.some.inj hd
          have g41 : LV wc (a'.eval (.tmp 41)) W := hG ⟨20, .data⟩ (by simp) rfl 41 rfl
          have g44 : LsV [c, gc] (a'.eval (.tmp 44)) W := hG ⟨23, .data⟩ (by simp) rfl 44 rfl
          exact .inr ⟨rfl, .inr ⟨_, _, run_call rfl map_2 ent_passage_atMost, atMost_c g41 g44 (by simp)⟩⟩
        | 25, ho =>
          obtain rfl : _ = o := Option.some.inj ho
          obtain rfl : 46 = d := Option.some.inj hd
          have g24 : (a'.eval (.tmp 24)) = .bool (atMB t [gc]) := hG ⟨3, .data⟩ (by simp) rfl 24 rfl
          have g36 : (a'.eval (.tmp 36)) = .bool (undB (fl t g) (gr [want]) (namL [t, g, want])) := hG ⟨15, .data⟩ (by simp) rfl 36 rfl
          have g40 : (a'.eval (.tmp 40)) = .bool (atMB want [wc]) := hG ⟨19, .data⟩ (by simp) rfl 40 rfl
          have g45 : (a'.eval (.tmp 45)) = .bool (atMB wc [c, gc]) := hG ⟨24, .data⟩ (by simp) rfl 45 rfl
          obtain ⟨v, W', hr, hb, hv⟩ := run_bools4 (ev := a'.eval) (W := W) g24 g36 g40 g45
          exact .inr ⟨rfl, .inl ⟨v, W', hr, hb, hv⟩⟩
        | 26, ho =>
          obtain rfl : _ = o := Option.some.inj ho
          obtain rfl : 47 = d := Option.some.inj hd
          have g46 : BsV [(atMB t [gc]), (undB (fl t g) (gr [want]) (namL [t, g, want])), (atMB want [wc]), (atMB wc [c, gc])] (a'.eval (.tmp 46)) W := hG ⟨25, .data⟩ (by simp) rfl 46 rfl
          exact .inr ⟨rfl, .inr ⟨_, _, run_call rfl map_1 ent_passage_allow, allow_c g46 (by simp)⟩⟩
        | j + 27, ho => simp at ho
      · intro a' W hB hs hdf hk hG
        obtain ⟨tm, df⟩ := a'
        obtain rfl : df = [] := hdf
        have e0 : tm.getD 0 undef = .agg #[.int .i64 t.fst, .slice pt t.snd.length ct] := hk 0 (by kernel_rfl)
        have e1 : tm.getD 1 undef = .agg #[.int .i64 c.fst, .slice pc c.snd.length cc] := hk 1 (by kernel_rfl)
        have e2 : tm.getD 2 undef = .agg #[.int .i64 g.fst, .slice pg g.snd.length cg] := hk 2 (by kernel_rfl)
        have e3 : tm.getD 3 undef = .agg #[.int .i64 gc.fst, .slice pgc gc.snd.length cgc] := hk 3 (by kernel_rfl)
        have e4 : tm.getD 4 undef = .agg #[.int .i64 want.fst, .slice pwant want.snd.length cwant] := hk 4 (by kernel_rfl)
        have e5 : tm.getD 5 undef = .agg #[.int .i64 wc.fst, .slice pwc wc.snd.length cwc] := hk 5 (by kernel_rfl)
        have e6 : tm.getD 6 undef = .pointer (some ⟨w.heap.size, 0, none⟩) := hk 6 (by kernel_rfl)
        have e7 : tm.getD 7 undef = .pointer (some ⟨w.heap.size + 1, 0, none⟩) := hk 7 (by kernel_rfl)
        have e8 : tm.getD 8 undef = .pointer (some ⟨w.heap.size + 1 + 1, 0, none⟩) := hk 8 (by kernel_rfl)
        have e9 : tm.getD 9 undef = .pointer (some ⟨w.heap.size + 1 + 1 + 1, 0, none⟩) := hk 9 (by kernel_rfl)
        have e10 : tm.getD 10 undef = .pointer (some ⟨w.heap.size + 1 + 1 + 1 + 1, 0, none⟩) := hk 10 (by kernel_rfl)
        have e11 : tm.getD 11 undef = .pointer (some ⟨w.heap.size + 1 + 1 + 1 + 1 + 1, 0, none⟩) := hk 11 (by kernel_rfl)
        have e12 : tm.getD 12 undef = .int .i64 0 := hk 12 (by kernel_rfl)
        have e13 : tm.getD 13 undef = .agg #[.int .i64 want.fst, .slice pwant want.snd.length cwant] := hk 13 (by kernel_rfl)
        have e14 : tm.getD 14 undef = .bool true := hk 14 (by kernel_rfl)
        have e15 : tm.getD 15 undef = .bool false := hk 15 (by kernel_rfl)
        have e16 : tm.getD 16 undef = .bool false := hk 16 (by kernel_rfl)
        have e17 : tm.getD 17 undef = .agg #[.int .i64 wc.fst, .slice pwc wc.snd.length cwc] := hk 17 (by kernel_rfl)
        have e18 : tm.getD 18 undef = .bool true := hk 18 (by kernel_rfl)
        have e19 : tm.getD 19 undef = .bool false := hk 19 (by kernel_rfl)
        have e20 : tm.getD 20 undef = .bool false := hk 20 (by kernel_rfl)
        have g21 : LV t (tm.getD 21 undef) W := hG 0 21 (by decide) rfl
        have g22 : LV gc (tm.getD 22 undef) W := hG 1 22 (by decide) rfl
        have g23 : LsV [gc] (tm.getD 23 undef) W := hG 2 23 (by decide) rfl
        have g24 : (tm.getD 24 undef) = .bool (atMB t [gc]) := hG 3 24 (by decide) rfl
        have g25 : LV t (tm.getD 25 undef) W := hG 4 25 (by decide) rfl
        have g26 : LV g (tm.getD 26 undef) W := hG 5 26 (by decide) rfl
        have g27 : Lev (fl t g) (tm.getD 27 undef) W := hG 6 27 (by decide) rfl
        have g28 : LV want (tm.getD 28 undef) W := hG 7 28 (by decide) rfl
        have g29 : LsV [want] (tm.getD 29 undef) W := hG 8 29 (by decide) rfl
        have g30 : Lev (gr [want]) (tm.getD 30 undef) W := hG 9 30 (by decide) rfl
        have g31 : LV t (tm.getD 31 undef) W := hG 10 31 (by decide) rfl
        have g32 : LV g (tm.getD 32 undef) W := hG 11 32 (by decide) rfl
        have g33 : LV want (tm.getD 33 undef) W := hG 12 33 (by decide) rfl
        have g34 : LsV [t, g, want] (tm.getD 34 undef) W := hG 13 34 (by decide) rfl
        have g35 : IV (namL [t, g, want]) (tm.getD 35 undef) W := hG 14 35 (by decide) rfl
        have g36 : (tm.getD 36 undef) = .bool (undB (fl t g) (gr [want]) (namL [t, g, want])) := hG 15 36 (by decide) rfl
        have g37 : LV want (tm.getD 37 undef) W := hG 16 37 (by decide) rfl
        have g38 : LV wc (tm.getD 38 undef) W := hG 17 38 (by decide) rfl
        have g39 : LsV [wc] (tm.getD 39 undef) W := hG 18 39 (by decide) rfl
        have g40 : (tm.getD 40 undef) = .bool (atMB want [wc]) := hG 19 40 (by decide) rfl
        have g41 : LV wc (tm.getD 41 undef) W := hG 20 41 (by decide) rfl
        have g42 : LV c (tm.getD 42 undef) W := hG 21 42 (by decide) rfl
        have g43 : LV gc (tm.getD 43 undef) W := hG 22 43 (by decide) rfl
        have g44 : LsV [c, gc] (tm.getD 44 undef) W := hG 23 44 (by decide) rfl
        have g45 : (tm.getD 45 undef) = .bool (atMB wc [c, gc]) := hG 24 45 (by decide) rfl
        have g46 : BsV [(atMB t [gc]), (undB (fl t g) (gr [want]) (namL [t, g, want])), (atMB want [wc]), (atMB wc [c, gc])] (tm.getD 46 undef) W := hG 25 46 (by decide) rfl
        have g47 : (tm.getD 47 undef) = .int .i64 (allowI [(atMB t [gc]), (undB (fl t g) (gr [want]) (namL [t, g, want])), (atMB want [wc]), (atMB wc [c, gc])]) := hG 26 47 (by decide) rfl
        have htm := arr_of tm [.agg #[.int .i64 t.fst, .slice pt t.snd.length ct], .agg #[.int .i64 c.fst, .slice pc c.snd.length cc], .agg #[.int .i64 g.fst, .slice pg g.snd.length cg], .agg #[.int .i64 gc.fst, .slice pgc gc.snd.length cgc], .agg #[.int .i64 want.fst, .slice pwant want.snd.length cwant], .agg #[.int .i64 wc.fst, .slice pwc wc.snd.length cwc], .pointer (some ⟨w.heap.size, 0, none⟩), .pointer (some ⟨w.heap.size + 1, 0, none⟩), .pointer (some ⟨w.heap.size + 1 + 1, 0, none⟩), .pointer (some ⟨w.heap.size + 1 + 1 + 1, 0, none⟩), .pointer (some ⟨w.heap.size + 1 + 1 + 1 + 1, 0, none⟩), .pointer (some ⟨w.heap.size + 1 + 1 + 1 + 1 + 1, 0, none⟩), .int .i64 0, .agg #[.int .i64 want.fst, .slice pwant want.snd.length cwant], .bool true, .bool false, .bool false, .agg #[.int .i64 wc.fst, .slice pwc wc.snd.length cwc], .bool true, .bool false, .bool false, tm.getD 21 undef, tm.getD 22 undef, tm.getD 23 undef, tm.getD 24 undef, tm.getD 25 undef, tm.getD 26 undef, tm.getD 27 undef, tm.getD 28 undef, tm.getD 29 undef, tm.getD 30 undef, tm.getD 31 undef, tm.getD 32 undef, tm.getD 33 undef, tm.getD 34 undef, tm.getD 35 undef, tm.getD 36 undef, tm.getD 37 undef, tm.getD 38 undef, tm.getD 39 undef, tm.getD 40 undef, tm.getD 41 undef, tm.getD 42 undef, tm.getD 43 undef, tm.getD 44 undef, tm.getD 45 undef, tm.getD 46 undef, tm.getD 47 undef] hs (by show [tm.getD 0 undef, tm.getD 1 undef, tm.getD 2 undef, tm.getD 3 undef, tm.getD 4 undef, tm.getD 5 undef, tm.getD 6 undef, tm.getD 7 undef, tm.getD 8 undef, tm.getD 9 undef, tm.getD 10 undef, tm.getD 11 undef, tm.getD 12 undef, tm.getD 13 undef, tm.getD 14 undef, tm.getD 15 undef, tm.getD 16 undef, tm.getD 17 undef, tm.getD 18 undef, tm.getD 19 undef, tm.getD 20 undef, tm.getD 21 undef, tm.getD 22 undef, tm.getD 23 undef, tm.getD 24 undef, tm.getD 25 undef, tm.getD 26 undef, tm.getD 27 undef, tm.getD 28 undef, tm.getD 29 undef, tm.getD 30 undef, tm.getD 31 undef, tm.getD 32 undef, tm.getD 33 undef, tm.getD 34 undef, tm.getD 35 undef, tm.getD 36 undef, tm.getD 37 undef, tm.getD 38 undef, tm.getD 39 undef, tm.getD 40 undef, tm.getD 41 undef, tm.getD 42 undef, tm.getD 43 undef, tm.getD 44 undef, tm.getD 45 undef, tm.getD 46 undef, tm.getD 47 undef] = _; rw [e0, e1, e2, e3, e4, e5, e6, e7, e8, e9, e10, e11, e12, e13, e14, e15, e16, e17, e18, e19, e20])
        clear hs hk hG e0 e1 e2 e3 e4 e5 e6 e7 e8 e9 e10 e11 e12 e13 e14 e15 e16 e17 e18 e19 e20
        generalize tm.getD 21 undef = t21 at htm g21
        generalize tm.getD 22 undef = t22 at htm g22
        generalize tm.getD 23 undef = t23 at htm g23
        generalize tm.getD 24 undef = t24 at htm g24
        generalize tm.getD 25 undef = t25 at htm g25
        generalize tm.getD 26 undef = t26 at htm g26
        generalize tm.getD 27 undef = t27 at htm g27
        generalize tm.getD 28 undef = t28 at htm g28
        generalize tm.getD 29 undef = t29 at htm g29
        generalize tm.getD 30 undef = t30 at htm g30
        generalize tm.getD 31 undef = t31 at htm g31
        generalize tm.getD 32 undef = t32 at htm g32
        generalize tm.getD 33 undef = t33 at htm g33
        generalize tm.getD 34 undef = t34 at htm g34
        generalize tm.getD 35 undef = t35 at htm g35
        generalize tm.getD 36 undef = t36 at htm g36
        generalize tm.getD 37 undef = t37 at htm g37
        generalize tm.getD 38 undef = t38 at htm g38
        generalize tm.getD 39 undef = t39 at htm g39
        generalize tm.getD 40 undef = t40 at htm g40
        generalize tm.getD 41 undef = t41 at htm g41
        generalize tm.getD 42 undef = t42 at htm g42
        generalize tm.getD 43 undef = t43 at htm g43
        generalize tm.getD 44 undef = t44 at htm g44
        generalize tm.getD 45 undef = t45 at htm g45
        generalize tm.getD 46 undef = t46 at htm g46
        generalize tm.getD 47 undef = t47 at htm g47
        subst htm
        subst g24
        subst g36
        subst g40
        subst g45
        subst g47
        simp only [List.drop_succ_cons, List.drop_zero]
        go_wp2
        go_ret
        exact ⟨_, rfl, hAC.trans (hB.mono hAC.size), by unfold enterI; rw [HX.out, HY.out]; rfl⟩
    | false =>
      go_enter Try.func25, Try.ntmps25
      go_wp2_with (first | (go_at_call 40; refine HP.out.mono ?_; rintro e w1 ⟨_, rfl, hb1, rfl⟩; have hAB : Below w.heap.size w w1 := hA.trans (hb1.mono hA.size); have bwc0 : w1.cell? ⟨w.heap.size + 1 + 1 + 1 + 1 + 1, 0, none⟩ = some (.int .i64 wc.1) := (hb1.cell (p := ⟨w.heap.size + 1 + 1 + 1 + 1 + 1, 0, none⟩) (by simp <;> omega)).trans (by simp [go_sem]); have bwc1 : w1.cell? ⟨w.heap.size + 1 + 1 + 1 + 1 + 1, 1, none⟩ = some (.slice pwc wc.2.length cwc) := (hb1.cell (p := ⟨w.heap.size + 1 + 1 + 1 + 1 + 1, 1, none⟩) (by simp <;> omega)).trans (by simp [go_sem])) | (go_at_call 41; refine (HF.out w1 hAB).mono ?_; rintro e w2 ⟨_, rfl, hb2, rfl⟩))
      go_ret
      exact ⟨_, rfl, hAB.trans (hb2.mono hAB.size), by unfold enterI; rw [HX.out, HY.out]; rfl⟩
  | false =>
    go_enter Try.func25, Try.ntmps25
    go_wp2_with (go_at_call 40; refine HP.out.mono ?_; rintro e w1 ⟨_, rfl, hb1, rfl⟩)
    go_ret
    exact ⟨_, rfl, hA.trans (hb1.mono hA.size), by unfold enterI; rw [HX.out]; rfl⟩
end Go.Proofs.Ytnjmgholoigpkaa
