/- Enter of the reference. -/
import Derived.Test.YtnjmgholoigpkaaGen
import Derived.Deep.Cut
namespace Go.Proofs.Ytnjmgholoigpkaa
open Go.RowKit Go.Sort
theorem ent_gatehouseref07_floor : Enters 49 := fun args W => by go_simp
theorem rfloor_c' {t g : ML} {vt vg u : Value} {w : World} {c : Int} (ht : LV t vt w) (hg : LV g vg w) (hu : u = .int .i64 c) : Calls Try.prog 49 #[vt, vg, u] w fun e w' => ∃ v', e = .returned v' ∧ Below w.heap.size w w' ∧ v' = .int .i64 (flZ t g c) := by
  subst hu; exact rfloor_c ht hg c
def entP (t g want : ML) (k : Int) : Bool := decide (flZ t g k ≤ aZ want k)
def renterI (t c g gc want wc : ML) : Int := if plainS want.1 want.2 = true then (if freeS wc.1 wc.2 = true then sayI ((((rleM t gc) && (rleM want wc)) && (belM wc c gc)) && ((nmM [t, g, want] ++ [0]).all (entP t g want))) else 1) else 1
theorem ent_gatehouseref07_cats : Enters 55 := fun args W => by go_simp
theorem run_len {ev : Operand → Value} {W : World} {dst : Option Nat} {ty : TypeId} {pos : String} {af : Array Edge} {gd : Option (Nat × Bool)} {x : Operand} {cs : List Int} (h : IV cs (ev x) W) :
    (execOp ev { dst := dst, op := .call { callee := .builtin .len, args := #[x], argTypes := #[43] }, type := ty, pos := pos, after := af, guard := gd }).run Try.prog W = .ok (.value (.int .i64 (cs.length : Nat))) W := by
  obtain ⟨p, cap, hx⟩ := h.form
  clear h
  go_simp
theorem run_geq {ev : Operand → Value} {W : World} {dst : Option Nat} {ty : TypeId} {pos : String} {af : Array Edge} {gd : Option (Nat × Bool)} {a b : Int} {x y : Operand} {t : TypeId} (hx : ev x = .int .i64 a) (hy : ev y = .int .i64 b) :
    (execOp ev { dst := dst, op := .binOp .geq 3 x y t, type := ty, pos := pos, after := af, guard := gd }).run Try.prog W = .ok (.value (.bool (decide (b ≤ a)))) W := by
  go_simp
set_option maxRecDepth 100000 in
set_option maxHeartbeats 1000000 in
theorem rEnter_c {t c g gc want wc : ML} {vt vc vg vgc vwant vwc : Value} {w : World} (ht : LV t vt w) (hc : LV c vc w) (hg : LV g vg w) (hgc : LV gc vgc w) (hwant : LV want vwant w) (hwc : LV wc vwc w) :
    Calls Try.prog 26 #[vt, vc, vg, vgc, vwant, vwc] w fun e w' => ∃ v', e = .returned v' ∧ Below w.heap.size w w' ∧ v' = .int .i64 (renterI t c g gc want wc) := by
  obtain ⟨pt, ct, rfl, ht1, ht2, ht3⟩ := id ht
  obtain ⟨pc, cc, rfl, hc1, hc2, hc3⟩ := id hc
  obtain ⟨pg, cg, rfl, hg1, hg2, hg3⟩ := id hg
  obtain ⟨pgc, cgc, rfl, hgc1, hgc2, hgc3⟩ := id hgc
  obtain ⟨pwant, cwant, rfl, hwant1, hwant2, hwant3⟩ := id hwant
  obtain ⟨pwc, cwc, rfl, hwc1, hwc2, hwc3⟩ := id hwc
  have hA : Below w.heap.size w ((((((w.alloc (.cells #[.int .i64 t.1, .slice pt t.2.length ct] 24)).alloc (.cells #[.int .i64 c.1, .slice pc c.2.length cc] 24)).alloc (.cells #[.int .i64 g.1, .slice pg g.2.length cg] 24)).alloc (.cells #[.int .i64 gc.1, .slice pgc gc.2.length cgc] 24)).alloc (.cells #[.int .i64 want.1, .slice pwant want.2.length cwant] 24)).alloc (.cells #[.int .i64 wc.1, .slice pwc wc.2.length cwc] 24)) := by go_grown
  have hbt : LBox t ((((((w.alloc (.cells #[.int .i64 t.1, .slice pt t.2.length ct] 24)).alloc (.cells #[.int .i64 c.1, .slice pc c.2.length cc] 24)).alloc (.cells #[.int .i64 g.1, .slice pg g.2.length cg] 24)).alloc (.cells #[.int .i64 gc.1, .slice pgc gc.2.length cgc] 24)).alloc (.cells #[.int .i64 want.1, .slice pwant want.2.length cwant] 24)).alloc (.cells #[.int .i64 wc.1, .slice pwc wc.2.length cwc] 24)) w.heap.size 0 := ⟨pt, ct, by simp <;> omega, by simp [go_sem], by simp [go_sem], ht1.below hA, ht2, ht3⟩
  have hbc : LBox c ((((((w.alloc (.cells #[.int .i64 t.1, .slice pt t.2.length ct] 24)).alloc (.cells #[.int .i64 c.1, .slice pc c.2.length cc] 24)).alloc (.cells #[.int .i64 g.1, .slice pg g.2.length cg] 24)).alloc (.cells #[.int .i64 gc.1, .slice pgc gc.2.length cgc] 24)).alloc (.cells #[.int .i64 want.1, .slice pwant want.2.length cwant] 24)).alloc (.cells #[.int .i64 wc.1, .slice pwc wc.2.length cwc] 24)) (w.heap.size + 1) 0 := ⟨pc, cc, by simp <;> omega, by simp [go_sem], by simp [go_sem], hc1.below hA, hc2, hc3⟩
  have hbg : LBox g ((((((w.alloc (.cells #[.int .i64 t.1, .slice pt t.2.length ct] 24)).alloc (.cells #[.int .i64 c.1, .slice pc c.2.length cc] 24)).alloc (.cells #[.int .i64 g.1, .slice pg g.2.length cg] 24)).alloc (.cells #[.int .i64 gc.1, .slice pgc gc.2.length cgc] 24)).alloc (.cells #[.int .i64 want.1, .slice pwant want.2.length cwant] 24)).alloc (.cells #[.int .i64 wc.1, .slice pwc wc.2.length cwc] 24)) (w.heap.size + 1 + 1) 0 := ⟨pg, cg, by simp <;> omega, by simp [go_sem], by simp [go_sem], hg1.below hA, hg2, hg3⟩
  have hbgc : LBox gc ((((((w.alloc (.cells #[.int .i64 t.1, .slice pt t.2.length ct] 24)).alloc (.cells #[.int .i64 c.1, .slice pc c.2.length cc] 24)).alloc (.cells #[.int .i64 g.1, .slice pg g.2.length cg] 24)).alloc (.cells #[.int .i64 gc.1, .slice pgc gc.2.length cgc] 24)).alloc (.cells #[.int .i64 want.1, .slice pwant want.2.length cwant] 24)).alloc (.cells #[.int .i64 wc.1, .slice pwc wc.2.length cwc] 24)) (w.heap.size + 1 + 1 + 1) 0 := ⟨pgc, cgc, by simp <;> omega, by simp [go_sem], by simp [go_sem], hgc1.below hA, hgc2, hgc3⟩
  have hbwant : LBox want ((((((w.alloc (.cells #[.int .i64 t.1, .slice pt t.2.length ct] 24)).alloc (.cells #[.int .i64 c.1, .slice pc c.2.length cc] 24)).alloc (.cells #[.int .i64 g.1, .slice pg g.2.length cg] 24)).alloc (.cells #[.int .i64 gc.1, .slice pgc gc.2.length cgc] 24)).alloc (.cells #[.int .i64 want.1, .slice pwant want.2.length cwant] 24)).alloc (.cells #[.int .i64 wc.1, .slice pwc wc.2.length cwc] 24)) (w.heap.size + 1 + 1 + 1 + 1) 0 := ⟨pwant, cwant, by simp <;> omega, by simp [go_sem], by simp [go_sem], hwant1.below hA, hwant2, hwant3⟩
  have hbwc : LBox wc ((((((w.alloc (.cells #[.int .i64 t.1, .slice pt t.2.length ct] 24)).alloc (.cells #[.int .i64 c.1, .slice pc c.2.length cc] 24)).alloc (.cells #[.int .i64 g.1, .slice pg g.2.length cg] 24)).alloc (.cells #[.int .i64 gc.1, .slice pgc gc.2.length cgc] 24)).alloc (.cells #[.int .i64 want.1, .slice pwant want.2.length cwant] 24)).alloc (.cells #[.int .i64 wc.1, .slice pwc wc.2.length cwc] 24)) (w.heap.size + 1 + 1 + 1 + 1 + 1) 0 := ⟨pwc, cwc, by simp <;> omega, by simp [go_sem], by simp [go_sem], hwc1.below hA, hwc2, hwc3⟩
  have HP := Lib.hid (rPlain_c (hwant.below hA))
  have HF : Hid (∀ W, Below w.heap.size w W → _) := fun W hW => rFree_c (hwc.below hW)
  obtain ⟨x0, hx0⟩ : ∃ b, plainS want.1 want.2 = b := ⟨_, rfl⟩
  rw [hx0] at HP
  have HX := Lib.hid hx0
  obtain ⟨x1, hx1⟩ : ∃ b, freeS wc.1 wc.2 = b := ⟨_, rfl⟩
  simp only [hx1] at HF
  have HY := Lib.hid hx1
  clear hx0 hx1
  cases x0 with
  | true =>
    cases x1 with
    | true =>
      go_enter Try.func26, Try.ntmps26
      go_upto_region 3 with (first | (go_at_call 24; refine HP.out.mono ?_; rintro e w1 ⟨_, rfl, hb1, rfl⟩; have hAB : Below w.heap.size w w1 := hA.trans (hb1.mono hA.size); have bwc0 : w1.cell? ⟨w.heap.size + 1 + 1 + 1 + 1 + 1, 0, none⟩ = some (.int .i64 wc.1) := (hb1.cell (p := ⟨w.heap.size + 1 + 1 + 1 + 1 + 1, 0, none⟩) (by simp <;> omega)).trans (by simp [go_sem]); have bwc1 : w1.cell? ⟨w.heap.size + 1 + 1 + 1 + 1 + 1, 1, none⟩ = some (.slice pwc wc.2.length cwc) := (hb1.cell (p := ⟨w.heap.size + 1 + 1 + 1 + 1 + 1, 1, none⟩) (by simp <;> omega)).trans (by simp [go_sem])) | (go_at_call 29; refine (HF.out w1 hAB).mono ?_; rintro e w2 ⟨_, rfl, hb2, rfl⟩))
      have hAC : Below w.heap.size w w2 := hAB.trans (hb2.mono hAB.size)
      have hct := (hbt.below hb1).below hb2
      have hcc := (hbc.below hb1).below hb2
      have hcg := (hbg.below hb1).below hb2
      have hcgc := (hbgc.below hb1).below hb2
      have hcwant := (hbwant.below hb1).below hb2
      have hcwc := (hbwc.below hb1).below hb2
      refine wp_region_monoF 14 (fun kq v W => match kq with | 24 => LV t v W | 25 => LV gc v W | 26 => v = .bool (rleM t gc) | 27 => v = .bool (rleM t gc) | 28 => ((rleM t gc) = true → LV want v W) | 29 => ((rleM t gc) = true → LV wc v W) | 30 => ((rleM t gc) = true → v = .bool (rleM want wc)) | 31 => v = .bool ((rleM t gc) && (rleM want wc)) | 32 => v = .bool ((rleM t gc) && (rleM want wc)) | 33 => (((rleM t gc) && (rleM want wc)) = true → LV wc v W) | 34 => (((rleM t gc) && (rleM want wc)) = true → LV c v W) | 35 => (((rleM t gc) && (rleM want wc)) = true → LV gc v W) | 36 => (((rleM t gc) && (rleM want wc)) = true → v = .bool (belM wc c gc)) | 37 => v = .bool (((rleM t gc) && (rleM want wc)) && (belM wc c gc)) | _ => True) (by kernel_rfl) (by kernel_rfl) (by simp) ?_ ?_ ?_
      · intro kq v W W' h hb
        revert h
        try dsimp only
        split
        · intro h; exact LV.below h hb
        · intro h; exact LV.below h hb
        · intro h; exact h
        · intro h; exact h
        · intro h' e; have h := h' e; exact LV.below h hb
        · intro h' e; have h := h' e; exact LV.below h hb
        · intro h' e; have h := h' e; exact h
        · intro h; exact h
        · intro h; exact h
        · intro h' e; have h := h' e; exact LV.below h hb
        · intro h' e; have h := h' e; exact LV.below h hb
        · intro h' e; have h := h' e; exact LV.below h hb
        · intro h' e; have h := h' e; exact h
        · intro h; exact h
        · intro h; trivial
      · intro a' W hB hs hk i o d ho hd hG
        match i, ho with
        | 0, ho =>
          obtain rfl : _ = o := Option.some.inj ho
          obtain rfl : 24 = d := Option.some.inj hd
          obtain ⟨v, hr, hv⟩ := run_loadL (ev := a'.eval) (W := W) (hk 6 (by kernel_rfl)) (hct.below hB)
          exact .inr ⟨rfl, .inl ⟨v, W, hr, Below.refl _ _, hv⟩⟩
        | 1, ho =>
          obtain rfl : _ = o := Option.some.inj ho
          obtain rfl : 25 = d := Option.some.inj hd
          obtain ⟨v, hr, hv⟩ := run_loadL (ev := a'.eval) (W := W) (hk 9 (by kernel_rfl)) (hcgc.below hB)
          exact .inr ⟨rfl, .inl ⟨v, W, hr, Below.refl _ _, hv⟩⟩
        | 2, ho =>
          obtain rfl : _ = o := Option.some.inj ho
          obtain rfl : 26 = d := Option.some.inj hd
          have g24 : LV t (a'.eval (.tmp 24)) W := hG ⟨0, .data⟩ (by simp) rfl 24 rfl
          have g25 : LV gc (a'.eval (.tmp 25)) W := hG ⟨1, .data⟩ (by simp) rfl 25 rfl
          exact .inr ⟨rfl, .inr ⟨_, _, run_call rfl map_2 ent_gatehouseref01_Leq, rLeq_c g24 g25⟩⟩
        | 3, ho =>
          obtain rfl : _ = o := Option.some.inj ho
          obtain rfl : 27 = d := Option.some.inj hd
          have g26 : (a'.eval (.tmp 26)) = .bool (rleM t gc) := hG ⟨2, .data⟩ (by simp) rfl 26 rfl
          exact .inr ⟨rfl, .inl ⟨_, W, run_move rfl, Below.refl _ _, g26⟩⟩
        | 4, ho =>
          obtain rfl : _ = o := Option.some.inj ho
          obtain rfl : 28 = d := Option.some.inj hd
          have gg : a'.eval (.tmp 27) = .bool (rleM t gc) := hG ⟨3, .guard⟩ (by simp) rfl 27 rfl
          by_cases hgc_ : (rleM t gc) = true
          · obtain ⟨v, hr, hv⟩ := run_loadL (ev := a'.eval) (W := W) (hk 10 (by kernel_rfl)) (hcwant.below hB)
            exact .inr ⟨want_yes (n := 62) (d := 27) rfl hs (by decide) rfl (gg.trans (by rw [hgc_])), .inl ⟨v, W, hr, Below.refl _ _, fun _ => hv⟩⟩
          · exact .inl ⟨want_no (n := 62) (d := 27) rfl hs (by decide) rfl gg hgc_, fun e => absurd e hgc_⟩
        | 5, ho =>
          obtain rfl : _ = o := Option.some.inj ho
          obtain rfl : 29 = d := Option.some.inj hd
          have gg : a'.eval (.tmp 27) = .bool (rleM t gc) := hG ⟨3, .guard⟩ (by simp) rfl 27 rfl
          by_cases hgc_ : (rleM t gc) = true
          · obtain ⟨v, hr, hv⟩ := run_loadL (ev := a'.eval) (W := W) (hk 11 (by kernel_rfl)) (hcwc.below hB)
            exact .inr ⟨want_yes (n := 62) (d := 27) rfl hs (by decide) rfl (gg.trans (by rw [hgc_])), .inl ⟨v, W, hr, Below.refl _ _, fun _ => hv⟩⟩
          · exact .inl ⟨want_no (n := 62) (d := 27) rfl hs (by decide) rfl gg hgc_, fun e => absurd e hgc_⟩
        | 6, ho =>
          obtain rfl : _ = o := Option.some.inj ho
          obtain rfl : 30 = d := Option.some.inj hd
          have gg : a'.eval (.tmp 27) = .bool (rleM t gc) := hG ⟨3, .guard⟩ (by simp) rfl 27 rfl
          by_cases hgc_ : (rleM t gc) = true
          · have g28 : LV want (a'.eval (.tmp 28)) W := hG ⟨4, .data⟩ (by simp) rfl 28 rfl hgc_
            have g29 : LV wc (a'.eval (.tmp 29)) W := hG ⟨5, .data⟩ (by simp) rfl 29 rfl hgc_
            exact .inr ⟨want_yes (n := 62) (d := 27) rfl hs (by decide) rfl (gg.trans (by rw [hgc_])), .inr ⟨_, _, run_call rfl map_2 ent_gatehouseref01_Leq, (rLeq_c g28 g29).mono (fun e W' ⟨v, he, hb, hv⟩ => ⟨v, he, hb, fun _ => hv⟩)⟩⟩
          · exact .inl ⟨want_no (n := 62) (d := 27) rfl hs (by decide) rfl gg hgc_, fun e => absurd e hgc_⟩
        | 7, ho =>
          obtain rfl : _ = o := Option.some.inj ho
          obtain rfl : 31 = d := Option.some.inj hd
          have g27 : (a'.eval (.tmp 27)) = .bool (rleM t gc) := hG ⟨3, .data⟩ (by simp) rfl 27 rfl
          by_cases hq : (rleM t gc) = true
          · exact .inr ⟨rfl, .inl ⟨_, W, run_pick_yes (g27.trans (by rw [hq])) (hG ⟨6, .data⟩ (by simp) rfl 30 rfl hq), Below.refl _ _, by rw [hq]; rfl⟩⟩
          · have hq' : (rleM t gc) = false := by simpa using hq
            exact .inr ⟨rfl, .inl ⟨_, W, run_pick_no (g27.trans (by rw [hq'])) rfl, Below.refl _ _, by rw [hq']; rfl⟩⟩
        | 8, ho =>
          obtain rfl : _ = o := Option.some.inj ho
          obtain rfl : 32 = d := Option.some.inj hd
          have g31 : (a'.eval (.tmp 31)) = .bool ((rleM t gc) && (rleM want wc)) := hG ⟨7, .data⟩ (by simp) rfl 31 rfl
          exact .inr ⟨rfl, .inl ⟨_, W, run_move rfl, Below.refl _ _, g31⟩⟩
        | 9, ho =>
          obtain rfl : _ = o := Option.some.inj ho
          obtain rfl : 33 = d := Option.some.inj hd
          have gg : a'.eval (.tmp 32) = .bool ((rleM t gc) && (rleM want wc)) := hG ⟨8, .guard⟩ (by simp) rfl 32 rfl
          by_cases hgc_ : ((rleM t gc) && (rleM want wc)) = true
          · obtain ⟨v, hr, hv⟩ := run_loadL (ev := a'.eval) (W := W) (hk 11 (by kernel_rfl)) (hcwc.below hB)
            exact .inr ⟨want_yes (n := 62) (d := 32) rfl hs (by decide) rfl (gg.trans (by rw [hgc_])), .inl ⟨v, W, hr, Below.refl _ _, fun _ => hv⟩⟩
          · exact .inl ⟨want_no (n := 62) (d := 32) rfl hs (by decide) rfl gg hgc_, fun e => absurd e hgc_⟩
        | 10, ho =>
          obtain rfl : _ = o := Option.some.inj ho
          obtain rfl : 34 = d := Option.some.inj hd
          have gg : a'.eval (.tmp 32) = .bool ((rleM t gc) && (rleM want wc)) := hG ⟨8, .guard⟩ (by simp) rfl 32 rfl
          by_cases hgc_ : ((rleM t gc) && (rleM want wc)) = true
          · obtain ⟨v, hr, hv⟩ := run_loadL (ev := a'.eval) (W := W) (hk 7 (by kernel_rfl)) (hcc.below hB)
            exact .inr ⟨want_yes (n := 62) (d := 32) rfl hs (by decide) rfl (gg.trans (by rw [hgc_])), .inl ⟨v, W, hr, Below.refl _ _, fun _ => hv⟩⟩
          · exact .inl ⟨want_no (n := 62) (d := 32) rfl hs (by decide) rfl gg hgc_, fun e => absurd e hgc_⟩
        | 11, ho =>
          obtain rfl : _ = o := Option.some.inj ho
          obtain rfl : 35 = d := Option.some.inj hd
          have gg : a'.eval (.tmp 32) = .bool ((rleM t gc) && (rleM want wc)) := hG ⟨8, .guard⟩ (by simp) rfl 32 rfl
          by_cases hgc_ : ((rleM t gc) && (rleM want wc)) = true
          · obtain ⟨v, hr, hv⟩ := run_loadL (ev := a'.eval) (W := W) (hk 9 (by kernel_rfl)) (hcgc.below hB)
            exact .inr ⟨want_yes (n := 62) (d := 32) rfl hs (by decide) rfl (gg.trans (by rw [hgc_])), .inl ⟨v, W, hr, Below.refl _ _, fun _ => hv⟩⟩
          · exact .inl ⟨want_no (n := 62) (d := 32) rfl hs (by decide) rfl gg hgc_, fun e => absurd e hgc_⟩
        | 12, ho =>
          obtain rfl : _ = o := Option.some.inj ho
          obtain rfl : 36 = d := Option.some.inj hd
          have gg : a'.eval (.tmp 32) = .bool ((rleM t gc) && (rleM want wc)) := hG ⟨8, .guard⟩ (by simp) rfl 32 rfl
          by_cases hgc_ : ((rleM t gc) && (rleM want wc)) = true
          · have g33 : LV wc (a'.eval (.tmp 33)) W := hG ⟨9, .data⟩ (by simp) rfl 33 rfl hgc_
            have g34 : LV c (a'.eval (.tmp 34)) W := hG ⟨10, .data⟩ (by simp) rfl 34 rfl hgc_
            have g35 : LV gc (a'.eval (.tmp 35)) W := hG ⟨11, .data⟩ (by simp) rfl 35 rfl hgc_
            exact .inr ⟨want_yes (n := 62) (d := 32) rfl hs (by decide) rfl (gg.trans (by rw [hgc_])), .inr ⟨_, _, run_call rfl map_3 ent_gatehouseref07_Below, (rBelow_c g33 g34 g35).mono (fun e W' ⟨v, he, hb, hv⟩ => ⟨v, he, hb, fun _ => hv⟩)⟩⟩
          · exact .inl ⟨want_no (n := 62) (d := 32) rfl hs (by decide) rfl gg hgc_, fun e => absurd e hgc_⟩
        | 13, ho =>
          obtain rfl : _ = o := Option.some.inj ho
          obtain rfl : 37 = d := Option.some.inj hd
          have g32 : (a'.eval (.tmp 32)) = .bool ((rleM t gc) && (rleM want wc)) := hG ⟨8, .data⟩ (by simp) rfl 32 rfl
          by_cases hq : ((rleM t gc) && (rleM want wc)) = true
          · exact .inr ⟨rfl, .inl ⟨_, W, run_pick_yes (g32.trans (by rw [hq])) (hG ⟨12, .data⟩ (by simp) rfl 36 rfl hq), Below.refl _ _, by rw [hq]; rfl⟩⟩
          · have hq' : ((rleM t gc) && (rleM want wc)) = false := by simpa using hq
            exact .inr ⟨rfl, .inl ⟨_, W, run_pick_no (g32.trans (by rw [hq'])) rfl, Below.refl _ _, by rw [hq']; rfl⟩⟩
        | j + 14, ho => simp at ho
      · intro a' W hB hs hdf hk hG
        obtain ⟨tm, df⟩ := a'
        obtain rfl : df = [] := hdf
        have e0 : tm.getD 0 undef = .agg #[.int .i64 t.fst, .slice pt t.snd.length ct] := hk 0 (by kernel_rfl)
        have e1 : tm.getD 1 undef = .agg #[.int .i64 c.fst, .slice pc c.snd.length cc] := hk 1 (by kernel_rfl)
        have e2 : tm.getD 2 undef = .agg #[.int .i64 g.fst, .slice pg g.snd.length cg] := hk 2 (by kernel_rfl)
        have e3 : tm.getD 3 undef = .agg #[.int .i64 gc.fst, .slice pgc gc.snd.length cgc] := hk 3 (by kernel_rfl)
        have e4 : tm.getD 4 undef = .agg #[.int .i64 want.fst, .slice pwant want.snd.length cwant] := hk 4 (by kernel_rfl)
        have e5 : tm.getD 5 undef = .agg #[.int .i64 wc.fst, .slice pwc wc.snd.length cwc] := hk 5 (by kernel_rfl)
        have e6 : tm.getD 6 undef = .pointer (some ⟨w.heap.size, 0, none⟩) := hk 6 (by kernel_rfl)
        have e7 : tm.getD 7 undef = .pointer (some ⟨w.heap.size + 1, 0, none⟩) := hk 7 (by kernel_rfl)
        have e8 : tm.getD 8 undef = .pointer (some ⟨w.heap.size + 1 + 1, 0, none⟩) := hk 8 (by kernel_rfl)
        have e9 : tm.getD 9 undef = .pointer (some ⟨w.heap.size + 1 + 1 + 1, 0, none⟩) := hk 9 (by kernel_rfl)
        have e10 : tm.getD 10 undef = .pointer (some ⟨w.heap.size + 1 + 1 + 1 + 1, 0, none⟩) := hk 10 (by kernel_rfl)
        have e11 : tm.getD 11 undef = .pointer (some ⟨w.heap.size + 1 + 1 + 1 + 1 + 1, 0, none⟩) := hk 11 (by kernel_rfl)
        have e12 : tm.getD 12 undef = .int .i64 0 := hk 12 (by kernel_rfl)
        have e13 : tm.getD 13 undef = undef := hk 13 (by kernel_rfl)
        have e14 : tm.getD 14 undef = undef := hk 14 (by kernel_rfl)
        have e15 : tm.getD 15 undef = undef := hk 15 (by kernel_rfl)
        have e16 : tm.getD 16 undef = .agg #[.int .i64 want.fst, .slice pwant want.snd.length cwant] := hk 16 (by kernel_rfl)
        have e17 : tm.getD 17 undef = .bool true := hk 17 (by kernel_rfl)
        have e18 : tm.getD 18 undef = .bool false := hk 18 (by kernel_rfl)
        have e19 : tm.getD 19 undef = .bool false := hk 19 (by kernel_rfl)
        have e20 : tm.getD 20 undef = .agg #[.int .i64 wc.fst, .slice pwc wc.snd.length cwc] := hk 20 (by kernel_rfl)
        have e21 : tm.getD 21 undef = .bool true := hk 21 (by kernel_rfl)
        have e22 : tm.getD 22 undef = .bool false := hk 22 (by kernel_rfl)
        have e23 : tm.getD 23 undef = .bool false := hk 23 (by kernel_rfl)
        have e38 : tm.getD 38 undef = undef := hk 38 (by kernel_rfl)
        have e39 : tm.getD 39 undef = undef := hk 39 (by kernel_rfl)
        have e40 : tm.getD 40 undef = undef := hk 40 (by kernel_rfl)
        have e41 : tm.getD 41 undef = undef := hk 41 (by kernel_rfl)
        have e42 : tm.getD 42 undef = undef := hk 42 (by kernel_rfl)
        have e43 : tm.getD 43 undef = undef := hk 43 (by kernel_rfl)
        have e44 : tm.getD 44 undef = undef := hk 44 (by kernel_rfl)
        have e45 : tm.getD 45 undef = undef := hk 45 (by kernel_rfl)
        have e46 : tm.getD 46 undef = undef := hk 46 (by kernel_rfl)
        have e47 : tm.getD 47 undef = undef := hk 47 (by kernel_rfl)
        have e48 : tm.getD 48 undef = undef := hk 48 (by kernel_rfl)
        have e49 : tm.getD 49 undef = undef := hk 49 (by kernel_rfl)
        have e50 : tm.getD 50 undef = undef := hk 50 (by kernel_rfl)
        have e51 : tm.getD 51 undef = undef := hk 51 (by kernel_rfl)
        have e52 : tm.getD 52 undef = undef := hk 52 (by kernel_rfl)
        have e53 : tm.getD 53 undef = undef := hk 53 (by kernel_rfl)
        have e54 : tm.getD 54 undef = undef := hk 54 (by kernel_rfl)
        have e55 : tm.getD 55 undef = undef := hk 55 (by kernel_rfl)
        have e56 : tm.getD 56 undef = undef := hk 56 (by kernel_rfl)
        have e57 : tm.getD 57 undef = undef := hk 57 (by kernel_rfl)
        have e58 : tm.getD 58 undef = undef := hk 58 (by kernel_rfl)
        have e59 : tm.getD 59 undef = undef := hk 59 (by kernel_rfl)
        have e60 : tm.getD 60 undef = undef := hk 60 (by kernel_rfl)
        have e61 : tm.getD 61 undef = undef := hk 61 (by kernel_rfl)
        have g24 : LV t (tm.getD 24 undef) W := hG 0 24 (by decide) rfl
        have g25 : LV gc (tm.getD 25 undef) W := hG 1 25 (by decide) rfl
        have g26 : (tm.getD 26 undef) = .bool (rleM t gc) := hG 2 26 (by decide) rfl
        have g27 : (tm.getD 27 undef) = .bool (rleM t gc) := hG 3 27 (by decide) rfl
        have g28 : (rleM t gc) = true → LV want (tm.getD 28 undef) W := hG 4 28 (by decide) rfl
        have g29 : (rleM t gc) = true → LV wc (tm.getD 29 undef) W := hG 5 29 (by decide) rfl
        have g30 : (rleM t gc) = true → (tm.getD 30 undef) = .bool (rleM want wc) := hG 6 30 (by decide) rfl
        have g31 : (tm.getD 31 undef) = .bool ((rleM t gc) && (rleM want wc)) := hG 7 31 (by decide) rfl
        have g32 : (tm.getD 32 undef) = .bool ((rleM t gc) && (rleM want wc)) := hG 8 32 (by decide) rfl
        have g33 : ((rleM t gc) && (rleM want wc)) = true → LV wc (tm.getD 33 undef) W := hG 9 33 (by decide) rfl
        have g34 : ((rleM t gc) && (rleM want wc)) = true → LV c (tm.getD 34 undef) W := hG 10 34 (by decide) rfl
        have g35 : ((rleM t gc) && (rleM want wc)) = true → LV gc (tm.getD 35 undef) W := hG 11 35 (by decide) rfl
        have g36 : ((rleM t gc) && (rleM want wc)) = true → (tm.getD 36 undef) = .bool (belM wc c gc) := hG 12 36 (by decide) rfl
        have g37 : (tm.getD 37 undef) = .bool (((rleM t gc) && (rleM want wc)) && (belM wc c gc)) := hG 13 37 (by decide) rfl
        have htm := arr_of tm (.agg #[.int .i64 t.fst, .slice pt t.snd.length ct] :: .agg #[.int .i64 c.fst, .slice pc c.snd.length cc] :: .agg #[.int .i64 g.fst, .slice pg g.snd.length cg] :: .agg #[.int .i64 gc.fst, .slice pgc gc.snd.length cgc] :: .agg #[.int .i64 want.fst, .slice pwant want.snd.length cwant] :: .agg #[.int .i64 wc.fst, .slice pwc wc.snd.length cwc] :: .pointer (some ⟨w.heap.size, 0, none⟩) :: .pointer (some ⟨w.heap.size + 1, 0, none⟩) :: .pointer (some ⟨w.heap.size + 1 + 1, 0, none⟩) :: .pointer (some ⟨w.heap.size + 1 + 1 + 1, 0, none⟩) :: .pointer (some ⟨w.heap.size + 1 + 1 + 1 + 1, 0, none⟩) :: .pointer (some ⟨w.heap.size + 1 + 1 + 1 + 1 + 1, 0, none⟩) :: .int .i64 0 :: undef :: undef :: undef :: .agg #[.int .i64 want.fst, .slice pwant want.snd.length cwant] :: .bool true :: .bool false :: .bool false :: .agg #[.int .i64 wc.fst, .slice pwc wc.snd.length cwc] :: .bool true :: .bool false :: .bool false :: tm.getD 24 undef :: tm.getD 25 undef :: tm.getD 26 undef :: tm.getD 27 undef :: tm.getD 28 undef :: tm.getD 29 undef :: tm.getD 30 undef :: tm.getD 31 undef :: tm.getD 32 undef :: tm.getD 33 undef :: tm.getD 34 undef :: tm.getD 35 undef :: tm.getD 36 undef :: tm.getD 37 undef :: undef :: undef :: undef :: undef :: undef :: undef :: undef :: undef :: undef :: undef :: undef :: undef :: undef :: undef :: undef :: undef :: undef :: undef :: undef :: undef :: undef :: undef :: undef :: undef :: []) hs (by show (tm.getD 0 undef :: tm.getD 1 undef :: tm.getD 2 undef :: tm.getD 3 undef :: tm.getD 4 undef :: tm.getD 5 undef :: tm.getD 6 undef :: tm.getD 7 undef :: tm.getD 8 undef :: tm.getD 9 undef :: tm.getD 10 undef :: tm.getD 11 undef :: tm.getD 12 undef :: tm.getD 13 undef :: tm.getD 14 undef :: tm.getD 15 undef :: tm.getD 16 undef :: tm.getD 17 undef :: tm.getD 18 undef :: tm.getD 19 undef :: tm.getD 20 undef :: tm.getD 21 undef :: tm.getD 22 undef :: tm.getD 23 undef :: tm.getD 24 undef :: tm.getD 25 undef :: tm.getD 26 undef :: tm.getD 27 undef :: tm.getD 28 undef :: tm.getD 29 undef :: tm.getD 30 undef :: tm.getD 31 undef :: tm.getD 32 undef :: tm.getD 33 undef :: tm.getD 34 undef :: tm.getD 35 undef :: tm.getD 36 undef :: tm.getD 37 undef :: tm.getD 38 undef :: tm.getD 39 undef :: tm.getD 40 undef :: tm.getD 41 undef :: tm.getD 42 undef :: tm.getD 43 undef :: tm.getD 44 undef :: tm.getD 45 undef :: tm.getD 46 undef :: tm.getD 47 undef :: tm.getD 48 undef :: tm.getD 49 undef :: tm.getD 50 undef :: tm.getD 51 undef :: tm.getD 52 undef :: tm.getD 53 undef :: tm.getD 54 undef :: tm.getD 55 undef :: tm.getD 56 undef :: tm.getD 57 undef :: tm.getD 58 undef :: tm.getD 59 undef :: tm.getD 60 undef :: tm.getD 61 undef :: []) = _; rw [e0, e1, e2, e3, e4, e5, e6, e7, e8, e9, e10, e11, e12, e13, e14, e15, e16, e17, e18, e19, e20, e21, e22, e23, e38, e39, e40, e41, e42, e43, e44, e45, e46, e47, e48, e49, e50, e51, e52, e53, e54, e55, e56, e57, e58, e59, e60, e61]; try rfl)
        clear hs hk hG e0 e1 e2 e3 e4 e5 e6 e7 e8 e9 e10 e11 e12 e13 e14 e15 e16 e17 e18 e19 e20 e21 e22 e23 e38 e39 e40 e41 e42 e43 e44 e45 e46 e47 e48 e49 e50 e51 e52 e53 e54 e55 e56 e57 e58 e59 e60 e61
        generalize tm.getD 24 undef = t24 at htm g24
        generalize tm.getD 25 undef = t25 at htm g25
        generalize tm.getD 26 undef = t26 at htm g26
        generalize tm.getD 27 undef = t27 at htm g27
        generalize tm.getD 28 undef = t28 at htm g28
        generalize tm.getD 29 undef = t29 at htm g29
        generalize tm.getD 30 undef = t30 at htm g30
        generalize tm.getD 31 undef = t31 at htm g31
        generalize tm.getD 32 undef = t32 at htm g32
        generalize tm.getD 33 undef = t33 at htm g33
        generalize tm.getD 34 undef = t34 at htm g34
        generalize tm.getD 35 undef = t35 at htm g35
        generalize tm.getD 36 undef = t36 at htm g36
        generalize tm.getD 37 undef = t37 at htm g37
        subst htm
        subst g26
        subst g27
        subst g31
        subst g32
        subst g37
        simp only [List.drop_succ_cons, List.drop_zero]
        have hAD : Below w.heap.size w W := hAC.trans (hB.mono hAC.size)
        have hdt := hct.below hB
        have hdc := hcc.below hB
        have hdg := hcg.below hB
        have hdgc := hcgc.below hB
        have hdwant := hcwant.below hB
        have hdwc := hcwc.below hB
        clear g24 g25 g28 g29 g30 g33 g34 g35 g36
        obtain ⟨ok, hok⟩ : ∃ ok, ((rleM t gc && rleM want wc) && belM wc c gc) = ok := ⟨_, rfl⟩
        simp only [hok]
        have HOK := Lib.hid hok
        clear hok
        go_upto_region 4 with fail
        refine wp_region_monoF 7 (fun kq v W => match kq with | 38 => LV t v W | 39 => LV g v W | 40 => LV want v W | 41 => LsV [t, g, want] v W | 42 => IV (nmM [t, g, want] ++ [0]) v W | 43 => v = .int .i64 (((nmM [t, g, want] ++ [0])).length : Nat) | 44 => v = .int .i64 0 | _ => True) (by kernel_rfl) (by kernel_rfl) (by simp) ?_ ?_ ?_
        · intro kq v W W' h hb
          revert h
          try dsimp only
          split
          · intro h; exact LV.below h hb
          · intro h; exact LV.below h hb
          · intro h; exact LV.below h hb
          · intro h; exact LsV.below h hb
          · intro h; exact IV.below h hb
          · intro h; exact h
          · intro h; exact h
          · intro h; trivial
        · intro a' W hB hs hk i o d ho hd hG
          match i, ho with
          | 0, ho =>
            obtain rfl : _ = o := Option.some.inj ho
            obtain rfl : 38 = d := Option.some.inj hd
            obtain ⟨v, hr, hv⟩ := run_loadL (ev := a'.eval) (W := W) (hk 6 (by kernel_rfl)) (hdt.below hB)
            exact .inr ⟨rfl, .inl ⟨v, W, hr, Below.refl _ _, hv⟩⟩
          | 1, ho =>
            obtain rfl : _ = o := Option.some.inj ho
            obtain rfl : 39 = d := Option.some.inj hd
            obtain ⟨v, hr, hv⟩ := run_loadL (ev := a'.eval) (W := W) (hk 8 (by kernel_rfl)) (hdg.below hB)
            exact .inr ⟨rfl, .inl ⟨v, W, hr, Below.refl _ _, hv⟩⟩
          | 2, ho =>
            obtain rfl : _ = o := Option.some.inj ho
            obtain rfl : 40 = d := Option.some.inj hd
            obtain ⟨v, hr, hv⟩ := run_loadL (ev := a'.eval) (W := W) (hk 10 (by kernel_rfl)) (hdwant.below hB)
            exact .inr ⟨rfl, .inl ⟨v, W, hr, Below.refl _ _, hv⟩⟩
          | 3, ho =>
            obtain rfl : _ = o := Option.some.inj ho
            obtain rfl : 41 = d := Option.some.inj hd
            have g38 : LV t (a'.eval (.tmp 38)) W := hG ⟨0, .data⟩ (by simp) rfl 38 rfl
            have g39 : LV g (a'.eval (.tmp 39)) W := hG ⟨1, .data⟩ (by simp) rfl 39 rfl
            have g40 : LV want (a'.eval (.tmp 40)) W := hG ⟨2, .data⟩ (by simp) rfl 40 rfl
            obtain ⟨v, W', hr, hb, hv⟩ := run_slice3 (ev := a'.eval) (W := W) rfl rfl rfl g38 g39 g40
            exact .inr ⟨rfl, .inl ⟨v, W', hr, hb, hv⟩⟩
          | 4, ho =>
            obtain rfl : _ = o := Option.some.inj ho
            obtain rfl : 42 = d := Option.some.inj hd
            have g41 : LsV [t, g, want] (a'.eval (.tmp 41)) W := hG ⟨3, .data⟩ (by simp) rfl 41 rfl
            exact .inr ⟨rfl, .inr ⟨_, _, run_call rfl map_1 ent_gatehouseref07_cats, cats_c g41 (by simp)⟩⟩
          | 5, ho =>
            obtain rfl : _ = o := Option.some.inj ho
            obtain rfl : 43 = d := Option.some.inj hd
            have g42 : IV (nmM [t, g, want] ++ [0]) (a'.eval (.tmp 42)) W := hG ⟨4, .data⟩ (by simp) rfl 42 rfl
            exact .inr ⟨rfl, .inl ⟨_, W, run_len g42, Below.refl _ _, rfl⟩⟩
          | 6, ho =>
            obtain rfl : _ = o := Option.some.inj ho
            obtain rfl : 44 = d := Option.some.inj hd
            exact .inr ⟨rfl, .inl ⟨_, W, run_move rfl, Below.refl _ _, rfl⟩⟩
          | j + 7, ho => simp at ho
        · intro a' W hB hs hdf hk hG
          obtain ⟨tm, df⟩ := a'
          obtain rfl : df = [] := hdf
          have e0 : tm.getD 0 undef = .agg #[.int .i64 t.fst, .slice pt t.snd.length ct] := hk 0 (by kernel_rfl)
          have e1 : tm.getD 1 undef = .agg #[.int .i64 c.fst, .slice pc c.snd.length cc] := hk 1 (by kernel_rfl)
          have e2 : tm.getD 2 undef = .agg #[.int .i64 g.fst, .slice pg g.snd.length cg] := hk 2 (by kernel_rfl)
          have e3 : tm.getD 3 undef = .agg #[.int .i64 gc.fst, .slice pgc gc.snd.length cgc] := hk 3 (by kernel_rfl)
          have e4 : tm.getD 4 undef = .agg #[.int .i64 want.fst, .slice pwant want.snd.length cwant] := hk 4 (by kernel_rfl)
          have e5 : tm.getD 5 undef = .agg #[.int .i64 wc.fst, .slice pwc wc.snd.length cwc] := hk 5 (by kernel_rfl)
          have e6 : tm.getD 6 undef = .pointer (some ⟨w.heap.size, 0, none⟩) := hk 6 (by kernel_rfl)
          have e7 : tm.getD 7 undef = .pointer (some ⟨w.heap.size + 1, 0, none⟩) := hk 7 (by kernel_rfl)
          have e8 : tm.getD 8 undef = .pointer (some ⟨w.heap.size + 1 + 1, 0, none⟩) := hk 8 (by kernel_rfl)
          have e9 : tm.getD 9 undef = .pointer (some ⟨w.heap.size + 1 + 1 + 1, 0, none⟩) := hk 9 (by kernel_rfl)
          have e10 : tm.getD 10 undef = .pointer (some ⟨w.heap.size + 1 + 1 + 1 + 1, 0, none⟩) := hk 10 (by kernel_rfl)
          have e11 : tm.getD 11 undef = .pointer (some ⟨w.heap.size + 1 + 1 + 1 + 1 + 1, 0, none⟩) := hk 11 (by kernel_rfl)
          have e12 : tm.getD 12 undef = .int .i64 0 := hk 12 (by kernel_rfl)
          have e13 : tm.getD 13 undef = .bool ok := hk 13 (by kernel_rfl)
          have e14 : tm.getD 14 undef = undef := hk 14 (by kernel_rfl)
          have e15 : tm.getD 15 undef = undef := hk 15 (by kernel_rfl)
          have e16 : tm.getD 16 undef = .agg #[.int .i64 want.fst, .slice pwant want.snd.length cwant] := hk 16 (by kernel_rfl)
          have e17 : tm.getD 17 undef = .bool true := hk 17 (by kernel_rfl)
          have e18 : tm.getD 18 undef = .bool false := hk 18 (by kernel_rfl)
          have e19 : tm.getD 19 undef = .bool false := hk 19 (by kernel_rfl)
          have e20 : tm.getD 20 undef = .agg #[.int .i64 wc.fst, .slice pwc wc.snd.length cwc] := hk 20 (by kernel_rfl)
          have e21 : tm.getD 21 undef = .bool true := hk 21 (by kernel_rfl)
          have e22 : tm.getD 22 undef = .bool false := hk 22 (by kernel_rfl)
          have e23 : tm.getD 23 undef = .bool false := hk 23 (by kernel_rfl)
          have e24 : tm.getD 24 undef = t24 := hk 24 (by kernel_rfl)
          have e25 : tm.getD 25 undef = t25 := hk 25 (by kernel_rfl)
          have e26 : tm.getD 26 undef = .bool (rleM t gc) := hk 26 (by kernel_rfl)
          have e27 : tm.getD 27 undef = .bool (rleM t gc) := hk 27 (by kernel_rfl)
          have e28 : tm.getD 28 undef = t28 := hk 28 (by kernel_rfl)
          have e29 : tm.getD 29 undef = t29 := hk 29 (by kernel_rfl)
          have e30 : tm.getD 30 undef = t30 := hk 30 (by kernel_rfl)
          have e31 : tm.getD 31 undef = .bool (rleM t gc && rleM want wc) := hk 31 (by kernel_rfl)
          have e32 : tm.getD 32 undef = .bool (rleM t gc && rleM want wc) := hk 32 (by kernel_rfl)
          have e33 : tm.getD 33 undef = t33 := hk 33 (by kernel_rfl)
          have e34 : tm.getD 34 undef = t34 := hk 34 (by kernel_rfl)
          have e35 : tm.getD 35 undef = t35 := hk 35 (by kernel_rfl)
          have e36 : tm.getD 36 undef = t36 := hk 36 (by kernel_rfl)
          have e37 : tm.getD 37 undef = .bool ok := hk 37 (by kernel_rfl)
          have e45 : tm.getD 45 undef = undef := hk 45 (by kernel_rfl)
          have e46 : tm.getD 46 undef = undef := hk 46 (by kernel_rfl)
          have e47 : tm.getD 47 undef = undef := hk 47 (by kernel_rfl)
          have e48 : tm.getD 48 undef = undef := hk 48 (by kernel_rfl)
          have e49 : tm.getD 49 undef = undef := hk 49 (by kernel_rfl)
          have e50 : tm.getD 50 undef = undef := hk 50 (by kernel_rfl)
          have e51 : tm.getD 51 undef = undef := hk 51 (by kernel_rfl)
          have e52 : tm.getD 52 undef = undef := hk 52 (by kernel_rfl)
          have e53 : tm.getD 53 undef = undef := hk 53 (by kernel_rfl)
          have e54 : tm.getD 54 undef = undef := hk 54 (by kernel_rfl)
          have e55 : tm.getD 55 undef = undef := hk 55 (by kernel_rfl)
          have e56 : tm.getD 56 undef = undef := hk 56 (by kernel_rfl)
          have e57 : tm.getD 57 undef = undef := hk 57 (by kernel_rfl)
          have e58 : tm.getD 58 undef = undef := hk 58 (by kernel_rfl)
          have e59 : tm.getD 59 undef = undef := hk 59 (by kernel_rfl)
          have e60 : tm.getD 60 undef = undef := hk 60 (by kernel_rfl)
          have e61 : tm.getD 61 undef = undef := hk 61 (by kernel_rfl)
          have g38 : LV t (tm.getD 38 undef) W := hG 0 38 (by decide) rfl
          have g39 : LV g (tm.getD 39 undef) W := hG 1 39 (by decide) rfl
          have g40 : LV want (tm.getD 40 undef) W := hG 2 40 (by decide) rfl
          have g41 : LsV [t, g, want] (tm.getD 41 undef) W := hG 3 41 (by decide) rfl
          have g42 : IV (nmM [t, g, want] ++ [0]) (tm.getD 42 undef) W := hG 4 42 (by decide) rfl
          have g43 : (tm.getD 43 undef) = .int .i64 (((nmM [t, g, want] ++ [0])).length : Nat) := hG 5 43 (by decide) rfl
          have g44 : (tm.getD 44 undef) = .int .i64 0 := hG 6 44 (by decide) rfl
          have htm := arr_of tm (.agg #[.int .i64 t.fst, .slice pt t.snd.length ct] :: .agg #[.int .i64 c.fst, .slice pc c.snd.length cc] :: .agg #[.int .i64 g.fst, .slice pg g.snd.length cg] :: .agg #[.int .i64 gc.fst, .slice pgc gc.snd.length cgc] :: .agg #[.int .i64 want.fst, .slice pwant want.snd.length cwant] :: .agg #[.int .i64 wc.fst, .slice pwc wc.snd.length cwc] :: .pointer (some ⟨w.heap.size, 0, none⟩) :: .pointer (some ⟨w.heap.size + 1, 0, none⟩) :: .pointer (some ⟨w.heap.size + 1 + 1, 0, none⟩) :: .pointer (some ⟨w.heap.size + 1 + 1 + 1, 0, none⟩) :: .pointer (some ⟨w.heap.size + 1 + 1 + 1 + 1, 0, none⟩) :: .pointer (some ⟨w.heap.size + 1 + 1 + 1 + 1 + 1, 0, none⟩) :: .int .i64 0 :: .bool ok :: undef :: undef :: .agg #[.int .i64 want.fst, .slice pwant want.snd.length cwant] :: .bool true :: .bool false :: .bool false :: .agg #[.int .i64 wc.fst, .slice pwc wc.snd.length cwc] :: .bool true :: .bool false :: .bool false :: t24 :: t25 :: .bool (rleM t gc) :: .bool (rleM t gc) :: t28 :: t29 :: t30 :: .bool (rleM t gc && rleM want wc) :: .bool (rleM t gc && rleM want wc) :: t33 :: t34 :: t35 :: t36 :: .bool ok :: tm.getD 38 undef :: tm.getD 39 undef :: tm.getD 40 undef :: tm.getD 41 undef :: tm.getD 42 undef :: tm.getD 43 undef :: tm.getD 44 undef :: undef :: undef :: undef :: undef :: undef :: undef :: undef :: undef :: undef :: undef :: undef :: undef :: undef :: undef :: undef :: undef :: undef :: []) hs (by show (tm.getD 0 undef :: tm.getD 1 undef :: tm.getD 2 undef :: tm.getD 3 undef :: tm.getD 4 undef :: tm.getD 5 undef :: tm.getD 6 undef :: tm.getD 7 undef :: tm.getD 8 undef :: tm.getD 9 undef :: tm.getD 10 undef :: tm.getD 11 undef :: tm.getD 12 undef :: tm.getD 13 undef :: tm.getD 14 undef :: tm.getD 15 undef :: tm.getD 16 undef :: tm.getD 17 undef :: tm.getD 18 undef :: tm.getD 19 undef :: tm.getD 20 undef :: tm.getD 21 undef :: tm.getD 22 undef :: tm.getD 23 undef :: tm.getD 24 undef :: tm.getD 25 undef :: tm.getD 26 undef :: tm.getD 27 undef :: tm.getD 28 undef :: tm.getD 29 undef :: tm.getD 30 undef :: tm.getD 31 undef :: tm.getD 32 undef :: tm.getD 33 undef :: tm.getD 34 undef :: tm.getD 35 undef :: tm.getD 36 undef :: tm.getD 37 undef :: tm.getD 38 undef :: tm.getD 39 undef :: tm.getD 40 undef :: tm.getD 41 undef :: tm.getD 42 undef :: tm.getD 43 undef :: tm.getD 44 undef :: tm.getD 45 undef :: tm.getD 46 undef :: tm.getD 47 undef :: tm.getD 48 undef :: tm.getD 49 undef :: tm.getD 50 undef :: tm.getD 51 undef :: tm.getD 52 undef :: tm.getD 53 undef :: tm.getD 54 undef :: tm.getD 55 undef :: tm.getD 56 undef :: tm.getD 57 undef :: tm.getD 58 undef :: tm.getD 59 undef :: tm.getD 60 undef :: tm.getD 61 undef :: []) = _; rw [e0, e1, e2, e3, e4, e5, e6, e7, e8, e9, e10, e11, e12, e13, e14, e15, e16, e17, e18, e19, e20, e21, e22, e23, e24, e25, e26, e27, e28, e29, e30, e31, e32, e33, e34, e35, e36, e37, e45, e46, e47, e48, e49, e50, e51, e52, e53, e54, e55, e56, e57, e58, e59, e60, e61]; try rfl)
          clear hs hk hG e0 e1 e2 e3 e4 e5 e6 e7 e8 e9 e10 e11 e12 e13 e14 e15 e16 e17 e18 e19 e20 e21 e22 e23 e24 e25 e26 e27 e28 e29 e30 e31 e32 e33 e34 e35 e36 e37 e45 e46 e47 e48 e49 e50 e51 e52 e53 e54 e55 e56 e57 e58 e59 e60 e61
          generalize tm.getD 38 undef = t38 at htm g38
          generalize tm.getD 39 undef = t39 at htm g39
          generalize tm.getD 40 undef = t40 at htm g40
          generalize tm.getD 41 undef = t41 at htm g41
          generalize tm.getD 42 undef = t42 at htm g42
          generalize tm.getD 43 undef = t43 at htm g43
          generalize tm.getD 44 undef = t44 at htm g44
          subst htm
          subst g43
          subst g44
          simp only [List.drop_succ_cons, List.drop_zero]
          have hAE : Below w.heap.size w W := hAD.trans (hB.mono hAD.size)
          have hft := hdt.below hB
          have hfc := hdc.below hB
          have hfg := hdg.below hB
          have hfgc := hdgc.below hB
          have hfwant := hdwant.below hB
          have hfwc := hdwc.below hB
          clear g38 g39 g40 g41
          obtain ⟨cs, hcs⟩ : ∃ cs, nmM [t, g, want] ++ [0] = cs := ⟨_, rfl⟩
          have HCS := Lib.hid hcs
          rw [hcs] at g42
          simp only [hcs]
          clear hcs
          have hlc : cs.length < 1000000 := by
            have h1 := (lsv3 (ht.below hA) (hg.below hA) (hwant.below hA))
            have h2 := nmM_len h1
            rw [← HCS.out, List.length_append]
            simp at h2 ⊢
            omega
          obtain ⟨p, cz, rfl⟩ := g42.form
          have HI := Lib.hid g42
          obtain ⟨w3, hw3⟩ : ∃ w3, w3 = W := ⟨_, rfl⟩
          rw [← hw3] at HI hAE hft hfc hfg hfgc hfwant hfwc ⊢
          clear g42 hw3 hdt hdc hdg hdgc hdwant hdwc hB
          go_wp2_with fail
          go_loopw [13, 44] (fun b i wr => ∃ k : Nat, k ≤ cs.length ∧ i = .int .i64 k ∧ b = .bool (ok && (cs.take k).all (entP t g want)) ∧ Below w3.heap.size w3 wr) (fun _ i _ => cs.length - (intOf i).toNat)
          case atStart => exact ⟨0, Nat.zero_le _, rfl, by simp, Below.refl _ _⟩
          case round =>
            obtain ⟨k, hk, rfl, rfl, hbw⟩ := hrel
            have hBw : Below w.heap.size w wr := hAE.trans (hbw.mono hAE.size)
            by_cases hlt : k < cs.length
            · obtain ⟨gq, rfl, hgq, c0w⟩ := iv_cell HI.out k hlt
              have c0 := (hbw.cell (p := ⟨gq, k, none⟩) hgq).trans c0w
              have HT : Hid ((cs.take (k + 1)).all (entP t g want) = ((cs.take k).all (entP t g want) && entP t g want cs[k])) := by
                simp only [Hid]; rw [List.take_succ_eq_append_getElem hlt, List.all_append]; simp
              have hqt := hft.below hbw
              have hqg := hfg.below hbw
              have hqwant := hfwant.below hbw
              have hki : (k : Int) < (cs.length : Int) := by omega
              obtain ⟨okk, hokk⟩ : ∃ okk, (ok && (cs.take k).all (entP t g want)) = okk := ⟨_, rfl⟩
              rw [hokk]
              have HK := Lib.hid hokk
              clear c0w hokk HI hft hfc hfg hfgc hfwant hfwc
              go_wp2_with fail
              refine wp_region_mono 11 (fun kq v W => match kq with | 48 => v = .bool okk | 49 => v = .bool okk | 50 => (okk = true → LV want v W) | 51 => (okk = true → v = .int .i64 cs[k]) | 52 => (okk = true → v = .int .i64 (aZ want cs[k])) | 53 => (okk = true → LV t v W) | 54 => (okk = true → LV g v W) | 55 => (okk = true → v = .int .i64 cs[k]) | 56 => (okk = true → v = .int .i64 (flZ t g cs[k])) | 57 => (okk = true → v = .bool (decide ((flZ t g cs[k]) ≤ (aZ want cs[k])))) | 58 => v = .bool (okk && (decide ((flZ t g cs[k]) ≤ (aZ want cs[k])))) | _ => True) (by kernel_rfl) (by kernel_rfl) (by kernel_rfl) (by kernel_rfl) (by simp) (by kernel_rfl) ?_ ?_ ?_
              · intro kq v W W' h hb
                revert h
                try dsimp only
                split
                · intro h; exact h
                · intro h; exact h
                · intro h' e; have h := h' e; exact LV.below h hb
                · intro h' e; have h := h' e; exact h
                · intro h' e; have h := h' e; exact h
                · intro h' e; have h := h' e; exact LV.below h hb
                · intro h' e; have h := h' e; exact LV.below h hb
                · intro h' e; have h := h' e; exact h
                · intro h' e; have h := h' e; exact h
                · intro h' e; have h := h' e; exact h
                · intro h; exact h
                · intro h; trivial
              · intro a' W hB hs hk i o d ho hd hG
                match i, ho with
                | 0, ho =>
                  obtain rfl : _ = o := Option.some.inj ho
                  obtain rfl : 48 = d := Option.some.inj hd
                  exact .inr ⟨rfl, .inl ⟨_, W, run_move (hk 13 (by kernel_rfl)), Below.refl _ _, rfl⟩⟩
                | 1, ho =>
                  obtain rfl : _ = o := Option.some.inj ho
                  obtain rfl : 49 = d := Option.some.inj hd
                  have g48 : (a'.eval (.tmp 48)) = .bool okk := hG ⟨0, .data⟩ (by simp) rfl 48 rfl
                  exact .inr ⟨rfl, .inl ⟨_, W, run_move rfl, Below.refl _ _, g48⟩⟩
                | 2, ho =>
                  obtain rfl : _ = o := Option.some.inj ho
                  obtain rfl : 50 = d := Option.some.inj hd
                  have gg : a'.eval (.tmp 49) = .bool okk := hG ⟨1, .guard⟩ (by simp) rfl 49 rfl
                  by_cases hgc_ : okk = true
                  · obtain ⟨v, hr, hv⟩ := run_loadL (ev := a'.eval) (W := W) (hk 10 (by kernel_rfl)) (hqwant.below hB)
                    exact .inr ⟨want_yes (n := 62) (d := 49) rfl hs (by decide) rfl (gg.trans (by rw [hgc_])), .inl ⟨v, W, hr, Below.refl _ _, fun _ => hv⟩⟩
                  · exact .inl ⟨want_no (n := 62) (d := 49) rfl hs (by decide) rfl gg hgc_, fun e => absurd e hgc_⟩
                | 3, ho =>
                  obtain rfl : _ = o := Option.some.inj ho
                  obtain rfl : 51 = d := Option.some.inj hd
                  have gg : a'.eval (.tmp 49) = .bool okk := hG ⟨1, .guard⟩ (by simp) rfl 49 rfl
                  by_cases hgc_ : okk = true
                  · exact .inr ⟨want_yes (n := 62) (d := 49) rfl hs (by decide) rfl (gg.trans (by rw [hgc_])), .inl ⟨_, W, run_move (hk 15 (by kernel_rfl)), Below.refl _ _, fun _ => rfl⟩⟩
                  · exact .inl ⟨want_no (n := 62) (d := 49) rfl hs (by decide) rfl gg hgc_, fun e => absurd e hgc_⟩
                | 4, ho =>
                  obtain rfl : _ = o := Option.some.inj ho
                  obtain rfl : 52 = d := Option.some.inj hd
                  have gg : a'.eval (.tmp 49) = .bool okk := hG ⟨1, .guard⟩ (by simp) rfl 49 rfl
                  by_cases hgc_ : okk = true
                  · have g50 : LV want (a'.eval (.tmp 50)) W := hG ⟨2, .data⟩ (by simp) rfl 50 rfl hgc_
                    have g51 : (a'.eval (.tmp 51)) = .int .i64 cs[k] := hG ⟨3, .data⟩ (by simp) rfl 51 rfl hgc_
                    exact .inr ⟨want_yes (n := 62) (d := 49) rfl hs (by decide) rfl (gg.trans (by rw [hgc_])), .inr ⟨_, _, run_call rfl map_2 ent_gatehouseref07_at, (at_c' g50 g51).mono (fun e W' ⟨v, he, hb, hv⟩ => ⟨v, he, hb, fun _ => hv⟩)⟩⟩
                  · exact .inl ⟨want_no (n := 62) (d := 49) rfl hs (by decide) rfl gg hgc_, fun e => absurd e hgc_⟩
                | 5, ho =>
                  obtain rfl : _ = o := Option.some.inj ho
                  obtain rfl : 53 = d := Option.some.inj hd
                  have gg : a'.eval (.tmp 49) = .bool okk := hG ⟨1, .guard⟩ (by simp) rfl 49 rfl
                  by_cases hgc_ : okk = true
                  · obtain ⟨v, hr, hv⟩ := run_loadL (ev := a'.eval) (W := W) (hk 6 (by kernel_rfl)) (hqt.below hB)
                    exact .inr ⟨want_yes (n := 62) (d := 49) rfl hs (by decide) rfl (gg.trans (by rw [hgc_])), .inl ⟨v, W, hr, Below.refl _ _, fun _ => hv⟩⟩
                  · exact .inl ⟨want_no (n := 62) (d := 49) rfl hs (by decide) rfl gg hgc_, fun e => absurd e hgc_⟩
                | 6, ho =>
                  obtain rfl : _ = o := Option.some.inj ho
                  obtain rfl : 54 = d := Option.some.inj hd
                  have gg : a'.eval (.tmp 49) = .bool okk := hG ⟨1, .guard⟩ (by simp) rfl 49 rfl
                  by_cases hgc_ : okk = true
                  · obtain ⟨v, hr, hv⟩ := run_loadL (ev := a'.eval) (W := W) (hk 8 (by kernel_rfl)) (hqg.below hB)
                    exact .inr ⟨want_yes (n := 62) (d := 49) rfl hs (by decide) rfl (gg.trans (by rw [hgc_])), .inl ⟨v, W, hr, Below.refl _ _, fun _ => hv⟩⟩
                  · exact .inl ⟨want_no (n := 62) (d := 49) rfl hs (by decide) rfl gg hgc_, fun e => absurd e hgc_⟩
                | 7, ho =>
                  obtain rfl : _ = o := Option.some.inj ho
                  obtain rfl : 55 = d := Option.some.inj hd
                  have gg : a'.eval (.tmp 49) = .bool okk := hG ⟨1, .guard⟩ (by simp) rfl 49 rfl
                  by_cases hgc_ : okk = true
                  · exact .inr ⟨want_yes (n := 62) (d := 49) rfl hs (by decide) rfl (gg.trans (by rw [hgc_])), .inl ⟨_, W, run_move (hk 15 (by kernel_rfl)), Below.refl _ _, fun _ => rfl⟩⟩
                  · exact .inl ⟨want_no (n := 62) (d := 49) rfl hs (by decide) rfl gg hgc_, fun e => absurd e hgc_⟩
                | 8, ho =>
                  obtain rfl : _ = o := Option.some.inj ho
                  obtain rfl : 56 = d := Option.some.inj hd
                  have gg : a'.eval (.tmp 49) = .bool okk := hG ⟨1, .guard⟩ (by simp) rfl 49 rfl
                  by_cases hgc_ : okk = true
                  · have g53 : LV t (a'.eval (.tmp 53)) W := hG ⟨5, .data⟩ (by simp) rfl 53 rfl hgc_
                    have g54 : LV g (a'.eval (.tmp 54)) W := hG ⟨6, .data⟩ (by simp) rfl 54 rfl hgc_
                    have g55 : (a'.eval (.tmp 55)) = .int .i64 cs[k] := hG ⟨7, .data⟩ (by simp) rfl 55 rfl hgc_
                    exact .inr ⟨want_yes (n := 62) (d := 49) rfl hs (by decide) rfl (gg.trans (by rw [hgc_])), .inr ⟨_, _, run_call rfl map_3 ent_gatehouseref07_floor, (rfloor_c' g53 g54 g55).mono (fun e W' ⟨v, he, hb, hv⟩ => ⟨v, he, hb, fun _ => hv⟩)⟩⟩
                  · exact .inl ⟨want_no (n := 62) (d := 49) rfl hs (by decide) rfl gg hgc_, fun e => absurd e hgc_⟩
                | 9, ho =>
                  obtain rfl : _ = o := Option.some.inj ho
                  obtain rfl : 57 = d := Option.some.inj hd
                  have gg : a'.eval (.tmp 49) = .bool okk := hG ⟨1, .guard⟩ (by simp) rfl 49 rfl
                  by_cases hgc_ : okk = true
                  · have g52 : (a'.eval (.tmp 52)) = .int .i64 (aZ want cs[k]) := hG ⟨4, .data⟩ (by simp) rfl 52 rfl hgc_
                    have g56 : (a'.eval (.tmp 56)) = .int .i64 (flZ t g cs[k]) := hG ⟨8, .data⟩ (by simp) rfl 56 rfl hgc_
                    exact .inr ⟨want_yes (n := 62) (d := 49) rfl hs (by decide) rfl (gg.trans (by rw [hgc_])), .inl ⟨_, W, run_geq g52 g56, Below.refl _ _, fun _ => rfl⟩⟩
                  · exact .inl ⟨want_no (n := 62) (d := 49) rfl hs (by decide) rfl gg hgc_, fun e => absurd e hgc_⟩
                | 10, ho =>
                  obtain rfl : _ = o := Option.some.inj ho
                  obtain rfl : 58 = d := Option.some.inj hd
                  have g49 : (a'.eval (.tmp 49)) = .bool okk := hG ⟨1, .data⟩ (by simp) rfl 49 rfl
                  by_cases hq : okk = true
                  · exact .inr ⟨rfl, .inl ⟨_, W, run_pick_yes (g49.trans (by rw [hq])) (hG ⟨9, .data⟩ (by simp) rfl 57 rfl hq), Below.refl _ _, by rw [hq]; rfl⟩⟩
                  · have hq' : okk = false := by simpa using hq
                    exact .inr ⟨rfl, .inl ⟨_, W, run_pick_no (g49.trans (by rw [hq'])) rfl, Below.refl _ _, by rw [hq']; rfl⟩⟩
                | j + 11, ho => simp at ho
              · intro a' W hB hs hdf hk hG
                obtain ⟨tm, df⟩ := a'
                obtain rfl : df = [] := hdf
                have e0 : tm.getD 0 undef = .agg #[.int .i64 t.fst, .slice pt t.snd.length ct] := hk 0 (by kernel_rfl)
                have e1 : tm.getD 1 undef = .agg #[.int .i64 c.fst, .slice pc c.snd.length cc] := hk 1 (by kernel_rfl)
                have e2 : tm.getD 2 undef = .agg #[.int .i64 g.fst, .slice pg g.snd.length cg] := hk 2 (by kernel_rfl)
                have e3 : tm.getD 3 undef = .agg #[.int .i64 gc.fst, .slice pgc gc.snd.length cgc] := hk 3 (by kernel_rfl)
                have e4 : tm.getD 4 undef = .agg #[.int .i64 want.fst, .slice pwant want.snd.length cwant] := hk 4 (by kernel_rfl)
                have e5 : tm.getD 5 undef = .agg #[.int .i64 wc.fst, .slice pwc wc.snd.length cwc] := hk 5 (by kernel_rfl)
                have e6 : tm.getD 6 undef = .pointer (some ⟨w.heap.size, 0, none⟩) := hk 6 (by kernel_rfl)
                have e7 : tm.getD 7 undef = .pointer (some ⟨w.heap.size + 1, 0, none⟩) := hk 7 (by kernel_rfl)
                have e8 : tm.getD 8 undef = .pointer (some ⟨w.heap.size + 1 + 1, 0, none⟩) := hk 8 (by kernel_rfl)
                have e9 : tm.getD 9 undef = .pointer (some ⟨w.heap.size + 1 + 1 + 1, 0, none⟩) := hk 9 (by kernel_rfl)
                have e10 : tm.getD 10 undef = .pointer (some ⟨w.heap.size + 1 + 1 + 1 + 1, 0, none⟩) := hk 10 (by kernel_rfl)
                have e11 : tm.getD 11 undef = .pointer (some ⟨w.heap.size + 1 + 1 + 1 + 1 + 1, 0, none⟩) := hk 11 (by kernel_rfl)
                have e12 : tm.getD 12 undef = .int .i64 0 := hk 12 (by kernel_rfl)
                have e13 : tm.getD 13 undef = .bool okk := hk 13 (by kernel_rfl)
                have e14 : tm.getD 14 undef = undef := hk 14 (by kernel_rfl)
                have e15 : tm.getD 15 undef = .int .i64 cs[k] := hk 15 (by kernel_rfl)
                have e16 : tm.getD 16 undef = .agg #[.int .i64 want.fst, .slice pwant want.snd.length cwant] := hk 16 (by kernel_rfl)
                have e17 : tm.getD 17 undef = .bool true := hk 17 (by kernel_rfl)
                have e18 : tm.getD 18 undef = .bool false := hk 18 (by kernel_rfl)
                have e19 : tm.getD 19 undef = .bool false := hk 19 (by kernel_rfl)
                have e20 : tm.getD 20 undef = .agg #[.int .i64 wc.fst, .slice pwc wc.snd.length cwc] := hk 20 (by kernel_rfl)
                have e21 : tm.getD 21 undef = .bool true := hk 21 (by kernel_rfl)
                have e22 : tm.getD 22 undef = .bool false := hk 22 (by kernel_rfl)
                have e23 : tm.getD 23 undef = .bool false := hk 23 (by kernel_rfl)
                have e24 : tm.getD 24 undef = t24 := hk 24 (by kernel_rfl)
                have e25 : tm.getD 25 undef = t25 := hk 25 (by kernel_rfl)
                have e26 : tm.getD 26 undef = .bool (rleM t gc) := hk 26 (by kernel_rfl)
                have e27 : tm.getD 27 undef = .bool (rleM t gc) := hk 27 (by kernel_rfl)
                have e28 : tm.getD 28 undef = t28 := hk 28 (by kernel_rfl)
                have e29 : tm.getD 29 undef = t29 := hk 29 (by kernel_rfl)
                have e30 : tm.getD 30 undef = t30 := hk 30 (by kernel_rfl)
                have e31 : tm.getD 31 undef = .bool (rleM t gc && rleM want wc) := hk 31 (by kernel_rfl)
                have e32 : tm.getD 32 undef = .bool (rleM t gc && rleM want wc) := hk 32 (by kernel_rfl)
                have e33 : tm.getD 33 undef = t33 := hk 33 (by kernel_rfl)
                have e34 : tm.getD 34 undef = t34 := hk 34 (by kernel_rfl)
                have e35 : tm.getD 35 undef = t35 := hk 35 (by kernel_rfl)
                have e36 : tm.getD 36 undef = t36 := hk 36 (by kernel_rfl)
                have e37 : tm.getD 37 undef = .bool ok := hk 37 (by kernel_rfl)
                have e38 : tm.getD 38 undef = t38 := hk 38 (by kernel_rfl)
                have e39 : tm.getD 39 undef = t39 := hk 39 (by kernel_rfl)
                have e40 : tm.getD 40 undef = t40 := hk 40 (by kernel_rfl)
                have e41 : tm.getD 41 undef = t41 := hk 41 (by kernel_rfl)
                have e42 : tm.getD 42 undef = .slice (some ⟨gq, 0, none⟩) cs.length cz := hk 42 (by kernel_rfl)
                have e43 : tm.getD 43 undef = .int .i64 cs.length := hk 43 (by kernel_rfl)
                have e44 : tm.getD 44 undef = .int .i64 k := hk 44 (by kernel_rfl)
                have e45 : tm.getD 45 undef = .bool true := hk 45 (by kernel_rfl)
                have e46 : tm.getD 46 undef = .pointer (some { block := gq, off := k }) := hk 46 (by kernel_rfl)
                have e47 : tm.getD 47 undef = .int .i64 cs[k] := hk 47 (by kernel_rfl)
                have e59 : tm.getD 59 undef = u59 := hk 59 (by kernel_rfl)
                have e60 : tm.getD 60 undef = undef := hk 60 (by kernel_rfl)
                have e61 : tm.getD 61 undef = undef := hk 61 (by kernel_rfl)
                have g48 : (tm.getD 48 undef) = .bool okk := hG 0 48 (by decide) rfl
                have g49 : (tm.getD 49 undef) = .bool okk := hG 1 49 (by decide) rfl
                have g50 : okk = true → LV want (tm.getD 50 undef) W := hG 2 50 (by decide) rfl
                have g51 : okk = true → (tm.getD 51 undef) = .int .i64 cs[k] := hG 3 51 (by decide) rfl
                have g52 : okk = true → (tm.getD 52 undef) = .int .i64 (aZ want cs[k]) := hG 4 52 (by decide) rfl
                have g53 : okk = true → LV t (tm.getD 53 undef) W := hG 5 53 (by decide) rfl
                have g54 : okk = true → LV g (tm.getD 54 undef) W := hG 6 54 (by decide) rfl
                have g55 : okk = true → (tm.getD 55 undef) = .int .i64 cs[k] := hG 7 55 (by decide) rfl
                have g56 : okk = true → (tm.getD 56 undef) = .int .i64 (flZ t g cs[k]) := hG 8 56 (by decide) rfl
                have g57 : okk = true → (tm.getD 57 undef) = .bool (decide ((flZ t g cs[k]) ≤ (aZ want cs[k]))) := hG 9 57 (by decide) rfl
                have g58 : (tm.getD 58 undef) = .bool (okk && (decide ((flZ t g cs[k]) ≤ (aZ want cs[k])))) := hG 10 58 (by decide) rfl
                have htm := arr_of tm (.agg #[.int .i64 t.fst, .slice pt t.snd.length ct] :: .agg #[.int .i64 c.fst, .slice pc c.snd.length cc] :: .agg #[.int .i64 g.fst, .slice pg g.snd.length cg] :: .agg #[.int .i64 gc.fst, .slice pgc gc.snd.length cgc] :: .agg #[.int .i64 want.fst, .slice pwant want.snd.length cwant] :: .agg #[.int .i64 wc.fst, .slice pwc wc.snd.length cwc] :: .pointer (some ⟨w.heap.size, 0, none⟩) :: .pointer (some ⟨w.heap.size + 1, 0, none⟩) :: .pointer (some ⟨w.heap.size + 1 + 1, 0, none⟩) :: .pointer (some ⟨w.heap.size + 1 + 1 + 1, 0, none⟩) :: .pointer (some ⟨w.heap.size + 1 + 1 + 1 + 1, 0, none⟩) :: .pointer (some ⟨w.heap.size + 1 + 1 + 1 + 1 + 1, 0, none⟩) :: .int .i64 0 :: .bool okk :: undef :: .int .i64 cs[k] :: .agg #[.int .i64 want.fst, .slice pwant want.snd.length cwant] :: .bool true :: .bool false :: .bool false :: .agg #[.int .i64 wc.fst, .slice pwc wc.snd.length cwc] :: .bool true :: .bool false :: .bool false :: t24 :: t25 :: .bool (rleM t gc) :: .bool (rleM t gc) :: t28 :: t29 :: t30 :: .bool (rleM t gc && rleM want wc) :: .bool (rleM t gc && rleM want wc) :: t33 :: t34 :: t35 :: t36 :: .bool ok :: t38 :: t39 :: t40 :: t41 :: .slice (some ⟨gq, 0, none⟩) cs.length cz :: .int .i64 cs.length :: .int .i64 k :: .bool true :: .pointer (some { block := gq, off := k }) :: .int .i64 cs[k] :: tm.getD 48 undef :: tm.getD 49 undef :: tm.getD 50 undef :: tm.getD 51 undef :: tm.getD 52 undef :: tm.getD 53 undef :: tm.getD 54 undef :: tm.getD 55 undef :: tm.getD 56 undef :: tm.getD 57 undef :: tm.getD 58 undef :: u59 :: undef :: undef :: []) hs (by show (tm.getD 0 undef :: tm.getD 1 undef :: tm.getD 2 undef :: tm.getD 3 undef :: tm.getD 4 undef :: tm.getD 5 undef :: tm.getD 6 undef :: tm.getD 7 undef :: tm.getD 8 undef :: tm.getD 9 undef :: tm.getD 10 undef :: tm.getD 11 undef :: tm.getD 12 undef :: tm.getD 13 undef :: tm.getD 14 undef :: tm.getD 15 undef :: tm.getD 16 undef :: tm.getD 17 undef :: tm.getD 18 undef :: tm.getD 19 undef :: tm.getD 20 undef :: tm.getD 21 undef :: tm.getD 22 undef :: tm.getD 23 undef :: tm.getD 24 undef :: tm.getD 25 undef :: tm.getD 26 undef :: tm.getD 27 undef :: tm.getD 28 undef :: tm.getD 29 undef :: tm.getD 30 undef :: tm.getD 31 undef :: tm.getD 32 undef :: tm.getD 33 undef :: tm.getD 34 undef :: tm.getD 35 undef :: tm.getD 36 undef :: tm.getD 37 undef :: tm.getD 38 undef :: tm.getD 39 undef :: tm.getD 40 undef :: tm.getD 41 undef :: tm.getD 42 undef :: tm.getD 43 undef :: tm.getD 44 undef :: tm.getD 45 undef :: tm.getD 46 undef :: tm.getD 47 undef :: tm.getD 48 undef :: tm.getD 49 undef :: tm.getD 50 undef :: tm.getD 51 undef :: tm.getD 52 undef :: tm.getD 53 undef :: tm.getD 54 undef :: tm.getD 55 undef :: tm.getD 56 undef :: tm.getD 57 undef :: tm.getD 58 undef :: tm.getD 59 undef :: tm.getD 60 undef :: tm.getD 61 undef :: []) = _; rw [e0, e1, e2, e3, e4, e5, e6, e7, e8, e9, e10, e11, e12, e13, e14, e15, e16, e17, e18, e19, e20, e21, e22, e23, e24, e25, e26, e27, e28, e29, e30, e31, e32, e33, e34, e35, e36, e37, e38, e39, e40, e41, e42, e43, e44, e45, e46, e47, e59, e60, e61]; try rfl)
                clear hs hk hG e0 e1 e2 e3 e4 e5 e6 e7 e8 e9 e10 e11 e12 e13 e14 e15 e16 e17 e18 e19 e20 e21 e22 e23 e24 e25 e26 e27 e28 e29 e30 e31 e32 e33 e34 e35 e36 e37 e38 e39 e40 e41 e42 e43 e44 e45 e46 e47 e59 e60 e61
                generalize tm.getD 48 undef = t48 at htm g48
                generalize tm.getD 49 undef = t49 at htm g49
                generalize tm.getD 50 undef = t50 at htm g50
                generalize tm.getD 51 undef = t51 at htm g51
                generalize tm.getD 52 undef = t52 at htm g52
                generalize tm.getD 53 undef = t53 at htm g53
                generalize tm.getD 54 undef = t54 at htm g54
                generalize tm.getD 55 undef = t55 at htm g55
                generalize tm.getD 56 undef = t56 at htm g56
                generalize tm.getD 57 undef = t57 at htm g57
                generalize tm.getD 58 undef = t58 at htm g58
                subst htm
                subst g48
                subst g49
                subst g58
                simp only [List.drop_succ_cons, List.drop_zero]
                have HB : Hid (Below w3.heap.size w3 W) := hbw.trans (hB.mono hbw.size)
                obtain ⟨ok2, hok2⟩ : ∃ x, (okk && decide (flZ t g cs[k] ≤ aZ want cs[k])) = x := ⟨_, rfl⟩
                have HN : Hid ((ok && (cs.take (k + 1)).all (entP t g want)) = ok2) := by
                  simp only [Hid]; rw [HT.out, ← Bool.and_assoc, HK.out, ← hok2]; rfl
                simp only [hok2]
                clear hok2 hB hbw hBw hqt hqg hqwant g50 g51 g52 g53 g54 g55 g56 g57
                go_wp2
                go_roundw
                case rel => exact ⟨k + 1, by omega, by go_num, by rw [HN.out], HB.out⟩
                case measure => simp [intOf]; omega
            · obtain rfl : k = cs.length := by omega
              rw [List.take_length]
              have hkk : ¬ (cs.length : Int) < (cs.length : Int) := by omega
              have HS : Hid (∀ W b, Calls Try.prog 35 #[.bool b] W fun e w' => ∃ v', e = .returned v' ∧ Below W.heap.size W w' ∧ v' = .int .i64 (sayI b)) := fun W b => say_c' rfl
              obtain ⟨okf, hokf⟩ : ∃ x, (ok && cs.all (entP t g want)) = x := ⟨_, rfl⟩
              rw [hokf]
              have HF2 := Lib.hid hokf
              clear hokf HI
              go_wp2_with (go_at_call 35; refine (HS.out _ _).mono ?_; rintro e w5 ⟨_, rfl, hb5, rfl⟩)
              go_ret
              exact ⟨_, rfl, hBw.trans (hb5.mono hBw.size), by unfold renterI; rw [HX.out, HY.out, HCS.out, HOK.out, HF2.out]; rfl⟩
    | false =>
      go_enter Try.func26, Try.ntmps26
      go_wp2_with (first | (go_at_call 24; refine HP.out.mono ?_; rintro e w1 ⟨_, rfl, hb1, rfl⟩; have hAB : Below w.heap.size w w1 := hA.trans (hb1.mono hA.size); have bwc0 : w1.cell? ⟨w.heap.size + 1 + 1 + 1 + 1 + 1, 0, none⟩ = some (.int .i64 wc.1) := (hb1.cell (p := ⟨w.heap.size + 1 + 1 + 1 + 1 + 1, 0, none⟩) (by simp <;> omega)).trans (by simp [go_sem]); have bwc1 : w1.cell? ⟨w.heap.size + 1 + 1 + 1 + 1 + 1, 1, none⟩ = some (.slice pwc wc.2.length cwc) := (hb1.cell (p := ⟨w.heap.size + 1 + 1 + 1 + 1 + 1, 1, none⟩) (by simp <;> omega)).trans (by simp [go_sem])) | (go_at_call 29; refine (HF.out w1 hAB).mono ?_; rintro e w2 ⟨_, rfl, hb2, rfl⟩))
      go_ret
      exact ⟨_, rfl, hAB.trans (hb2.mono hAB.size), by unfold renterI; rw [HX.out, HY.out]; rfl⟩
  | false =>
    go_enter Try.func26, Try.ntmps26
    go_wp2_with (go_at_call 24; refine HP.out.mono ?_; rintro e w1 ⟨_, rfl, hb1, rfl⟩)
    go_ret
    exact ⟨_, rfl, hA.trans (hb1.mono hA.size), by unfold renterI; rw [HX.out]; rfl⟩
end Go.Proofs.Ytnjmgholoigpkaa
