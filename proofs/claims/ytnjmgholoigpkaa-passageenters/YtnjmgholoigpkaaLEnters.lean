/- PassageEnters: the walk of the statement. -/
import Derived.Test.YtnjmgholoigpkaaSem2
namespace Go.Proofs.Ytnjmgholoigpkaa
open Go.RowKit Go.Sort
theorem ent_gatehouseref07_Enter : Enters 26 := fun args W => by go_simp
set_option maxRecDepth 100000 in
set_option maxHeartbeats 2000000 in
theorem PassageEnters_any (t tc g gc want wc : ML) (pt ptc pg pgc pwant pwc : Option Addr) (ct ctc cg cgc cwant cwc : Nat) (w : World) (ht : CatsAt w pt t.2) (lt : t.2.length ≤ ct) (mt : t.2.length ≤ maxLen) (htc : CatsAt w ptc tc.2) (ltc : tc.2.length ≤ ctc) (mtc : tc.2.length ≤ maxLen) (hg : CatsAt w pg g.2) (lg : g.2.length ≤ cg) (mg : g.2.length ≤ maxLen) (hgc : CatsAt w pgc gc.2) (lgc : gc.2.length ≤ cgc) (mgc : gc.2.length ≤ maxLen) (hwant : CatsAt w pwant want.2) (lwant : want.2.length ≤ cwant) (mwant : want.2.length ≤ maxLen) (hwc : CatsAt w pwc wc.2) (lwc : wc.2.length ≤ cwc) (mwc : wc.2.length ≤ maxLen) :
    Calls Try.prog 6 #[.agg #[.int .i64 t.1, .slice pt t.2.length ct, .int .i64 tc.1, .slice ptc tc.2.length ctc], .agg #[.int .i64 g.1, .slice pg g.2.length cg, .int .i64 gc.1, .slice pgc gc.2.length cgc], .agg #[.int .i64 want.1, .slice pwant want.2.length cwant, .int .i64 wc.1, .slice pwc wc.2.length cwc]] w fun e w' => e = .returned (.bool true) ∧ Below w.heap.size w w' := by
  obtain ⟨W0, hW0⟩ : ∃ W0, W0 = (((w.alloc (.cells #[.int .i64 t.1, .slice pt t.2.length ct, .int .i64 tc.1, .slice ptc tc.2.length ctc] 26)).alloc (.cells #[.int .i64 g.1, .slice pg g.2.length cg, .int .i64 gc.1, .slice pgc gc.2.length cgc] 26)).alloc (.cells #[.int .i64 want.1, .slice pwant want.2.length cwant, .int .i64 wc.1, .slice pwc wc.2.length cwc] 26)) := ⟨_, rfl⟩
  have hA : Below w.heap.size w W0 := by rw [hW0]; go_grown
  have hbt : LBg t W0 (w.heap.size) 0 := ⟨pt, ct, by rw [hW0]; simp <;> omega, by rw [hW0]; simp [go_sem], by rw [hW0]; simp [go_sem], ht.below hA, lt, mt⟩
  have hbtc : LBg tc W0 (w.heap.size) 2 := ⟨ptc, ctc, by rw [hW0]; simp <;> omega, by rw [hW0]; simp [go_sem], by rw [hW0]; simp [go_sem], htc.below hA, ltc, mtc⟩
  have hbg : LBg g W0 (w.heap.size + 1) 0 := ⟨pg, cg, by rw [hW0]; simp <;> omega, by rw [hW0]; simp [go_sem], by rw [hW0]; simp [go_sem], hg.below hA, lg, mg⟩
  have hbgc : LBg gc W0 (w.heap.size + 1) 2 := ⟨pgc, cgc, by rw [hW0]; simp <;> omega, by rw [hW0]; simp [go_sem], by rw [hW0]; simp [go_sem], hgc.below hA, lgc, mgc⟩
  have hbwant : LBg want W0 (w.heap.size + 1 + 1) 0 := ⟨pwant, cwant, by rw [hW0]; simp <;> omega, by rw [hW0]; simp [go_sem], by rw [hW0]; simp [go_sem], hwant.below hA, lwant, mwant⟩
  have hbwc : LBg wc W0 (w.heap.size + 1 + 1) 2 := ⟨pwc, cwc, by rw [hW0]; simp <;> omega, by rw [hW0]; simp [go_sem], by rw [hW0]; simp [go_sem], hwc.below hA, lwc, mwc⟩
  go_enter Try.func6, Try.ntmps6
  go_upto_region 3 with (go_at_call 9; rw [← hW0]; refine (lives_c _).mono ?_; rintro e w1 ⟨rfl, hb1⟩)
  have hct := hbt.below hb1
  have hctc := hbtc.below hb1
  have hcg := hbg.below hb1
  have hcgc := hbgc.below hb1
  have hcwant := hbwant.below hb1
  have hcwc := hbwc.below hb1
  have hA1 : Below w.heap.size w w1 := hA.trans (hb1.mono hA.size)
  refine wp_region_monoF 23 (fun kq v W => match kq with | 9 => v = .pointer (some ⟨w.heap.size, 2, none⟩) | 10 => LVg tc v W | 11 => v = .pointer (some ⟨w.heap.size + 1, 2, none⟩) | 12 => LVg gc v W | 13 => v = .pointer (some ⟨w.heap.size + 1 + 1, 0, none⟩) | 14 => LVg want v W | 15 => v = .pointer (some ⟨w.heap.size + 1 + 1, 2, none⟩) | 16 => LVg wc v W | 17 => LsVg [tc, gc, want, wc] v W | 18 => v = .bool ([tc, gc, want, wc].all rightM) | 19 => v = .bool (!([tc, gc, want, wc].all rightM)) | 20 => v = .bool (!([tc, gc, want, wc].all rightM)) | 21 => ((!([tc, gc, want, wc].all rightM)) = false → v = .pointer (some ⟨w.heap.size, 0, none⟩)) | 22 => ((!([tc, gc, want, wc].all rightM)) = false → LVg t v W) | 23 => ((!([tc, gc, want, wc].all rightM)) = false → v = .bool (plainS t.1 t.2)) | 24 => ((!([tc, gc, want, wc].all rightM)) = false → v = .bool (!(plainS t.1 t.2))) | 25 => v = .bool ((!([tc, gc, want, wc].all rightM)) || (!(plainS t.1 t.2))) | 26 => v = .bool ((!([tc, gc, want, wc].all rightM)) || (!(plainS t.1 t.2))) | 27 => (((!([tc, gc, want, wc].all rightM)) || (!(plainS t.1 t.2))) = false → v = .pointer (some ⟨w.heap.size + 1, 0, none⟩)) | 28 => (((!([tc, gc, want, wc].all rightM)) || (!(plainS t.1 t.2))) = false → LVg g v W) | 29 => (((!([tc, gc, want, wc].all rightM)) || (!(plainS t.1 t.2))) = false → v = .bool (plainS g.1 g.2)) | 30 => (((!([tc, gc, want, wc].all rightM)) || (!(plainS t.1 t.2))) = false → v = .bool (!(plainS g.1 g.2))) | 31 => v = .bool (((!([tc, gc, want, wc].all rightM)) || (!(plainS t.1 t.2))) || (!(plainS g.1 g.2))) | _ => True) (by kernel_rfl) (by kernel_rfl) (by simp) ?_ ?_ ?_
  · intro kq v W W' h hb
    revert h
    try dsimp only
    split
    · intro h; exact h
    · intro h; exact LVg.below h hb
    · intro h; exact h
    · intro h; exact LVg.below h hb
    · intro h; exact h
    · intro h; exact LVg.below h hb
    · intro h; exact h
    · intro h; exact LVg.below h hb
    · intro h; exact LsVg.below h hb
    · intro h; exact h
    · intro h; exact h
    · intro h; exact h
    · intro h' e; have h := h' e; exact h
    · intro h' e; have h := h' e; exact LVg.below h hb
    · intro h' e; have h := h' e; exact h
    · intro h' e; have h := h' e; exact h
    · intro h; exact h
    · intro h; exact h
    · intro h' e; have h := h' e; exact h
    · intro h' e; have h := h' e; exact LVg.below h hb
    · intro h' e; have h := h' e; exact h
    · intro h' e; have h := h' e; exact h
    · intro h; exact h
    · intro h; trivial
  · intro a' W hB hs hk i o d ho hd hG
    match i, ho with
    | 0, ho =>
      obtain rfl : _ = o := Option.some.inj ho
      obtain rfl : 9 = d := Option.some.inj hd
      exact .inr ⟨rfl, .inl ⟨_, W, run_fa1 (hk 3 (by kernel_rfl)), Below.refl _ _, rfl⟩⟩
    | 1, ho =>
      obtain rfl : _ = o := Option.some.inj ho
      obtain rfl : 10 = d := Option.some.inj hd
      have g9 : (a'.eval (.tmp 9)) = .pointer (some ⟨w.heap.size, 2, none⟩) := hG ⟨0, .data⟩ (by simp) rfl 9 rfl
      obtain ⟨v, hr, hv⟩ := run_loadLg (ev := a'.eval) (W := W) g9 (hctc.below hB)
      exact .inr ⟨rfl, .inl ⟨v, W, hr, Below.refl _ _, hv⟩⟩
    | 2, ho =>
      obtain rfl : _ = o := Option.some.inj ho
      obtain rfl : 11 = d := Option.some.inj hd
      exact .inr ⟨rfl, .inl ⟨_, W, run_fa1 (hk 4 (by kernel_rfl)), Below.refl _ _, rfl⟩⟩
    | 3, ho =>
      obtain rfl : _ = o := Option.some.inj ho
      obtain rfl : 12 = d := Option.some.inj hd
      have g11 : (a'.eval (.tmp 11)) = .pointer (some ⟨w.heap.size + 1, 2, none⟩) := hG ⟨2, .data⟩ (by simp) rfl 11 rfl
      obtain ⟨v, hr, hv⟩ := run_loadLg (ev := a'.eval) (W := W) g11 (hcgc.below hB)
      exact .inr ⟨rfl, .inl ⟨v, W, hr, Below.refl _ _, hv⟩⟩
    | 4, ho =>
      obtain rfl : _ = o := Option.some.inj ho
      obtain rfl : 13 = d := Option.some.inj hd
      exact .inr ⟨rfl, .inl ⟨_, W, run_fa0 (hk 5 (by kernel_rfl)), Below.refl _ _, rfl⟩⟩
    | 5, ho =>
      obtain rfl : _ = o := Option.some.inj ho
      obtain rfl : 14 = d := Option.some.inj hd
      have g13 : (a'.eval (.tmp 13)) = .pointer (some ⟨w.heap.size + 1 + 1, 0, none⟩) := hG ⟨4, .data⟩ (by simp) rfl 13 rfl
      obtain ⟨v, hr, hv⟩ := run_loadLg (ev := a'.eval) (W := W) g13 (hcwant.below hB)
      exact .inr ⟨rfl, .inl ⟨v, W, hr, Below.refl _ _, hv⟩⟩
    | 6, ho =>
      obtain rfl : _ = o := Option.some.inj ho
      obtain rfl : 15 = d := Option.some.inj hd
      exact .inr ⟨rfl, .inl ⟨_, W, run_fa1 (hk 5 (by kernel_rfl)), Below.refl _ _, rfl⟩⟩
    | 7, ho =>
      obtain rfl : _ = o := Option.some.inj ho
      obtain rfl : 16 = d := Option.some.inj hd
      have g15 : (a'.eval (.tmp 15)) = .pointer (some ⟨w.heap.size + 1 + 1, 2, none⟩) := hG ⟨6, .data⟩ (by simp) rfl 15 rfl
      obtain ⟨v, hr, hv⟩ := run_loadLg (ev := a'.eval) (W := W) g15 (hcwc.below hB)
      exact .inr ⟨rfl, .inl ⟨v, W, hr, Below.refl _ _, hv⟩⟩
    | 8, ho =>
      obtain rfl : _ = o := Option.some.inj ho
      obtain rfl : 17 = d := Option.some.inj hd
      have g10 : LVg tc (a'.eval (.tmp 10)) W := hG ⟨1, .data⟩ (by simp) rfl 10 rfl
      have g12 : LVg gc (a'.eval (.tmp 12)) W := hG ⟨3, .data⟩ (by simp) rfl 12 rfl
      have g14 : LVg want (a'.eval (.tmp 14)) W := hG ⟨5, .data⟩ (by simp) rfl 14 rfl
      have g16 : LVg wc (a'.eval (.tmp 16)) W := hG ⟨7, .data⟩ (by simp) rfl 16 rfl
      obtain ⟨v, W', hr, hb, hv⟩ := run_slice4g (ev := a'.eval) (W := W) rfl rfl rfl rfl g10 g12 g14 g16
      exact .inr ⟨rfl, .inl ⟨v, W', hr, hb, hv⟩⟩
    | 9, ho =>
      obtain rfl : _ = o := Option.some.inj ho
      obtain rfl : 18 = d := Option.some.inj hd
      have g17 : LsVg [tc, gc, want, wc] (a'.eval (.tmp 17)) W := hG ⟨8, .data⟩ (by simp) rfl 17 rfl
      exact .inr ⟨rfl, .inr ⟨_, _, run_call rfl map_1 ent_gatehouselaw07_right, right_c g17 (by simp)⟩⟩
    | 10, ho =>
      obtain rfl : _ = o := Option.some.inj ho
      obtain rfl : 19 = d := Option.some.inj hd
      have g18 : (a'.eval (.tmp 18)) = .bool ([tc, gc, want, wc].all rightM) := hG ⟨9, .data⟩ (by simp) rfl 18 rfl
      exact .inr ⟨rfl, .inl ⟨_, W, run_not g18, Below.refl _ _, rfl⟩⟩
    | 11, ho =>
      obtain rfl : _ = o := Option.some.inj ho
      obtain rfl : 20 = d := Option.some.inj hd
      have g19 : (a'.eval (.tmp 19)) = .bool (!([tc, gc, want, wc].all rightM)) := hG ⟨10, .data⟩ (by simp) rfl 19 rfl
      exact .inr ⟨rfl, .inl ⟨_, W, run_move rfl, Below.refl _ _, g19⟩⟩
    | 12, ho =>
      obtain rfl : _ = o := Option.some.inj ho
      obtain rfl : 21 = d := Option.some.inj hd
      have gg : a'.eval (.tmp 20) = .bool (!([tc, gc, want, wc].all rightM)) := hG ⟨11, .guard⟩ (by simp) rfl 20 rfl
      by_cases hgc_ : (!([tc, gc, want, wc].all rightM)) = false
      · exact .inr ⟨want_yes (n := 59) (d := 20) rfl hs (by decide) rfl (gg.trans (by rw [hgc_])), .inl ⟨_, W, run_fa0 (hk 3 (by kernel_rfl)), Below.refl _ _, fun _ => rfl⟩⟩
      · exact .inl ⟨want_no (n := 59) (d := 20) rfl hs (by decide) rfl gg hgc_, fun e => absurd e hgc_⟩
    | 13, ho =>
      obtain rfl : _ = o := Option.some.inj ho
      obtain rfl : 22 = d := Option.some.inj hd
      have gg : a'.eval (.tmp 20) = .bool (!([tc, gc, want, wc].all rightM)) := hG ⟨11, .guard⟩ (by simp) rfl 20 rfl
      by_cases hgc_ : (!([tc, gc, want, wc].all rightM)) = false
      · have g21 : (a'.eval (.tmp 21)) = .pointer (some ⟨w.heap.size, 0, none⟩) := hG ⟨12, .data⟩ (by simp) rfl 21 rfl hgc_
        obtain ⟨v, hr, hv⟩ := run_loadLg (ev := a'.eval) (W := W) g21 (hct.below hB)
        exact .inr ⟨want_yes (n := 59) (d := 20) rfl hs (by decide) rfl (gg.trans (by rw [hgc_])), .inl ⟨v, W, hr, Below.refl _ _, fun _ => hv⟩⟩
      · exact .inl ⟨want_no (n := 59) (d := 20) rfl hs (by decide) rfl gg hgc_, fun e => absurd e hgc_⟩
    | 14, ho =>
      obtain rfl : _ = o := Option.some.inj ho
      obtain rfl : 23 = d := Option.some.inj hd
      have gg : a'.eval (.tmp 20) = .bool (!([tc, gc, want, wc].all rightM)) := hG ⟨11, .guard⟩ (by simp) rfl 20 rfl
      by_cases hgc_ : (!([tc, gc, want, wc].all rightM)) = false
      · have g22 : LVg t (a'.eval (.tmp 22)) W := hG ⟨13, .data⟩ (by simp) rfl 22 rfl hgc_
        exact .inr ⟨want_yes (n := 59) (d := 20) rfl hs (by decide) rfl (gg.trans (by rw [hgc_])), .inr ⟨_, _, run_call rfl map_1 ent_gatehouseref01_Plain, (gPlain_c g22).mono (fun e W' ⟨v, he, hb, hv⟩ => ⟨v, he, hb, fun _ => hv⟩)⟩⟩
      · exact .inl ⟨want_no (n := 59) (d := 20) rfl hs (by decide) rfl gg hgc_, fun e => absurd e hgc_⟩
    | 15, ho =>
      obtain rfl : _ = o := Option.some.inj ho
      obtain rfl : 24 = d := Option.some.inj hd
      have gg : a'.eval (.tmp 20) = .bool (!([tc, gc, want, wc].all rightM)) := hG ⟨11, .guard⟩ (by simp) rfl 20 rfl
      by_cases hgc_ : (!([tc, gc, want, wc].all rightM)) = false
      · have g23 : (a'.eval (.tmp 23)) = .bool (plainS t.1 t.2) := hG ⟨14, .data⟩ (by simp) rfl 23 rfl hgc_
        exact .inr ⟨want_yes (n := 59) (d := 20) rfl hs (by decide) rfl (gg.trans (by rw [hgc_])), .inl ⟨_, W, run_not g23, Below.refl _ _, fun _ => rfl⟩⟩
      · exact .inl ⟨want_no (n := 59) (d := 20) rfl hs (by decide) rfl gg hgc_, fun e => absurd e hgc_⟩
    | 16, ho =>
      obtain rfl : _ = o := Option.some.inj ho
      obtain rfl : 25 = d := Option.some.inj hd
      have g20 : (a'.eval (.tmp 20)) = .bool (!([tc, gc, want, wc].all rightM)) := hG ⟨11, .data⟩ (by simp) rfl 20 rfl
      by_cases hq : (!([tc, gc, want, wc].all rightM)) = true
      · exact .inr ⟨rfl, .inl ⟨_, W, run_pick_yes (g20.trans (by rw [hq])) rfl, Below.refl _ _, by rw [hq]; rfl⟩⟩
      · have hq' : (!([tc, gc, want, wc].all rightM)) = false := by simpa using hq
        exact .inr ⟨rfl, .inl ⟨_, W, run_pick_no (g20.trans (by rw [hq'])) (hG ⟨15, .data⟩ (by simp) rfl 24 rfl hq'), Below.refl _ _, by rw [hq']; rfl⟩⟩
    | 17, ho =>
      obtain rfl : _ = o := Option.some.inj ho
      obtain rfl : 26 = d := Option.some.inj hd
      have g25 : (a'.eval (.tmp 25)) = .bool ((!([tc, gc, want, wc].all rightM)) || (!(plainS t.1 t.2))) := hG ⟨16, .data⟩ (by simp) rfl 25 rfl
      exact .inr ⟨rfl, .inl ⟨_, W, run_move rfl, Below.refl _ _, g25⟩⟩
    | 18, ho =>
      obtain rfl : _ = o := Option.some.inj ho
      obtain rfl : 27 = d := Option.some.inj hd
      have gg : a'.eval (.tmp 26) = .bool ((!([tc, gc, want, wc].all rightM)) || (!(plainS t.1 t.2))) := hG ⟨17, .guard⟩ (by simp) rfl 26 rfl
      by_cases hgc_ : ((!([tc, gc, want, wc].all rightM)) || (!(plainS t.1 t.2))) = false
      · exact .inr ⟨want_yes (n := 59) (d := 26) rfl hs (by decide) rfl (gg.trans (by rw [hgc_])), .inl ⟨_, W, run_fa0 (hk 4 (by kernel_rfl)), Below.refl _ _, fun _ => rfl⟩⟩
      · exact .inl ⟨want_no (n := 59) (d := 26) rfl hs (by decide) rfl gg hgc_, fun e => absurd e hgc_⟩
    | 19, ho =>
      obtain rfl : _ = o := Option.some.inj ho
      obtain rfl : 28 = d := Option.some.inj hd
      have gg : a'.eval (.tmp 26) = .bool ((!([tc, gc, want, wc].all rightM)) || (!(plainS t.1 t.2))) := hG ⟨17, .guard⟩ (by simp) rfl 26 rfl
      by_cases hgc_ : ((!([tc, gc, want, wc].all rightM)) || (!(plainS t.1 t.2))) = false
      · have g27 : (a'.eval (.tmp 27)) = .pointer (some ⟨w.heap.size + 1, 0, none⟩) := hG ⟨18, .data⟩ (by simp) rfl 27 rfl hgc_
        obtain ⟨v, hr, hv⟩ := run_loadLg (ev := a'.eval) (W := W) g27 (hcg.below hB)
        exact .inr ⟨want_yes (n := 59) (d := 26) rfl hs (by decide) rfl (gg.trans (by rw [hgc_])), .inl ⟨v, W, hr, Below.refl _ _, fun _ => hv⟩⟩
      · exact .inl ⟨want_no (n := 59) (d := 26) rfl hs (by decide) rfl gg hgc_, fun e => absurd e hgc_⟩
    | 20, ho =>
      obtain rfl : _ = o := Option.some.inj ho
      obtain rfl : 29 = d := Option.some.inj hd
      have gg : a'.eval (.tmp 26) = .bool ((!([tc, gc, want, wc].all rightM)) || (!(plainS t.1 t.2))) := hG ⟨17, .guard⟩ (by simp) rfl 26 rfl
      by_cases hgc_ : ((!([tc, gc, want, wc].all rightM)) || (!(plainS t.1 t.2))) = false
      · have g28 : LVg g (a'.eval (.tmp 28)) W := hG ⟨19, .data⟩ (by simp) rfl 28 rfl hgc_
        exact .inr ⟨want_yes (n := 59) (d := 26) rfl hs (by decide) rfl (gg.trans (by rw [hgc_])), .inr ⟨_, _, run_call rfl map_1 ent_gatehouseref01_Plain, (gPlain_c g28).mono (fun e W' ⟨v, he, hb, hv⟩ => ⟨v, he, hb, fun _ => hv⟩)⟩⟩
      · exact .inl ⟨want_no (n := 59) (d := 26) rfl hs (by decide) rfl gg hgc_, fun e => absurd e hgc_⟩
    | 21, ho =>
      obtain rfl : _ = o := Option.some.inj ho
      obtain rfl : 30 = d := Option.some.inj hd
      have gg : a'.eval (.tmp 26) = .bool ((!([tc, gc, want, wc].all rightM)) || (!(plainS t.1 t.2))) := hG ⟨17, .guard⟩ (by simp) rfl 26 rfl
      by_cases hgc_ : ((!([tc, gc, want, wc].all rightM)) || (!(plainS t.1 t.2))) = false
      · have g29 : (a'.eval (.tmp 29)) = .bool (plainS g.1 g.2) := hG ⟨20, .data⟩ (by simp) rfl 29 rfl hgc_
        exact .inr ⟨want_yes (n := 59) (d := 26) rfl hs (by decide) rfl (gg.trans (by rw [hgc_])), .inl ⟨_, W, run_not g29, Below.refl _ _, fun _ => rfl⟩⟩
      · exact .inl ⟨want_no (n := 59) (d := 26) rfl hs (by decide) rfl gg hgc_, fun e => absurd e hgc_⟩
    | 22, ho =>
      obtain rfl : _ = o := Option.some.inj ho
      obtain rfl : 31 = d := Option.some.inj hd
      have g26 : (a'.eval (.tmp 26)) = .bool ((!([tc, gc, want, wc].all rightM)) || (!(plainS t.1 t.2))) := hG ⟨17, .data⟩ (by simp) rfl 26 rfl
      by_cases hq : ((!([tc, gc, want, wc].all rightM)) || (!(plainS t.1 t.2))) = true
      · exact .inr ⟨rfl, .inl ⟨_, W, run_pick_yes (g26.trans (by rw [hq])) rfl, Below.refl _ _, by rw [hq]; rfl⟩⟩
      · have hq' : ((!([tc, gc, want, wc].all rightM)) || (!(plainS t.1 t.2))) = false := by simpa using hq
        exact .inr ⟨rfl, .inl ⟨_, W, run_pick_no (g26.trans (by rw [hq'])) (hG ⟨21, .data⟩ (by simp) rfl 30 rfl hq'), Below.refl _ _, by rw [hq']; rfl⟩⟩
    | j + 23, ho => simp at ho
  · intro a' W hB hs hdf hk hG
    obtain ⟨tm, df⟩ := a'
    obtain rfl : df = [] := hdf
    have e0 : tm.getD 0 undef = .agg #[.int .i64 t.fst, .slice pt t.snd.length ct, .int .i64 tc.fst, .slice ptc tc.snd.length ctc] := hk 0 (by kernel_rfl)
    have e1 : tm.getD 1 undef = .agg #[.int .i64 g.fst, .slice pg g.snd.length cg, .int .i64 gc.fst, .slice pgc gc.snd.length cgc] := hk 1 (by kernel_rfl)
    have e2 : tm.getD 2 undef = .agg #[.int .i64 want.fst, .slice pwant want.snd.length cwant, .int .i64 wc.fst, .slice pwc wc.snd.length cwc] := hk 2 (by kernel_rfl)
    have e3 : tm.getD 3 undef = .pointer (some ⟨w.heap.size, 0, none⟩) := hk 3 (by kernel_rfl)
    have e4 : tm.getD 4 undef = .pointer (some ⟨w.heap.size + 1, 0, none⟩) := hk 4 (by kernel_rfl)
    have e5 : tm.getD 5 undef = .pointer (some ⟨w.heap.size + 1 + 1, 0, none⟩) := hk 5 (by kernel_rfl)
    have e6 : tm.getD 6 undef = .bool false := hk 6 (by kernel_rfl)
    have e7 : tm.getD 7 undef = .bool true := hk 7 (by kernel_rfl)
    have e8 : tm.getD 8 undef = .bool false := hk 8 (by kernel_rfl)
    have e32 : tm.getD 32 undef = undef := hk 32 (by kernel_rfl)
    have e33 : tm.getD 33 undef = undef := hk 33 (by kernel_rfl)
    have e34 : tm.getD 34 undef = undef := hk 34 (by kernel_rfl)
    have e35 : tm.getD 35 undef = undef := hk 35 (by kernel_rfl)
    have e36 : tm.getD 36 undef = undef := hk 36 (by kernel_rfl)
    have e37 : tm.getD 37 undef = undef := hk 37 (by kernel_rfl)
    have e38 : tm.getD 38 undef = undef := hk 38 (by kernel_rfl)
    have e39 : tm.getD 39 undef = undef := hk 39 (by kernel_rfl)
    have e40 : tm.getD 40 undef = undef := hk 40 (by kernel_rfl)
    have e41 : tm.getD 41 undef = undef := hk 41 (by kernel_rfl)
    have e42 : tm.getD 42 undef = undef := hk 42 (by kernel_rfl)
    have e43 : tm.getD 43 undef = undef := hk 43 (by kernel_rfl)
    have e44 : tm.getD 44 undef = undef := hk 44 (by kernel_rfl)
    have e45 : tm.getD 45 undef = undef := hk 45 (by kernel_rfl)
    have e46 : tm.getD 46 undef = undef := hk 46 (by kernel_rfl)
    have e47 : tm.getD 47 undef = undef := hk 47 (by kernel_rfl)
    have e48 : tm.getD 48 undef = undef := hk 48 (by kernel_rfl)
    have e49 : tm.getD 49 undef = undef := hk 49 (by kernel_rfl)
    have e50 : tm.getD 50 undef = undef := hk 50 (by kernel_rfl)
    have e51 : tm.getD 51 undef = undef := hk 51 (by kernel_rfl)
    have e52 : tm.getD 52 undef = undef := hk 52 (by kernel_rfl)
    have e53 : tm.getD 53 undef = undef := hk 53 (by kernel_rfl)
    have e54 : tm.getD 54 undef = undef := hk 54 (by kernel_rfl)
    have e55 : tm.getD 55 undef = undef := hk 55 (by kernel_rfl)
    have e56 : tm.getD 56 undef = undef := hk 56 (by kernel_rfl)
    have e57 : tm.getD 57 undef = undef := hk 57 (by kernel_rfl)
    have e58 : tm.getD 58 undef = undef := hk 58 (by kernel_rfl)
    have g9 : (tm.getD 9 undef) = .pointer (some ⟨w.heap.size, 2, none⟩) := hG 0 9 (by decide) rfl
    have g10 : LVg tc (tm.getD 10 undef) W := hG 1 10 (by decide) rfl
    have g11 : (tm.getD 11 undef) = .pointer (some ⟨w.heap.size + 1, 2, none⟩) := hG 2 11 (by decide) rfl
    have g12 : LVg gc (tm.getD 12 undef) W := hG 3 12 (by decide) rfl
    have g13 : (tm.getD 13 undef) = .pointer (some ⟨w.heap.size + 1 + 1, 0, none⟩) := hG 4 13 (by decide) rfl
    have g14 : LVg want (tm.getD 14 undef) W := hG 5 14 (by decide) rfl
    have g15 : (tm.getD 15 undef) = .pointer (some ⟨w.heap.size + 1 + 1, 2, none⟩) := hG 6 15 (by decide) rfl
    have g16 : LVg wc (tm.getD 16 undef) W := hG 7 16 (by decide) rfl
    have g17 : LsVg [tc, gc, want, wc] (tm.getD 17 undef) W := hG 8 17 (by decide) rfl
    have g18 : (tm.getD 18 undef) = .bool ([tc, gc, want, wc].all rightM) := hG 9 18 (by decide) rfl
    have g19 : (tm.getD 19 undef) = .bool (!([tc, gc, want, wc].all rightM)) := hG 10 19 (by decide) rfl
    have g20 : (tm.getD 20 undef) = .bool (!([tc, gc, want, wc].all rightM)) := hG 11 20 (by decide) rfl
    have g21 : (!([tc, gc, want, wc].all rightM)) = false → (tm.getD 21 undef) = .pointer (some ⟨w.heap.size, 0, none⟩) := hG 12 21 (by decide) rfl
    have g22 : (!([tc, gc, want, wc].all rightM)) = false → LVg t (tm.getD 22 undef) W := hG 13 22 (by decide) rfl
    have g23 : (!([tc, gc, want, wc].all rightM)) = false → (tm.getD 23 undef) = .bool (plainS t.1 t.2) := hG 14 23 (by decide) rfl
    have g24 : (!([tc, gc, want, wc].all rightM)) = false → (tm.getD 24 undef) = .bool (!(plainS t.1 t.2)) := hG 15 24 (by decide) rfl
    have g25 : (tm.getD 25 undef) = .bool ((!([tc, gc, want, wc].all rightM)) || (!(plainS t.1 t.2))) := hG 16 25 (by decide) rfl
    have g26 : (tm.getD 26 undef) = .bool ((!([tc, gc, want, wc].all rightM)) || (!(plainS t.1 t.2))) := hG 17 26 (by decide) rfl
    have g27 : ((!([tc, gc, want, wc].all rightM)) || (!(plainS t.1 t.2))) = false → (tm.getD 27 undef) = .pointer (some ⟨w.heap.size + 1, 0, none⟩) := hG 18 27 (by decide) rfl
    have g28 : ((!([tc, gc, want, wc].all rightM)) || (!(plainS t.1 t.2))) = false → LVg g (tm.getD 28 undef) W := hG 19 28 (by decide) rfl
    have g29 : ((!([tc, gc, want, wc].all rightM)) || (!(plainS t.1 t.2))) = false → (tm.getD 29 undef) = .bool (plainS g.1 g.2) := hG 20 29 (by decide) rfl
    have g30 : ((!([tc, gc, want, wc].all rightM)) || (!(plainS t.1 t.2))) = false → (tm.getD 30 undef) = .bool (!(plainS g.1 g.2)) := hG 21 30 (by decide) rfl
    have g31 : (tm.getD 31 undef) = .bool (((!([tc, gc, want, wc].all rightM)) || (!(plainS t.1 t.2))) || (!(plainS g.1 g.2))) := hG 22 31 (by decide) rfl
    have htm := arr_of tm ((.agg #[.int .i64 t.fst, .slice pt t.snd.length ct, .int .i64 tc.fst, .slice ptc tc.snd.length ctc] : Value) :: (.agg #[.int .i64 g.fst, .slice pg g.snd.length cg, .int .i64 gc.fst, .slice pgc gc.snd.length cgc] : Value) :: (.agg #[.int .i64 want.fst, .slice pwant want.snd.length cwant, .int .i64 wc.fst, .slice pwc wc.snd.length cwc] : Value) :: (.pointer (some ⟨w.heap.size, 0, none⟩) : Value) :: (.pointer (some ⟨w.heap.size + 1, 0, none⟩) : Value) :: (.pointer (some ⟨w.heap.size + 1 + 1, 0, none⟩) : Value) :: (.bool false : Value) :: (.bool true : Value) :: (.bool false : Value) :: (tm.getD 9 undef : Value) :: (tm.getD 10 undef : Value) :: (tm.getD 11 undef : Value) :: (tm.getD 12 undef : Value) :: (tm.getD 13 undef : Value) :: (tm.getD 14 undef : Value) :: (tm.getD 15 undef : Value) :: (tm.getD 16 undef : Value) :: (tm.getD 17 undef : Value) :: (tm.getD 18 undef : Value) :: (tm.getD 19 undef : Value) :: (tm.getD 20 undef : Value) :: (tm.getD 21 undef : Value) :: (tm.getD 22 undef : Value) :: (tm.getD 23 undef : Value) :: (tm.getD 24 undef : Value) :: (tm.getD 25 undef : Value) :: (tm.getD 26 undef : Value) :: (tm.getD 27 undef : Value) :: (tm.getD 28 undef : Value) :: (tm.getD 29 undef : Value) :: (tm.getD 30 undef : Value) :: (tm.getD 31 undef : Value) :: (undef : Value) :: (undef : Value) :: (undef : Value) :: (undef : Value) :: (undef : Value) :: (undef : Value) :: (undef : Value) :: (undef : Value) :: (undef : Value) :: (undef : Value) :: (undef : Value) :: (undef : Value) :: (undef : Value) :: (undef : Value) :: (undef : Value) :: (undef : Value) :: (undef : Value) :: (undef : Value) :: (undef : Value) :: (undef : Value) :: (undef : Value) :: (undef : Value) :: (undef : Value) :: (undef : Value) :: (undef : Value) :: (undef : Value) :: (undef : Value) :: []) hs (by show (tm.getD 0 undef :: tm.getD 1 undef :: tm.getD 2 undef :: tm.getD 3 undef :: tm.getD 4 undef :: tm.getD 5 undef :: tm.getD 6 undef :: tm.getD 7 undef :: tm.getD 8 undef :: tm.getD 9 undef :: tm.getD 10 undef :: tm.getD 11 undef :: tm.getD 12 undef :: tm.getD 13 undef :: tm.getD 14 undef :: tm.getD 15 undef :: tm.getD 16 undef :: tm.getD 17 undef :: tm.getD 18 undef :: tm.getD 19 undef :: tm.getD 20 undef :: tm.getD 21 undef :: tm.getD 22 undef :: tm.getD 23 undef :: tm.getD 24 undef :: tm.getD 25 undef :: tm.getD 26 undef :: tm.getD 27 undef :: tm.getD 28 undef :: tm.getD 29 undef :: tm.getD 30 undef :: tm.getD 31 undef :: tm.getD 32 undef :: tm.getD 33 undef :: tm.getD 34 undef :: tm.getD 35 undef :: tm.getD 36 undef :: tm.getD 37 undef :: tm.getD 38 undef :: tm.getD 39 undef :: tm.getD 40 undef :: tm.getD 41 undef :: tm.getD 42 undef :: tm.getD 43 undef :: tm.getD 44 undef :: tm.getD 45 undef :: tm.getD 46 undef :: tm.getD 47 undef :: tm.getD 48 undef :: tm.getD 49 undef :: tm.getD 50 undef :: tm.getD 51 undef :: tm.getD 52 undef :: tm.getD 53 undef :: tm.getD 54 undef :: tm.getD 55 undef :: tm.getD 56 undef :: tm.getD 57 undef :: tm.getD 58 undef :: []) = _; rw [e0, e1, e2, e3, e4, e5, e6, e7, e8, e32, e33, e34, e35, e36, e37, e38, e39, e40, e41, e42, e43, e44, e45, e46, e47, e48, e49, e50, e51, e52, e53, e54, e55, e56, e57, e58]; try rfl)
    clear hs hk hG e0 e1 e2 e3 e4 e5 e6 e7 e8 e32 e33 e34 e35 e36 e37 e38 e39 e40 e41 e42 e43 e44 e45 e46 e47 e48 e49 e50 e51 e52 e53 e54 e55 e56 e57 e58
    generalize tm.getD 9 undef = t9 at htm g9
    generalize tm.getD 10 undef = t10 at htm g10
    generalize tm.getD 11 undef = t11 at htm g11
    generalize tm.getD 12 undef = t12 at htm g12
    generalize tm.getD 13 undef = t13 at htm g13
    generalize tm.getD 14 undef = t14 at htm g14
    generalize tm.getD 15 undef = t15 at htm g15
    generalize tm.getD 16 undef = t16 at htm g16
    generalize tm.getD 17 undef = t17 at htm g17
    generalize tm.getD 18 undef = t18 at htm g18
    generalize tm.getD 19 undef = t19 at htm g19
    generalize tm.getD 20 undef = t20 at htm g20
    generalize tm.getD 21 undef = t21 at htm g21
    generalize tm.getD 22 undef = t22 at htm g22
    generalize tm.getD 23 undef = t23 at htm g23
    generalize tm.getD 24 undef = t24 at htm g24
    generalize tm.getD 25 undef = t25 at htm g25
    generalize tm.getD 26 undef = t26 at htm g26
    generalize tm.getD 27 undef = t27 at htm g27
    generalize tm.getD 28 undef = t28 at htm g28
    generalize tm.getD 29 undef = t29 at htm g29
    generalize tm.getD 30 undef = t30 at htm g30
    generalize tm.getD 31 undef = t31 at htm g31
    subst htm
    subst g9
    subst g11
    subst g13
    subst g15
    subst g18
    subst g19
    subst g20
    subst g25
    subst g26
    subst g31
    simp only [List.drop_succ_cons, List.drop_zero]
    have hA2 : Below w.heap.size w W := hA1.trans (hB.mono hA1.size)
    have hdt := hct.below hB
    have hdtc := hctc.below hB
    have hdg := hcg.below hB
    have hdgc := hcgc.below hB
    have hdwant := hcwant.below hB
    have hdwc := hcwc.below hB
    clear g10 g12 g14 g16 g17 g22 g28
    obtain ⟨x0, hx⟩ : ∃ x0, (((!([tc, gc, want, wc].all rightM)) || (!(plainS t.1 t.2))) || (!(plainS g.1 g.2))) = x0 := ⟨_, rfl⟩
    simp only [hx]
    cases x0 with
    | true =>
      clear hx
      go_wp2
      go_ret
      exact ⟨rfl, hA2⟩
    | false =>
      have hR : (rightM tc = true ∧ rightM gc = true ∧ rightM want = true ∧ rightM wc = true) ∧ plainS t.1 t.2 = true ∧ plainS g.1 g.2 = true := by
        simp only [Bool.or_eq_false_iff, Bool.not_eq_false'] at hx
        refine ⟨by simpa using hx.1.1, hx.1.2, hx.2⟩
      obtain ⟨⟨rtc, rgc, rwant, rwc⟩, pt', pg'⟩ := hR
      have rt := plain_right pt'
      have rg := plain_right pg'
      have HE := Lib.hid (enter_eq (okL rt) (okL rtc) (okL rg) (okL rgc) (okL rwant) (okL rwc))
      have het := hdt.ok (right16 rt)
      have hetc := hdtc.ok (right16 rtc)
      have heg := hdg.ok (right16 rg)
      have hegc := hdgc.ok (right16 rgc)
      have hewant := hdwant.ok (right16 rwant)
      have hewc := hdwc.ok (right16 rwc)
      clear hx rt rtc rg rgc rwant rwc pt' pg'
      go_wp2_with fail
      refine wp_region_mono 27 (fun kq v W => match kq with | 32 => v = .pointer (some ⟨w.heap.size, 0, none⟩) | 33 => LV t v W | 34 => v = .pointer (some ⟨w.heap.size, 2, none⟩) | 35 => LV tc v W | 36 => v = .pointer (some ⟨w.heap.size + 1, 0, none⟩) | 37 => LV g v W | 38 => v = .pointer (some ⟨w.heap.size + 1, 2, none⟩) | 39 => LV gc v W | 40 => v = .pointer (some ⟨w.heap.size + 1 + 1, 0, none⟩) | 41 => LV want v W | 42 => v = .pointer (some ⟨w.heap.size + 1 + 1, 2, none⟩) | 43 => LV wc v W | 44 => v = .int .i64 (enterI t tc g gc want wc) | 45 => v = .pointer (some ⟨w.heap.size, 0, none⟩) | 46 => LV t v W | 47 => v = .pointer (some ⟨w.heap.size, 2, none⟩) | 48 => LV tc v W | 49 => v = .pointer (some ⟨w.heap.size + 1, 0, none⟩) | 50 => LV g v W | 51 => v = .pointer (some ⟨w.heap.size + 1, 2, none⟩) | 52 => LV gc v W | 53 => v = .pointer (some ⟨w.heap.size + 1 + 1, 0, none⟩) | 54 => LV want v W | 55 => v = .pointer (some ⟨w.heap.size + 1 + 1, 2, none⟩) | 56 => LV wc v W | 57 => v = .int .i64 (renterI t tc g gc want wc) | 58 => v = .bool ((enterI t tc g gc want wc) == (renterI t tc g gc want wc)) | _ => True) (by kernel_rfl) (by kernel_rfl) (by kernel_rfl) (by kernel_rfl) (by simp) (by kernel_rfl) ?_ ?_ ?_
      · intro kq v W W' h hb
        revert h
        try dsimp only
        split
        · intro h; exact h
        · intro h; exact LV.below h hb
        · intro h; exact h
        · intro h; exact LV.below h hb
        · intro h; exact h
        · intro h; exact LV.below h hb
        · intro h; exact h
        · intro h; exact LV.below h hb
        · intro h; exact h
        · intro h; exact LV.below h hb
        · intro h; exact h
        · intro h; exact LV.below h hb
        · intro h; exact h
        · intro h; exact h
        · intro h; exact LV.below h hb
        · intro h; exact h
        · intro h; exact LV.below h hb
        · intro h; exact h
        · intro h; exact LV.below h hb
        · intro h; exact h
        · intro h; exact LV.below h hb
        · intro h; exact h
        · intro h; exact LV.below h hb
        · intro h; exact h
        · intro h; exact LV.below h hb
        · intro h; exact h
        · intro h; exact h
        · intro h; trivial
      · intro a' W hB hs hk i o d ho hd hG
        match i, ho with
        | 0, ho =>
          obtain rfl : _ = o := Option.some.inj ho
          obtain rfl : 32 = d := Option.some.inj hd
          exact .inr ⟨rfl, .inl ⟨_, W, run_fa0 (hk 3 (by kernel_rfl)), Below.refl _ _, rfl⟩⟩
        | 1, ho =>
          obtain rfl : _ = o := Option.some.inj ho
          obtain rfl : 33 = d := Option.some.inj hd
          have g32 : (a'.eval (.tmp 32)) = .pointer (some ⟨w.heap.size, 0, none⟩) := hG ⟨0, .data⟩ (by simp) rfl 32 rfl
          obtain ⟨v, hr, hv⟩ := run_loadL (ev := a'.eval) (W := W) g32 (het.below hB)
          exact .inr ⟨rfl, .inl ⟨v, W, hr, Below.refl _ _, hv⟩⟩
        | 2, ho =>
          obtain rfl : _ = o := Option.some.inj ho
          obtain rfl : 34 = d := Option.some.inj hd
          exact .inr ⟨rfl, .inl ⟨_, W, run_fa1 (hk 3 (by kernel_rfl)), Below.refl _ _, rfl⟩⟩
        | 3, ho =>
          obtain rfl : _ = o := Option.some.inj ho
          obtain rfl : 35 = d := Option.some.inj hd
          have g34 : (a'.eval (.tmp 34)) = .pointer (some ⟨w.heap.size, 2, none⟩) := hG ⟨2, .data⟩ (by simp) rfl 34 rfl
          obtain ⟨v, hr, hv⟩ := run_loadL (ev := a'.eval) (W := W) g34 (hetc.below hB)
          exact .inr ⟨rfl, .inl ⟨v, W, hr, Below.refl _ _, hv⟩⟩
        | 4, ho =>
          obtain rfl : _ = o := Option.some.inj ho
          obtain rfl : 36 = d := Option.some.inj hd
          exact .inr ⟨rfl, .inl ⟨_, W, run_fa0 (hk 4 (by kernel_rfl)), Below.refl _ _, rfl⟩⟩
        | 5, ho =>
          obtain rfl : _ = o := Option.some.inj ho
          obtain rfl : 37 = d := Option.some.inj hd
          have g36 : (a'.eval (.tmp 36)) = .pointer (some ⟨w.heap.size + 1, 0, none⟩) := hG ⟨4, .data⟩ (by simp) rfl 36 rfl
          obtain ⟨v, hr, hv⟩ := run_loadL (ev := a'.eval) (W := W) g36 (heg.below hB)
          exact .inr ⟨rfl, .inl ⟨v, W, hr, Below.refl _ _, hv⟩⟩
        | 6, ho =>
          obtain rfl : _ = o := Option.some.inj ho
          obtain rfl : 38 = d := Option.some.inj hd
          exact .inr ⟨rfl, .inl ⟨_, W, run_fa1 (hk 4 (by kernel_rfl)), Below.refl _ _, rfl⟩⟩
        | 7, ho =>
          obtain rfl : _ = o := Option.some.inj ho
          obtain rfl : 39 = d := Option.some.inj hd
          have g38 : (a'.eval (.tmp 38)) = .pointer (some ⟨w.heap.size + 1, 2, none⟩) := hG ⟨6, .data⟩ (by simp) rfl 38 rfl
          obtain ⟨v, hr, hv⟩ := run_loadL (ev := a'.eval) (W := W) g38 (hegc.below hB)
          exact .inr ⟨rfl, .inl ⟨v, W, hr, Below.refl _ _, hv⟩⟩
        | 8, ho =>
          obtain rfl : _ = o := Option.some.inj ho
          obtain rfl : 40 = d := Option.some.inj hd
          exact .inr ⟨rfl, .inl ⟨_, W, run_fa0 (hk 5 (by kernel_rfl)), Below.refl _ _, rfl⟩⟩
        | 9, ho =>
          obtain rfl : _ = o := Option.some.inj ho
          obtain rfl : 41 = d := Option.some.inj hd
          have g40 : (a'.eval (.tmp 40)) = .pointer (some ⟨w.heap.size + 1 + 1, 0, none⟩) := hG ⟨8, .data⟩ (by simp) rfl 40 rfl
          obtain ⟨v, hr, hv⟩ := run_loadL (ev := a'.eval) (W := W) g40 (hewant.below hB)
          exact .inr ⟨rfl, .inl ⟨v, W, hr, Below.refl _ _, hv⟩⟩
        | 10, ho =>
          obtain rfl : _ = o := Option.some.inj ho
          obtain rfl : 42 = d := Option.some.inj hd
          exact .inr ⟨rfl, .inl ⟨_, W, run_fa1 (hk 5 (by kernel_rfl)), Below.refl _ _, rfl⟩⟩
        | 11, ho =>
          obtain rfl : _ = o := Option.some.inj ho
          obtain rfl : 43 = d := Option.some.inj hd
          have g42 : (a'.eval (.tmp 42)) = .pointer (some ⟨w.heap.size + 1 + 1, 2, none⟩) := hG ⟨10, .data⟩ (by simp) rfl 42 rfl
          obtain ⟨v, hr, hv⟩ := run_loadL (ev := a'.eval) (W := W) g42 (hewc.below hB)
          exact .inr ⟨rfl, .inl ⟨v, W, hr, Below.refl _ _, hv⟩⟩
        | 12, ho =>
          obtain rfl : _ = o := Option.some.inj ho
          obtain rfl : 44 = d := Option.some.inj hd
          have g33 : LV t (a'.eval (.tmp 33)) W := hG ⟨1, .data⟩ (by simp) rfl 33 rfl
          have g35 : LV tc (a'.eval (.tmp 35)) W := hG ⟨3, .data⟩ (by simp) rfl 35 rfl
          have g37 : LV g (a'.eval (.tmp 37)) W := hG ⟨5, .data⟩ (by simp) rfl 37 rfl
          have g39 : LV gc (a'.eval (.tmp 39)) W := hG ⟨7, .data⟩ (by simp) rfl 39 rfl
          have g41 : LV want (a'.eval (.tmp 41)) W := hG ⟨9, .data⟩ (by simp) rfl 41 rfl
          have g43 : LV wc (a'.eval (.tmp 43)) W := hG ⟨11, .data⟩ (by simp) rfl 43 rfl
          exact .inr ⟨rfl, .inr ⟨_, _, run_call rfl map_6 ent_passage_Enter, Enter_c g33 g35 g37 g39 g41 g43⟩⟩
        | 13, ho =>
          obtain rfl : _ = o := Option.some.inj ho
          obtain rfl : 45 = d := Option.some.inj hd
          exact .inr ⟨rfl, .inl ⟨_, W, run_fa0 (hk 3 (by kernel_rfl)), Below.refl _ _, rfl⟩⟩
        | 14, ho =>
          obtain rfl : _ = o := Option.some.inj ho
          obtain rfl : 46 = d := Option.some.inj hd
          have g45 : (a'.eval (.tmp 45)) = .pointer (some ⟨w.heap.size, 0, none⟩) := hG ⟨13, .data⟩ (by simp) rfl 45 rfl
          obtain ⟨v, hr, hv⟩ := run_loadL (ev := a'.eval) (W := W) g45 (het.below hB)
          exact .inr ⟨rfl, .inl ⟨v, W, hr, Below.refl _ _, hv⟩⟩
        | 15, ho =>
          obtain rfl : _ = o := Option.some.inj ho
          obtain rfl : 47 = d := Option.some.inj hd
          exact .inr ⟨rfl, .inl ⟨_, W, run_fa1 (hk 3 (by kernel_rfl)), Below.refl _ _, rfl⟩⟩
        | 16, ho =>
          obtain rfl : _ = o := Option.some.inj ho
          obtain rfl : 48 = d := Option.some.inj hd
          have g47 : (a'.eval (.tmp 47)) = .pointer (some ⟨w.heap.size, 2, none⟩) := hG ⟨15, .data⟩ (by simp) rfl 47 rfl
          obtain ⟨v, hr, hv⟩ := run_loadL (ev := a'.eval) (W := W) g47 (hetc.below hB)
          exact .inr ⟨rfl, .inl ⟨v, W, hr, Below.refl _ _, hv⟩⟩
        | 17, ho =>
          obtain rfl : _ = o := Option.some.inj ho
          obtain rfl : 49 = d := Option.some.inj hd
          exact .inr ⟨rfl, .inl ⟨_, W, run_fa0 (hk 4 (by kernel_rfl)), Below.refl _ _, rfl⟩⟩
        | 18, ho =>
          obtain rfl : _ = o := Option.some.inj ho
          obtain rfl : 50 = d := Option.some.inj hd
          have g49 : (a'.eval (.tmp 49)) = .pointer (some ⟨w.heap.size + 1, 0, none⟩) := hG ⟨17, .data⟩ (by simp) rfl 49 rfl
          obtain ⟨v, hr, hv⟩ := run_loadL (ev := a'.eval) (W := W) g49 (heg.below hB)
          exact .inr ⟨rfl, .inl ⟨v, W, hr, Below.refl _ _, hv⟩⟩
        | 19, ho =>
          obtain rfl : _ = o := Option.some.inj ho
          obtain rfl : 51 = d := Option.some.inj hd
          exact .inr ⟨rfl, .inl ⟨_, W, run_fa1 (hk 4 (by kernel_rfl)), Below.refl _ _, rfl⟩⟩
        | 20, ho =>
          obtain rfl : _ = o := Option.some.inj ho
          obtain rfl : 52 = d := Option.some.inj hd
          have g51 : (a'.eval (.tmp 51)) = .pointer (some ⟨w.heap.size + 1, 2, none⟩) := hG ⟨19, .data⟩ (by simp) rfl 51 rfl
          obtain ⟨v, hr, hv⟩ := run_loadL (ev := a'.eval) (W := W) g51 (hegc.below hB)
          exact .inr ⟨rfl, .inl ⟨v, W, hr, Below.refl _ _, hv⟩⟩
        | 21, ho =>
          obtain rfl : _ = o := Option.some.inj ho
          obtain rfl : 53 = d := Option.some.inj hd
          exact .inr ⟨rfl, .inl ⟨_, W, run_fa0 (hk 5 (by kernel_rfl)), Below.refl _ _, rfl⟩⟩
        | 22, ho =>
          obtain rfl : _ = o := Option.some.inj ho
          obtain rfl : 54 = d := Option.some.inj hd
          have g53 : (a'.eval (.tmp 53)) = .pointer (some ⟨w.heap.size + 1 + 1, 0, none⟩) := hG ⟨21, .data⟩ (by simp) rfl 53 rfl
          obtain ⟨v, hr, hv⟩ := run_loadL (ev := a'.eval) (W := W) g53 (hewant.below hB)
          exact .inr ⟨rfl, .inl ⟨v, W, hr, Below.refl _ _, hv⟩⟩
        | 23, ho =>
          obtain rfl : _ = o := Option.some.inj ho
          obtain rfl : 55 = d := Option.some.inj hd
          exact .inr ⟨rfl, .inl ⟨_, W, run_fa1 (hk 5 (by kernel_rfl)), Below.refl _ _, rfl⟩⟩
        | 24, ho =>
          obtain rfl : _ = o := Option.some.inj ho
          obtain rfl : 56 = d := Option.some.inj hd
          have g55 : (a'.eval (.tmp 55)) = .pointer (some ⟨w.heap.size + 1 + 1, 2, none⟩) := hG ⟨23, .data⟩ (by simp) rfl 55 rfl
          obtain ⟨v, hr, hv⟩ := run_loadL (ev := a'.eval) (W := W) g55 (hewc.below hB)
          exact .inr ⟨rfl, .inl ⟨v, W, hr, Below.refl _ _, hv⟩⟩
        | 25, ho =>
          obtain rfl : _ = o := Option.some.inj ho
          obtain rfl : 57 = d := Option.some.inj hd
          have g46 : LV t (a'.eval (.tmp 46)) W := hG ⟨14, .data⟩ (by simp) rfl 46 rfl
          have g48 : LV tc (a'.eval (.tmp 48)) W := hG ⟨16, .data⟩ (by simp) rfl 48 rfl
          have g50 : LV g (a'.eval (.tmp 50)) W := hG ⟨18, .data⟩ (by simp) rfl 50 rfl
          have g52 : LV gc (a'.eval (.tmp 52)) W := hG ⟨20, .data⟩ (by simp) rfl 52 rfl
          have g54 : LV want (a'.eval (.tmp 54)) W := hG ⟨22, .data⟩ (by simp) rfl 54 rfl
          have g56 : LV wc (a'.eval (.tmp 56)) W := hG ⟨24, .data⟩ (by simp) rfl 56 rfl
          exact .inr ⟨rfl, .inr ⟨_, _, run_call rfl map_6 ent_gatehouseref07_Enter, rEnter_c g46 g48 g50 g52 g54 g56⟩⟩
        | 26, ho =>
          obtain rfl : _ = o := Option.some.inj ho
          obtain rfl : 58 = d := Option.some.inj hd
          have g44 : (a'.eval (.tmp 44)) = .int .i64 (enterI t tc g gc want wc) := hG ⟨12, .data⟩ (by simp) rfl 44 rfl
          have g57 : (a'.eval (.tmp 57)) = .int .i64 (renterI t tc g gc want wc) := hG ⟨25, .data⟩ (by simp) rfl 57 rfl
          exact .inr ⟨rfl, .inl ⟨_, W, run_eqE g44 g57, Below.refl _ _, rfl⟩⟩
        | j + 27, ho => simp at ho
      · intro a' W hB hs hdf hk hG
        obtain ⟨tm, df⟩ := a'
        obtain rfl : df = [] := hdf
        have e0 : tm.getD 0 undef = .agg #[.int .i64 t.fst, .slice pt t.snd.length ct, .int .i64 tc.fst, .slice ptc tc.snd.length ctc] := hk 0 (by kernel_rfl)
        have e1 : tm.getD 1 undef = .agg #[.int .i64 g.fst, .slice pg g.snd.length cg, .int .i64 gc.fst, .slice pgc gc.snd.length cgc] := hk 1 (by kernel_rfl)
        have e2 : tm.getD 2 undef = .agg #[.int .i64 want.fst, .slice pwant want.snd.length cwant, .int .i64 wc.fst, .slice pwc wc.snd.length cwc] := hk 2 (by kernel_rfl)
        have e3 : tm.getD 3 undef = .pointer (some ⟨w.heap.size, 0, none⟩) := hk 3 (by kernel_rfl)
        have e4 : tm.getD 4 undef = .pointer (some ⟨w.heap.size + 1, 0, none⟩) := hk 4 (by kernel_rfl)
        have e5 : tm.getD 5 undef = .pointer (some ⟨w.heap.size + 1 + 1, 0, none⟩) := hk 5 (by kernel_rfl)
        have e6 : tm.getD 6 undef = .bool false := hk 6 (by kernel_rfl)
        have e7 : tm.getD 7 undef = .bool true := hk 7 (by kernel_rfl)
        have e8 : tm.getD 8 undef = .bool false := hk 8 (by kernel_rfl)
        have e9 : tm.getD 9 undef = .pointer (some ⟨w.heap.size, 2, none⟩) := hk 9 (by kernel_rfl)
        have e10 : tm.getD 10 undef = t10 := hk 10 (by kernel_rfl)
        have e11 : tm.getD 11 undef = .pointer (some ⟨w.heap.size + 1, 2, none⟩) := hk 11 (by kernel_rfl)
        have e12 : tm.getD 12 undef = t12 := hk 12 (by kernel_rfl)
        have e13 : tm.getD 13 undef = .pointer (some ⟨w.heap.size + 1 + 1, 0, none⟩) := hk 13 (by kernel_rfl)
        have e14 : tm.getD 14 undef = t14 := hk 14 (by kernel_rfl)
        have e15 : tm.getD 15 undef = .pointer (some ⟨w.heap.size + 1 + 1, 2, none⟩) := hk 15 (by kernel_rfl)
        have e16 : tm.getD 16 undef = t16 := hk 16 (by kernel_rfl)
        have e17 : tm.getD 17 undef = t17 := hk 17 (by kernel_rfl)
        have e18 : tm.getD 18 undef = .bool ([tc, gc, want, wc].all rightM) := hk 18 (by kernel_rfl)
        have e19 : tm.getD 19 undef = .bool ![tc, gc, want, wc].all rightM := hk 19 (by kernel_rfl)
        have e20 : tm.getD 20 undef = .bool ![tc, gc, want, wc].all rightM := hk 20 (by kernel_rfl)
        have e21 : tm.getD 21 undef = t21 := hk 21 (by kernel_rfl)
        have e22 : tm.getD 22 undef = t22 := hk 22 (by kernel_rfl)
        have e23 : tm.getD 23 undef = t23 := hk 23 (by kernel_rfl)
        have e24 : tm.getD 24 undef = t24 := hk 24 (by kernel_rfl)
        have e25 : tm.getD 25 undef = .bool (![tc, gc, want, wc].all rightM || !plainS t.fst t.snd) := hk 25 (by kernel_rfl)
        have e26 : tm.getD 26 undef = .bool (![tc, gc, want, wc].all rightM || !plainS t.fst t.snd) := hk 26 (by kernel_rfl)
        have e27 : tm.getD 27 undef = t27 := hk 27 (by kernel_rfl)
        have e28 : tm.getD 28 undef = t28 := hk 28 (by kernel_rfl)
        have e29 : tm.getD 29 undef = t29 := hk 29 (by kernel_rfl)
        have e30 : tm.getD 30 undef = t30 := hk 30 (by kernel_rfl)
        have e31 : tm.getD 31 undef = .bool false := hk 31 (by kernel_rfl)
        have g32 : (tm.getD 32 undef) = .pointer (some ⟨w.heap.size, 0, none⟩) := hG 0 32 (by decide) rfl
        have g33 : LV t (tm.getD 33 undef) W := hG 1 33 (by decide) rfl
        have g34 : (tm.getD 34 undef) = .pointer (some ⟨w.heap.size, 2, none⟩) := hG 2 34 (by decide) rfl
        have g35 : LV tc (tm.getD 35 undef) W := hG 3 35 (by decide) rfl
        have g36 : (tm.getD 36 undef) = .pointer (some ⟨w.heap.size + 1, 0, none⟩) := hG 4 36 (by decide) rfl
        have g37 : LV g (tm.getD 37 undef) W := hG 5 37 (by decide) rfl
        have g38 : (tm.getD 38 undef) = .pointer (some ⟨w.heap.size + 1, 2, none⟩) := hG 6 38 (by decide) rfl
        have g39 : LV gc (tm.getD 39 undef) W := hG 7 39 (by decide) rfl
        have g40 : (tm.getD 40 undef) = .pointer (some ⟨w.heap.size + 1 + 1, 0, none⟩) := hG 8 40 (by decide) rfl
        have g41 : LV want (tm.getD 41 undef) W := hG 9 41 (by decide) rfl
        have g42 : (tm.getD 42 undef) = .pointer (some ⟨w.heap.size + 1 + 1, 2, none⟩) := hG 10 42 (by decide) rfl
        have g43 : LV wc (tm.getD 43 undef) W := hG 11 43 (by decide) rfl
        have g44 : (tm.getD 44 undef) = .int .i64 (enterI t tc g gc want wc) := hG 12 44 (by decide) rfl
        have g45 : (tm.getD 45 undef) = .pointer (some ⟨w.heap.size, 0, none⟩) := hG 13 45 (by decide) rfl
        have g46 : LV t (tm.getD 46 undef) W := hG 14 46 (by decide) rfl
        have g47 : (tm.getD 47 undef) = .pointer (some ⟨w.heap.size, 2, none⟩) := hG 15 47 (by decide) rfl
        have g48 : LV tc (tm.getD 48 undef) W := hG 16 48 (by decide) rfl
        have g49 : (tm.getD 49 undef) = .pointer (some ⟨w.heap.size + 1, 0, none⟩) := hG 17 49 (by decide) rfl
        have g50 : LV g (tm.getD 50 undef) W := hG 18 50 (by decide) rfl
        have g51 : (tm.getD 51 undef) = .pointer (some ⟨w.heap.size + 1, 2, none⟩) := hG 19 51 (by decide) rfl
        have g52 : LV gc (tm.getD 52 undef) W := hG 20 52 (by decide) rfl
        have g53 : (tm.getD 53 undef) = .pointer (some ⟨w.heap.size + 1 + 1, 0, none⟩) := hG 21 53 (by decide) rfl
        have g54 : LV want (tm.getD 54 undef) W := hG 22 54 (by decide) rfl
        have g55 : (tm.getD 55 undef) = .pointer (some ⟨w.heap.size + 1 + 1, 2, none⟩) := hG 23 55 (by decide) rfl
        have g56 : LV wc (tm.getD 56 undef) W := hG 24 56 (by decide) rfl
        have g57 : (tm.getD 57 undef) = .int .i64 (renterI t tc g gc want wc) := hG 25 57 (by decide) rfl
        have g58 : (tm.getD 58 undef) = .bool ((enterI t tc g gc want wc) == (renterI t tc g gc want wc)) := hG 26 58 (by decide) rfl
        have htm := arr_of tm ((.agg #[.int .i64 t.fst, .slice pt t.snd.length ct, .int .i64 tc.fst, .slice ptc tc.snd.length ctc] : Value) :: (.agg #[.int .i64 g.fst, .slice pg g.snd.length cg, .int .i64 gc.fst, .slice pgc gc.snd.length cgc] : Value) :: (.agg #[.int .i64 want.fst, .slice pwant want.snd.length cwant, .int .i64 wc.fst, .slice pwc wc.snd.length cwc] : Value) :: (.pointer (some ⟨w.heap.size, 0, none⟩) : Value) :: (.pointer (some ⟨w.heap.size + 1, 0, none⟩) : Value) :: (.pointer (some ⟨w.heap.size + 1 + 1, 0, none⟩) : Value) :: (.bool false : Value) :: (.bool true : Value) :: (.bool false : Value) :: (.pointer (some ⟨w.heap.size, 2, none⟩) : Value) :: (t10 : Value) :: (.pointer (some ⟨w.heap.size + 1, 2, none⟩) : Value) :: (t12 : Value) :: (.pointer (some ⟨w.heap.size + 1 + 1, 0, none⟩) : Value) :: (t14 : Value) :: (.pointer (some ⟨w.heap.size + 1 + 1, 2, none⟩) : Value) :: (t16 : Value) :: (t17 : Value) :: (.bool ([tc, gc, want, wc].all rightM) : Value) :: (.bool ![tc, gc, want, wc].all rightM : Value) :: (.bool ![tc, gc, want, wc].all rightM : Value) :: (t21 : Value) :: (t22 : Value) :: (t23 : Value) :: (t24 : Value) :: (.bool (![tc, gc, want, wc].all rightM || !plainS t.fst t.snd) : Value) :: (.bool (![tc, gc, want, wc].all rightM || !plainS t.fst t.snd) : Value) :: (t27 : Value) :: (t28 : Value) :: (t29 : Value) :: (t30 : Value) :: (.bool false : Value) :: (tm.getD 32 undef : Value) :: (tm.getD 33 undef : Value) :: (tm.getD 34 undef : Value) :: (tm.getD 35 undef : Value) :: (tm.getD 36 undef : Value) :: (tm.getD 37 undef : Value) :: (tm.getD 38 undef : Value) :: (tm.getD 39 undef : Value) :: (tm.getD 40 undef : Value) :: (tm.getD 41 undef : Value) :: (tm.getD 42 undef : Value) :: (tm.getD 43 undef : Value) :: (tm.getD 44 undef : Value) :: (tm.getD 45 undef : Value) :: (tm.getD 46 undef : Value) :: (tm.getD 47 undef : Value) :: (tm.getD 48 undef : Value) :: (tm.getD 49 undef : Value) :: (tm.getD 50 undef : Value) :: (tm.getD 51 undef : Value) :: (tm.getD 52 undef : Value) :: (tm.getD 53 undef : Value) :: (tm.getD 54 undef : Value) :: (tm.getD 55 undef : Value) :: (tm.getD 56 undef : Value) :: (tm.getD 57 undef : Value) :: (tm.getD 58 undef : Value) :: []) hs (by show (tm.getD 0 undef :: tm.getD 1 undef :: tm.getD 2 undef :: tm.getD 3 undef :: tm.getD 4 undef :: tm.getD 5 undef :: tm.getD 6 undef :: tm.getD 7 undef :: tm.getD 8 undef :: tm.getD 9 undef :: tm.getD 10 undef :: tm.getD 11 undef :: tm.getD 12 undef :: tm.getD 13 undef :: tm.getD 14 undef :: tm.getD 15 undef :: tm.getD 16 undef :: tm.getD 17 undef :: tm.getD 18 undef :: tm.getD 19 undef :: tm.getD 20 undef :: tm.getD 21 undef :: tm.getD 22 undef :: tm.getD 23 undef :: tm.getD 24 undef :: tm.getD 25 undef :: tm.getD 26 undef :: tm.getD 27 undef :: tm.getD 28 undef :: tm.getD 29 undef :: tm.getD 30 undef :: tm.getD 31 undef :: tm.getD 32 undef :: tm.getD 33 undef :: tm.getD 34 undef :: tm.getD 35 undef :: tm.getD 36 undef :: tm.getD 37 undef :: tm.getD 38 undef :: tm.getD 39 undef :: tm.getD 40 undef :: tm.getD 41 undef :: tm.getD 42 undef :: tm.getD 43 undef :: tm.getD 44 undef :: tm.getD 45 undef :: tm.getD 46 undef :: tm.getD 47 undef :: tm.getD 48 undef :: tm.getD 49 undef :: tm.getD 50 undef :: tm.getD 51 undef :: tm.getD 52 undef :: tm.getD 53 undef :: tm.getD 54 undef :: tm.getD 55 undef :: tm.getD 56 undef :: tm.getD 57 undef :: tm.getD 58 undef :: []) = _; rw [e0, e1, e2, e3, e4, e5, e6, e7, e8, e9, e10, e11, e12, e13, e14, e15, e16, e17, e18, e19, e20, e21, e22, e23, e24, e25, e26, e27, e28, e29, e30, e31]; try rfl)
        clear hs hk hG e0 e1 e2 e3 e4 e5 e6 e7 e8 e9 e10 e11 e12 e13 e14 e15 e16 e17 e18 e19 e20 e21 e22 e23 e24 e25 e26 e27 e28 e29 e30 e31
        generalize tm.getD 32 undef = t32 at htm g32
        generalize tm.getD 33 undef = t33 at htm g33
        generalize tm.getD 34 undef = t34 at htm g34
        generalize tm.getD 35 undef = t35 at htm g35
        generalize tm.getD 36 undef = t36 at htm g36
        generalize tm.getD 37 undef = t37 at htm g37
        generalize tm.getD 38 undef = t38 at htm g38
        generalize tm.getD 39 undef = t39 at htm g39
        generalize tm.getD 40 undef = t40 at htm g40
        generalize tm.getD 41 undef = t41 at htm g41
        generalize tm.getD 42 undef = t42 at htm g42
        generalize tm.getD 43 undef = t43 at htm g43
        generalize tm.getD 44 undef = t44 at htm g44
        generalize tm.getD 45 undef = t45 at htm g45
        generalize tm.getD 46 undef = t46 at htm g46
        generalize tm.getD 47 undef = t47 at htm g47
        generalize tm.getD 48 undef = t48 at htm g48
        generalize tm.getD 49 undef = t49 at htm g49
        generalize tm.getD 50 undef = t50 at htm g50
        generalize tm.getD 51 undef = t51 at htm g51
        generalize tm.getD 52 undef = t52 at htm g52
        generalize tm.getD 53 undef = t53 at htm g53
        generalize tm.getD 54 undef = t54 at htm g54
        generalize tm.getD 55 undef = t55 at htm g55
        generalize tm.getD 56 undef = t56 at htm g56
        generalize tm.getD 57 undef = t57 at htm g57
        generalize tm.getD 58 undef = t58 at htm g58
        subst htm
        subst g32
        subst g34
        subst g36
        subst g38
        subst g40
        subst g42
        subst g44
        subst g45
        subst g47
        subst g49
        subst g51
        subst g53
        subst g55
        subst g57
        subst g58
        simp only [List.drop_succ_cons, List.drop_zero]
        have HB : Hid (Below w.heap.size w W) := hA2.trans (hB.mono hA2.size)
        have HV : Hid (((enterI t tc g gc want wc) == (renterI t tc g gc want wc)) = true) := by
          show ((enterI t tc g gc want wc) == (renterI t tc g gc want wc)) = true
          rw [HE.out]; simp
        go_wp2
        go_ret
        exact ⟨by rw [← HV.out]; rfl, HB.out⟩
end Go.Proofs.Ytnjmgholoigpkaa
