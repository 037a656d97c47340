/- PassageKeeps: the walk of the statement. -/
import Derived.Test.YtnjmgholoigpkaaGen2
namespace Go.Proofs.Ytnjmgholoigpkaa
open Go.RowKit Go.Sort
/-- P7.2 of Rise and Enter, category by category. -/
theorem rise_keeps {t c want : ML} (ht : OkL t) (hw : OkL want) (h : riseI t c want = 0) (k : Int) : aM t k ≤ aM want k := by
  unfold riseI at h
  split at h
  · exact (atM1_iff ht hw).1 (allow2_0 h).1 k
  · cases h
theorem plain_no5 {l : ML} (h : plainS l.1 l.2 = true) (c : Int) : aM l c ≠ 5 := by
  unfold plainS at h
  rw [Bool.and_eq_true] at h
  exact has_at (by simpa using h.2)
theorem enter_keeps {t c g gc want wc : ML} (ht : OkL t) (hg : OkL g) (hw : OkL want) (pt : plainS t.1 t.2 = true) (pg : plainS g.1 g.2 = true) (h : enterI t c g gc want wc = 0) (k : Int) (h1 : aM t k ≠ 0) (h2 : aM g k ≠ 0) : aM t k ≤ aM want k := by
  unfold enterI at h
  split at h
  · split at h
    · have e := (undF_iff ht hg hw).1 (allow4_0 h).2.1 k
      rw [ot_ne h1, ot_ne h2] at e
      have n1 := plain_no5 pt k
      have n2 := plain_no5 pg k
      unfold flo at e
      split at e
      · omega
      · omega
    · cases h
  · cases h
set_option maxRecDepth 100000 in
set_option maxHeartbeats 2000000 in
theorem PassageKeeps_any (t tc g gc want wc : ML) (cat : Int) (pt ptc pg pgc pwant pwc : Option Addr) (ct ctc cg cgc cwant cwc : Nat) (w : World) (ht : CatsAt w pt t.2) (lt : t.2.length ≤ ct) (mt : t.2.length ≤ maxLen) (htc : CatsAt w ptc tc.2) (ltc : tc.2.length ≤ ctc) (mtc : tc.2.length ≤ maxLen) (hg : CatsAt w pg g.2) (lg : g.2.length ≤ cg) (mg : g.2.length ≤ maxLen) (hgc : CatsAt w pgc gc.2) (lgc : gc.2.length ≤ cgc) (mgc : gc.2.length ≤ maxLen) (hwant : CatsAt w pwant want.2) (lwant : want.2.length ≤ cwant) (mwant : want.2.length ≤ maxLen) (hwc : CatsAt w pwc wc.2) (lwc : wc.2.length ≤ cwc) (mwc : wc.2.length ≤ maxLen) :
    Calls Try.prog 7 #[.agg #[.int .i64 t.1, .slice pt t.2.length ct, .int .i64 tc.1, .slice ptc tc.2.length ctc], .agg #[.int .i64 g.1, .slice pg g.2.length cg, .int .i64 gc.1, .slice pgc gc.2.length cgc], .agg #[.int .i64 want.1, .slice pwant want.2.length cwant, .int .i64 wc.1, .slice pwc wc.2.length cwc], .int .i64 cat] w fun e w' => e = .returned (.bool true) ∧ Below w.heap.size w w' := by
  obtain ⟨W0, hW0⟩ : ∃ W0, W0 = (((w.alloc (.cells #[.int .i64 t.1, .slice pt t.2.length ct, .int .i64 tc.1, .slice ptc tc.2.length ctc] 26)).alloc (.cells #[.int .i64 g.1, .slice pg g.2.length cg, .int .i64 gc.1, .slice pgc gc.2.length cgc] 26)).alloc (.cells #[.int .i64 want.1, .slice pwant want.2.length cwant, .int .i64 wc.1, .slice pwc wc.2.length cwc] 26)) := ⟨_, rfl⟩
  have hA : Below w.heap.size w W0 := by rw [hW0]; go_grown
  have hbt : LBg t W0 (w.heap.size) 0 := ⟨pt, ct, by rw [hW0]; simp <;> omega, by rw [hW0]; simp [go_sem], by rw [hW0]; simp [go_sem], ht.below hA, lt, mt⟩
  have hbtc : LBg tc W0 (w.heap.size) 2 := ⟨ptc, ctc, by rw [hW0]; simp <;> omega, by rw [hW0]; simp [go_sem], by rw [hW0]; simp [go_sem], htc.below hA, ltc, mtc⟩
  have hbg : LBg g W0 (w.heap.size + 1) 0 := ⟨pg, cg, by rw [hW0]; simp <;> omega, by rw [hW0]; simp [go_sem], by rw [hW0]; simp [go_sem], hg.below hA, lg, mg⟩
  have hbgc : LBg gc W0 (w.heap.size + 1) 2 := ⟨pgc, cgc, by rw [hW0]; simp <;> omega, by rw [hW0]; simp [go_sem], by rw [hW0]; simp [go_sem], hgc.below hA, lgc, mgc⟩
  have hbwant : LBg want W0 (w.heap.size + 1 + 1) 0 := ⟨pwant, cwant, by rw [hW0]; simp <;> omega, by rw [hW0]; simp [go_sem], by rw [hW0]; simp [go_sem], hwant.below hA, lwant, mwant⟩
  have hbwc : LBg wc W0 (w.heap.size + 1 + 1) 2 := ⟨pwc, cwc, by rw [hW0]; simp <;> omega, by rw [hW0]; simp [go_sem], by rw [hW0]; simp [go_sem], hwc.below hA, lwc, mwc⟩
  go_enter Try.func7, Try.ntmps7
  go_upto_region 3 with (go_at_call 9; rw [← hW0]; refine (lives_c _).mono ?_; rintro e w1 ⟨rfl, hb1⟩)
  have hct := hbt.below hb1
  have hctc := hbtc.below hb1
  have hcg := hbg.below hb1
  have hcgc := hbgc.below hb1
  have hcwant := hbwant.below hb1
  have hcwc := hbwc.below hb1
  have hA1 : Below w.heap.size w w1 := hA.trans (hb1.mono hA.size)
  refine wp_region_monoF 23 (fun kq v W => match kq with | 19 => v = .pointer (some ⟨w.heap.size, 2, none⟩) | 20 => LVg tc v W | 21 => v = .pointer (some ⟨w.heap.size + 1, 2, none⟩) | 22 => LVg gc v W | 23 => v = .pointer (some ⟨w.heap.size + 1 + 1, 0, none⟩) | 24 => LVg want v W | 25 => v = .pointer (some ⟨w.heap.size + 1 + 1, 2, none⟩) | 26 => LVg wc v W | 27 => LsVg [tc, gc, want, wc] v W | 28 => v = .bool ([tc, gc, want, wc].all rightM) | 29 => v = .bool (!([tc, gc, want, wc].all rightM)) | 30 => v = .bool (!([tc, gc, want, wc].all rightM)) | 31 => ((!([tc, gc, want, wc].all rightM)) = false → v = .pointer (some ⟨w.heap.size, 0, none⟩)) | 32 => ((!([tc, gc, want, wc].all rightM)) = false → LVg t v W) | 33 => ((!([tc, gc, want, wc].all rightM)) = false → v = .bool (plainS t.1 t.2)) | 34 => ((!([tc, gc, want, wc].all rightM)) = false → v = .bool (!(plainS t.1 t.2))) | 35 => v = .bool ((!([tc, gc, want, wc].all rightM)) || (!(plainS t.1 t.2))) | 36 => v = .bool ((!([tc, gc, want, wc].all rightM)) || (!(plainS t.1 t.2))) | 37 => (((!([tc, gc, want, wc].all rightM)) || (!(plainS t.1 t.2))) = false → v = .pointer (some ⟨w.heap.size + 1, 0, none⟩)) | 38 => (((!([tc, gc, want, wc].all rightM)) || (!(plainS t.1 t.2))) = false → LVg g v W) | 39 => (((!([tc, gc, want, wc].all rightM)) || (!(plainS t.1 t.2))) = false → v = .bool (plainS g.1 g.2)) | 40 => (((!([tc, gc, want, wc].all rightM)) || (!(plainS t.1 t.2))) = false → v = .bool (!(plainS g.1 g.2))) | 41 => v = .bool (((!([tc, gc, want, wc].all rightM)) || (!(plainS t.1 t.2))) || (!(plainS g.1 g.2))) | _ => True) (by kernel_rfl) (by kernel_rfl) (by simp) ?_ ?_ ?_
  · intro kq v W W' h hb
    revert h
    try dsimp only
    split
    · intro h; exact h
    · intro h; exact LVg.below h hb
    · intro h; exact h
    · intro h; exact LVg.below h hb
    · intro h; exact h
    · intro h; exact LVg.below h hb
    · intro h; exact h
    · intro h; exact LVg.below h hb
    · intro h; exact LsVg.below h hb
    · intro h; exact h
    · intro h; exact h
    · intro h; exact h
    · intro h' e; have h := h' e; exact h
    · intro h' e; have h := h' e; exact LVg.below h hb
    · intro h' e; have h := h' e; exact h
    · intro h' e; have h := h' e; exact h
    · intro h; exact h
    · intro h; exact h
    · intro h' e; have h := h' e; exact h
    · intro h' e; have h := h' e; exact LVg.below h hb
    · intro h' e; have h := h' e; exact h
    · intro h' e; have h := h' e; exact h
    · intro h; exact h
    · intro h; trivial
  · intro a' W hB hs hk i o d ho hd hG
    match i, ho with
    | 0, ho =>
      obtain rfl : _ = o := Option.some.inj ho
      obtain rfl : 19 = d := Option.some.inj hd
      exact .inr ⟨rfl, .inl ⟨_, W, run_fa1 (hk 4 (by kernel_rfl)), Below.refl _ _, rfl⟩⟩
    | 1, ho =>
      obtain rfl : _ = o := Option.some.inj ho
      obtain rfl : 20 = d := Option.some.inj hd
      have g19 : (a'.eval (.tmp 19)) = .pointer (some ⟨w.heap.size, 2, none⟩) := hG ⟨0, .data⟩ (by simp) rfl 19 rfl
      obtain ⟨v, hr, hv⟩ := run_loadLg (ev := a'.eval) (W := W) g19 (hctc.below hB)
      exact .inr ⟨rfl, .inl ⟨v, W, hr, Below.refl _ _, hv⟩⟩
    | 2, ho =>
      obtain rfl : _ = o := Option.some.inj ho
      obtain rfl : 21 = d := Option.some.inj hd
      exact .inr ⟨rfl, .inl ⟨_, W, run_fa1 (hk 5 (by kernel_rfl)), Below.refl _ _, rfl⟩⟩
    | 3, ho =>
      obtain rfl : _ = o := Option.some.inj ho
      obtain rfl : 22 = d := Option.some.inj hd
      have g21 : (a'.eval (.tmp 21)) = .pointer (some ⟨w.heap.size + 1, 2, none⟩) := hG ⟨2, .data⟩ (by simp) rfl 21 rfl
      obtain ⟨v, hr, hv⟩ := run_loadLg (ev := a'.eval) (W := W) g21 (hcgc.below hB)
      exact .inr ⟨rfl, .inl ⟨v, W, hr, Below.refl _ _, hv⟩⟩
    | 4, ho =>
      obtain rfl : _ = o := Option.some.inj ho
      obtain rfl : 23 = d := Option.some.inj hd
      exact .inr ⟨rfl, .inl ⟨_, W, run_fa0 (hk 6 (by kernel_rfl)), Below.refl _ _, rfl⟩⟩
    | 5, ho =>
      obtain rfl : _ = o := Option.some.inj ho
      obtain rfl : 24 = d := Option.some.inj hd
      have g23 : (a'.eval (.tmp 23)) = .pointer (some ⟨w.heap.size + 1 + 1, 0, none⟩) := hG ⟨4, .data⟩ (by simp) rfl 23 rfl
      obtain ⟨v, hr, hv⟩ := run_loadLg (ev := a'.eval) (W := W) g23 (hcwant.below hB)
      exact .inr ⟨rfl, .inl ⟨v, W, hr, Below.refl _ _, hv⟩⟩
    | 6, ho =>
      obtain rfl : _ = o := Option.some.inj ho
      obtain rfl : 25 = d := Option.some.inj hd
      exact .inr ⟨rfl, .inl ⟨_, W, run_fa1 (hk 6 (by kernel_rfl)), Below.refl _ _, rfl⟩⟩
    | 7, ho =>
      obtain rfl : _ = o := Option.some.inj ho
      obtain rfl : 26 = d := Option.some.inj hd
      have g25 : (a'.eval (.tmp 25)) = .pointer (some ⟨w.heap.size + 1 + 1, 2, none⟩) := hG ⟨6, .data⟩ (by simp) rfl 25 rfl
      obtain ⟨v, hr, hv⟩ := run_loadLg (ev := a'.eval) (W := W) g25 (hcwc.below hB)
      exact .inr ⟨rfl, .inl ⟨v, W, hr, Below.refl _ _, hv⟩⟩
    | 8, ho =>
      obtain rfl : _ = o := Option.some.inj ho
      obtain rfl : 27 = d := Option.some.inj hd
      have g20 : LVg tc (a'.eval (.tmp 20)) W := hG ⟨1, .data⟩ (by simp) rfl 20 rfl
      have g22 : LVg gc (a'.eval (.tmp 22)) W := hG ⟨3, .data⟩ (by simp) rfl 22 rfl
      have g24 : LVg want (a'.eval (.tmp 24)) W := hG ⟨5, .data⟩ (by simp) rfl 24 rfl
      have g26 : LVg wc (a'.eval (.tmp 26)) W := hG ⟨7, .data⟩ (by simp) rfl 26 rfl
      obtain ⟨v, W', hr, hb, hv⟩ := run_slice4g (ev := a'.eval) (W := W) rfl rfl rfl rfl g20 g22 g24 g26
      exact .inr ⟨rfl, .inl ⟨v, W', hr, hb, hv⟩⟩
    | 9, ho =>
      obtain rfl : _ = o := Option.some.inj ho
      obtain rfl : 28 = d := Option.some.inj hd
      have g27 : LsVg [tc, gc, want, wc] (a'.eval (.tmp 27)) W := hG ⟨8, .data⟩ (by simp) rfl 27 rfl
      exact .inr ⟨rfl, .inr ⟨_, _, run_call rfl map_1 ent_gatehouselaw07_right, right_c g27 (by simp)⟩⟩
    | 10, ho =>
      obtain rfl : _ = o := Option.some.inj ho
      obtain rfl : 29 = d := Option.some.inj hd
      have g28 : (a'.eval (.tmp 28)) = .bool ([tc, gc, want, wc].all rightM) := hG ⟨9, .data⟩ (by simp) rfl 28 rfl
      exact .inr ⟨rfl, .inl ⟨_, W, run_not g28, Below.refl _ _, rfl⟩⟩
    | 11, ho =>
      obtain rfl : _ = o := Option.some.inj ho
      obtain rfl : 30 = d := Option.some.inj hd
      have g29 : (a'.eval (.tmp 29)) = .bool (!([tc, gc, want, wc].all rightM)) := hG ⟨10, .data⟩ (by simp) rfl 29 rfl
      exact .inr ⟨rfl, .inl ⟨_, W, run_move rfl, Below.refl _ _, g29⟩⟩
    | 12, ho =>
      obtain rfl : _ = o := Option.some.inj ho
      obtain rfl : 31 = d := Option.some.inj hd
      have gg : a'.eval (.tmp 30) = .bool (!([tc, gc, want, wc].all rightM)) := hG ⟨11, .guard⟩ (by simp) rfl 30 rfl
      by_cases hgc_ : (!([tc, gc, want, wc].all rightM)) = false
      · exact .inr ⟨want_yes (n := 116) (d := 30) rfl hs (by decide) rfl (gg.trans (by rw [hgc_])), .inl ⟨_, W, run_fa0 (hk 4 (by kernel_rfl)), Below.refl _ _, fun _ => rfl⟩⟩
      · exact .inl ⟨want_no (n := 116) (d := 30) rfl hs (by decide) rfl gg hgc_, fun e => absurd e hgc_⟩
    | 13, ho =>
      obtain rfl : _ = o := Option.some.inj ho
      obtain rfl : 32 = d := Option.some.inj hd
      have gg : a'.eval (.tmp 30) = .bool (!([tc, gc, want, wc].all rightM)) := hG ⟨11, .guard⟩ (by simp) rfl 30 rfl
      by_cases hgc_ : (!([tc, gc, want, wc].all rightM)) = false
      · have g31 : (a'.eval (.tmp 31)) = .pointer (some ⟨w.heap.size, 0, none⟩) := hG ⟨12, .data⟩ (by simp) rfl 31 rfl hgc_
        obtain ⟨v, hr, hv⟩ := run_loadLg (ev := a'.eval) (W := W) g31 (hct.below hB)
        exact .inr ⟨want_yes (n := 116) (d := 30) rfl hs (by decide) rfl (gg.trans (by rw [hgc_])), .inl ⟨v, W, hr, Below.refl _ _, fun _ => hv⟩⟩
      · exact .inl ⟨want_no (n := 116) (d := 30) rfl hs (by decide) rfl gg hgc_, fun e => absurd e hgc_⟩
    | 14, ho =>
      obtain rfl : _ = o := Option.some.inj ho
      obtain rfl : 33 = d := Option.some.inj hd
      have gg : a'.eval (.tmp 30) = .bool (!([tc, gc, want, wc].all rightM)) := hG ⟨11, .guard⟩ (by simp) rfl 30 rfl
      by_cases hgc_ : (!([tc, gc, want, wc].all rightM)) = false
      · have g32 : LVg t (a'.eval (.tmp 32)) W := hG ⟨13, .data⟩ (by simp) rfl 32 rfl hgc_
        exact .inr ⟨want_yes (n := 116) (d := 30) rfl hs (by decide) rfl (gg.trans (by rw [hgc_])), .inr ⟨_, _, run_call rfl map_1 ent_gatehouseref01_Plain, (gPlain_c g32).mono (fun e W' ⟨v, he, hb, hv⟩ => ⟨v, he, hb, fun _ => hv⟩)⟩⟩
      · exact .inl ⟨want_no (n := 116) (d := 30) rfl hs (by decide) rfl gg hgc_, fun e => absurd e hgc_⟩
    | 15, ho =>
      obtain rfl : _ = o := Option.some.inj ho
      obtain rfl : 34 = d := Option.some.inj hd
      have gg : a'.eval (.tmp 30) = .bool (!([tc, gc, want, wc].all rightM)) := hG ⟨11, .guard⟩ (by simp) rfl 30 rfl
      by_cases hgc_ : (!([tc, gc, want, wc].all rightM)) = false
      · have g33 : (a'.eval (.tmp 33)) = .bool (plainS t.1 t.2) := hG ⟨14, .data⟩ (by simp) rfl 33 rfl hgc_
        exact .inr ⟨want_yes (n := 116) (d := 30) rfl hs (by decide) rfl (gg.trans (by rw [hgc_])), .inl ⟨_, W, run_not g33, Below.refl _ _, fun _ => rfl⟩⟩
      · exact .inl ⟨want_no (n := 116) (d := 30) rfl hs (by decide) rfl gg hgc_, fun e => absurd e hgc_⟩
    | 16, ho =>
      obtain rfl : _ = o := Option.some.inj ho
      obtain rfl : 35 = d := Option.some.inj hd
      have g30 : (a'.eval (.tmp 30)) = .bool (!([tc, gc, want, wc].all rightM)) := hG ⟨11, .data⟩ (by simp) rfl 30 rfl
      by_cases hq : (!([tc, gc, want, wc].all rightM)) = true
      · exact .inr ⟨rfl, .inl ⟨_, W, run_pick_yes (g30.trans (by rw [hq])) rfl, Below.refl _ _, by rw [hq]; rfl⟩⟩
      · have hq' : (!([tc, gc, want, wc].all rightM)) = false := by simpa using hq
        exact .inr ⟨rfl, .inl ⟨_, W, run_pick_no (g30.trans (by rw [hq'])) (hG ⟨15, .data⟩ (by simp) rfl 34 rfl hq'), Below.refl _ _, by rw [hq']; rfl⟩⟩
    | 17, ho =>
      obtain rfl : _ = o := Option.some.inj ho
      obtain rfl : 36 = d := Option.some.inj hd
      have g35 : (a'.eval (.tmp 35)) = .bool ((!([tc, gc, want, wc].all rightM)) || (!(plainS t.1 t.2))) := hG ⟨16, .data⟩ (by simp) rfl 35 rfl
      exact .inr ⟨rfl, .inl ⟨_, W, run_move rfl, Below.refl _ _, g35⟩⟩
    | 18, ho =>
      obtain rfl : _ = o := Option.some.inj ho
      obtain rfl : 37 = d := Option.some.inj hd
      have gg : a'.eval (.tmp 36) = .bool ((!([tc, gc, want, wc].all rightM)) || (!(plainS t.1 t.2))) := hG ⟨17, .guard⟩ (by simp) rfl 36 rfl
      by_cases hgc_ : ((!([tc, gc, want, wc].all rightM)) || (!(plainS t.1 t.2))) = false
      · exact .inr ⟨want_yes (n := 116) (d := 36) rfl hs (by decide) rfl (gg.trans (by rw [hgc_])), .inl ⟨_, W, run_fa0 (hk 5 (by kernel_rfl)), Below.refl _ _, fun _ => rfl⟩⟩
      · exact .inl ⟨want_no (n := 116) (d := 36) rfl hs (by decide) rfl gg hgc_, fun e => absurd e hgc_⟩
    | 19, ho =>
      obtain rfl : _ = o := Option.some.inj ho
      obtain rfl : 38 = d := Option.some.inj hd
      have gg : a'.eval (.tmp 36) = .bool ((!([tc, gc, want, wc].all rightM)) || (!(plainS t.1 t.2))) := hG ⟨17, .guard⟩ (by simp) rfl 36 rfl
      by_cases hgc_ : ((!([tc, gc, want, wc].all rightM)) || (!(plainS t.1 t.2))) = false
      · have g37 : (a'.eval (.tmp 37)) = .pointer (some ⟨w.heap.size + 1, 0, none⟩) := hG ⟨18, .data⟩ (by simp) rfl 37 rfl hgc_
        obtain ⟨v, hr, hv⟩ := run_loadLg (ev := a'.eval) (W := W) g37 (hcg.below hB)
        exact .inr ⟨want_yes (n := 116) (d := 36) rfl hs (by decide) rfl (gg.trans (by rw [hgc_])), .inl ⟨v, W, hr, Below.refl _ _, fun _ => hv⟩⟩
      · exact .inl ⟨want_no (n := 116) (d := 36) rfl hs (by decide) rfl gg hgc_, fun e => absurd e hgc_⟩
    | 20, ho =>
      obtain rfl : _ = o := Option.some.inj ho
      obtain rfl : 39 = d := Option.some.inj hd
      have gg : a'.eval (.tmp 36) = .bool ((!([tc, gc, want, wc].all rightM)) || (!(plainS t.1 t.2))) := hG ⟨17, .guard⟩ (by simp) rfl 36 rfl
      by_cases hgc_ : ((!([tc, gc, want, wc].all rightM)) || (!(plainS t.1 t.2))) = false
      · have g38 : LVg g (a'.eval (.tmp 38)) W := hG ⟨19, .data⟩ (by simp) rfl 38 rfl hgc_
        exact .inr ⟨want_yes (n := 116) (d := 36) rfl hs (by decide) rfl (gg.trans (by rw [hgc_])), .inr ⟨_, _, run_call rfl map_1 ent_gatehouseref01_Plain, (gPlain_c g38).mono (fun e W' ⟨v, he, hb, hv⟩ => ⟨v, he, hb, fun _ => hv⟩)⟩⟩
      · exact .inl ⟨want_no (n := 116) (d := 36) rfl hs (by decide) rfl gg hgc_, fun e => absurd e hgc_⟩
    | 21, ho =>
      obtain rfl : _ = o := Option.some.inj ho
      obtain rfl : 40 = d := Option.some.inj hd
      have gg : a'.eval (.tmp 36) = .bool ((!([tc, gc, want, wc].all rightM)) || (!(plainS t.1 t.2))) := hG ⟨17, .guard⟩ (by simp) rfl 36 rfl
      by_cases hgc_ : ((!([tc, gc, want, wc].all rightM)) || (!(plainS t.1 t.2))) = false
      · have g39 : (a'.eval (.tmp 39)) = .bool (plainS g.1 g.2) := hG ⟨20, .data⟩ (by simp) rfl 39 rfl hgc_
        exact .inr ⟨want_yes (n := 116) (d := 36) rfl hs (by decide) rfl (gg.trans (by rw [hgc_])), .inl ⟨_, W, run_not g39, Below.refl _ _, fun _ => rfl⟩⟩
      · exact .inl ⟨want_no (n := 116) (d := 36) rfl hs (by decide) rfl gg hgc_, fun e => absurd e hgc_⟩
    | 22, ho =>
      obtain rfl : _ = o := Option.some.inj ho
      obtain rfl : 41 = d := Option.some.inj hd
      have g36 : (a'.eval (.tmp 36)) = .bool ((!([tc, gc, want, wc].all rightM)) || (!(plainS t.1 t.2))) := hG ⟨17, .data⟩ (by simp) rfl 36 rfl
      by_cases hq : ((!([tc, gc, want, wc].all rightM)) || (!(plainS t.1 t.2))) = true
      · exact .inr ⟨rfl, .inl ⟨_, W, run_pick_yes (g36.trans (by rw [hq])) rfl, Below.refl _ _, by rw [hq]; rfl⟩⟩
      · have hq' : ((!([tc, gc, want, wc].all rightM)) || (!(plainS t.1 t.2))) = false := by simpa using hq
        exact .inr ⟨rfl, .inl ⟨_, W, run_pick_no (g36.trans (by rw [hq'])) (hG ⟨21, .data⟩ (by simp) rfl 40 rfl hq'), Below.refl _ _, by rw [hq']; rfl⟩⟩
    | j + 23, ho => simp at ho
  · intro a' W hB hs hdf hk hG
    obtain ⟨tm, df⟩ := a'
    obtain rfl : df = [] := hdf
    have e0 : tm.getD 0 undef = .agg #[.int .i64 t.fst, .slice pt t.snd.length ct, .int .i64 tc.fst, .slice ptc tc.snd.length ctc] := hk 0 (by kernel_rfl)
    have e1 : tm.getD 1 undef = .agg #[.int .i64 g.fst, .slice pg g.snd.length cg, .int .i64 gc.fst, .slice pgc gc.snd.length cgc] := hk 1 (by kernel_rfl)
    have e2 : tm.getD 2 undef = .agg #[.int .i64 want.fst, .slice pwant want.snd.length cwant, .int .i64 wc.fst, .slice pwc wc.snd.length cwc] := hk 2 (by kernel_rfl)
    have e3 : tm.getD 3 undef = .int .i64 cat := hk 3 (by kernel_rfl)
    have e4 : tm.getD 4 undef = .pointer (some ⟨w.heap.size, 0, none⟩) := hk 4 (by kernel_rfl)
    have e5 : tm.getD 5 undef = .pointer (some ⟨w.heap.size + 1, 0, none⟩) := hk 5 (by kernel_rfl)
    have e6 : tm.getD 6 undef = .pointer (some ⟨w.heap.size + 1 + 1, 0, none⟩) := hk 6 (by kernel_rfl)
    have e7 : tm.getD 7 undef = undef := hk 7 (by kernel_rfl)
    have e8 : tm.getD 8 undef = .bool false := hk 8 (by kernel_rfl)
    have e9 : tm.getD 9 undef = undef := hk 9 (by kernel_rfl)
    have e10 : tm.getD 10 undef = undef := hk 10 (by kernel_rfl)
    have e11 : tm.getD 11 undef = undef := hk 11 (by kernel_rfl)
    have e12 : tm.getD 12 undef = undef := hk 12 (by kernel_rfl)
    have e13 : tm.getD 13 undef = undef := hk 13 (by kernel_rfl)
    have e14 : tm.getD 14 undef = undef := hk 14 (by kernel_rfl)
    have e15 : tm.getD 15 undef = undef := hk 15 (by kernel_rfl)
    have e16 : tm.getD 16 undef = undef := hk 16 (by kernel_rfl)
    have e17 : tm.getD 17 undef = .bool true := hk 17 (by kernel_rfl)
    have e18 : tm.getD 18 undef = .bool false := hk 18 (by kernel_rfl)
    have e42 : tm.getD 42 undef = undef := hk 42 (by kernel_rfl)
    have e43 : tm.getD 43 undef = undef := hk 43 (by kernel_rfl)
    have e44 : tm.getD 44 undef = undef := hk 44 (by kernel_rfl)
    have e45 : tm.getD 45 undef = undef := hk 45 (by kernel_rfl)
    have e46 : tm.getD 46 undef = undef := hk 46 (by kernel_rfl)
    have e47 : tm.getD 47 undef = undef := hk 47 (by kernel_rfl)
    have e48 : tm.getD 48 undef = undef := hk 48 (by kernel_rfl)
    have e49 : tm.getD 49 undef = undef := hk 49 (by kernel_rfl)
    have e50 : tm.getD 50 undef = undef := hk 50 (by kernel_rfl)
    have e51 : tm.getD 51 undef = undef := hk 51 (by kernel_rfl)
    have e52 : tm.getD 52 undef = undef := hk 52 (by kernel_rfl)
    have e53 : tm.getD 53 undef = undef := hk 53 (by kernel_rfl)
    have e54 : tm.getD 54 undef = undef := hk 54 (by kernel_rfl)
    have e55 : tm.getD 55 undef = undef := hk 55 (by kernel_rfl)
    have e56 : tm.getD 56 undef = undef := hk 56 (by kernel_rfl)
    have e57 : tm.getD 57 undef = undef := hk 57 (by kernel_rfl)
    have e58 : tm.getD 58 undef = undef := hk 58 (by kernel_rfl)
    have e59 : tm.getD 59 undef = undef := hk 59 (by kernel_rfl)
    have e60 : tm.getD 60 undef = undef := hk 60 (by kernel_rfl)
    have e61 : tm.getD 61 undef = undef := hk 61 (by kernel_rfl)
    have e62 : tm.getD 62 undef = undef := hk 62 (by kernel_rfl)
    have e63 : tm.getD 63 undef = undef := hk 63 (by kernel_rfl)
    have e64 : tm.getD 64 undef = undef := hk 64 (by kernel_rfl)
    have e65 : tm.getD 65 undef = undef := hk 65 (by kernel_rfl)
    have e66 : tm.getD 66 undef = undef := hk 66 (by kernel_rfl)
    have e67 : tm.getD 67 undef = undef := hk 67 (by kernel_rfl)
    have e68 : tm.getD 68 undef = undef := hk 68 (by kernel_rfl)
    have e69 : tm.getD 69 undef = undef := hk 69 (by kernel_rfl)
    have e70 : tm.getD 70 undef = undef := hk 70 (by kernel_rfl)
    have e71 : tm.getD 71 undef = undef := hk 71 (by kernel_rfl)
    have e72 : tm.getD 72 undef = undef := hk 72 (by kernel_rfl)
    have e73 : tm.getD 73 undef = undef := hk 73 (by kernel_rfl)
    have e74 : tm.getD 74 undef = undef := hk 74 (by kernel_rfl)
    have e75 : tm.getD 75 undef = undef := hk 75 (by kernel_rfl)
    have e76 : tm.getD 76 undef = undef := hk 76 (by kernel_rfl)
    have e77 : tm.getD 77 undef = undef := hk 77 (by kernel_rfl)
    have e78 : tm.getD 78 undef = undef := hk 78 (by kernel_rfl)
    have e79 : tm.getD 79 undef = undef := hk 79 (by kernel_rfl)
    have e80 : tm.getD 80 undef = undef := hk 80 (by kernel_rfl)
    have e81 : tm.getD 81 undef = undef := hk 81 (by kernel_rfl)
    have e82 : tm.getD 82 undef = undef := hk 82 (by kernel_rfl)
    have e83 : tm.getD 83 undef = undef := hk 83 (by kernel_rfl)
    have e84 : tm.getD 84 undef = undef := hk 84 (by kernel_rfl)
    have e85 : tm.getD 85 undef = undef := hk 85 (by kernel_rfl)
    have e86 : tm.getD 86 undef = undef := hk 86 (by kernel_rfl)
    have e87 : tm.getD 87 undef = undef := hk 87 (by kernel_rfl)
    have e88 : tm.getD 88 undef = undef := hk 88 (by kernel_rfl)
    have e89 : tm.getD 89 undef = undef := hk 89 (by kernel_rfl)
    have e90 : tm.getD 90 undef = undef := hk 90 (by kernel_rfl)
    have e91 : tm.getD 91 undef = undef := hk 91 (by kernel_rfl)
    have e92 : tm.getD 92 undef = undef := hk 92 (by kernel_rfl)
    have e93 : tm.getD 93 undef = undef := hk 93 (by kernel_rfl)
    have e94 : tm.getD 94 undef = undef := hk 94 (by kernel_rfl)
    have e95 : tm.getD 95 undef = undef := hk 95 (by kernel_rfl)
    have e96 : tm.getD 96 undef = undef := hk 96 (by kernel_rfl)
    have e97 : tm.getD 97 undef = undef := hk 97 (by kernel_rfl)
    have e98 : tm.getD 98 undef = undef := hk 98 (by kernel_rfl)
    have e99 : tm.getD 99 undef = undef := hk 99 (by kernel_rfl)
    have e100 : tm.getD 100 undef = undef := hk 100 (by kernel_rfl)
    have e101 : tm.getD 101 undef = undef := hk 101 (by kernel_rfl)
    have e102 : tm.getD 102 undef = undef := hk 102 (by kernel_rfl)
    have e103 : tm.getD 103 undef = undef := hk 103 (by kernel_rfl)
    have e104 : tm.getD 104 undef = undef := hk 104 (by kernel_rfl)
    have e105 : tm.getD 105 undef = undef := hk 105 (by kernel_rfl)
    have e106 : tm.getD 106 undef = undef := hk 106 (by kernel_rfl)
    have e107 : tm.getD 107 undef = undef := hk 107 (by kernel_rfl)
    have e108 : tm.getD 108 undef = undef := hk 108 (by kernel_rfl)
    have e109 : tm.getD 109 undef = undef := hk 109 (by kernel_rfl)
    have e110 : tm.getD 110 undef = undef := hk 110 (by kernel_rfl)
    have e111 : tm.getD 111 undef = undef := hk 111 (by kernel_rfl)
    have e112 : tm.getD 112 undef = undef := hk 112 (by kernel_rfl)
    have e113 : tm.getD 113 undef = undef := hk 113 (by kernel_rfl)
    have e114 : tm.getD 114 undef = undef := hk 114 (by kernel_rfl)
    have e115 : tm.getD 115 undef = undef := hk 115 (by kernel_rfl)
    have g19 : (tm.getD 19 undef) = .pointer (some ⟨w.heap.size, 2, none⟩) := hG 0 19 (by decide) rfl
    have g20 : LVg tc (tm.getD 20 undef) W := hG 1 20 (by decide) rfl
    have g21 : (tm.getD 21 undef) = .pointer (some ⟨w.heap.size + 1, 2, none⟩) := hG 2 21 (by decide) rfl
    have g22 : LVg gc (tm.getD 22 undef) W := hG 3 22 (by decide) rfl
    have g23 : (tm.getD 23 undef) = .pointer (some ⟨w.heap.size + 1 + 1, 0, none⟩) := hG 4 23 (by decide) rfl
    have g24 : LVg want (tm.getD 24 undef) W := hG 5 24 (by decide) rfl
    have g25 : (tm.getD 25 undef) = .pointer (some ⟨w.heap.size + 1 + 1, 2, none⟩) := hG 6 25 (by decide) rfl
    have g26 : LVg wc (tm.getD 26 undef) W := hG 7 26 (by decide) rfl
    have g27 : LsVg [tc, gc, want, wc] (tm.getD 27 undef) W := hG 8 27 (by decide) rfl
    have g28 : (tm.getD 28 undef) = .bool ([tc, gc, want, wc].all rightM) := hG 9 28 (by decide) rfl
    have g29 : (tm.getD 29 undef) = .bool (!([tc, gc, want, wc].all rightM)) := hG 10 29 (by decide) rfl
    have g30 : (tm.getD 30 undef) = .bool (!([tc, gc, want, wc].all rightM)) := hG 11 30 (by decide) rfl
    have g31 : (!([tc, gc, want, wc].all rightM)) = false → (tm.getD 31 undef) = .pointer (some ⟨w.heap.size, 0, none⟩) := hG 12 31 (by decide) rfl
    have g32 : (!([tc, gc, want, wc].all rightM)) = false → LVg t (tm.getD 32 undef) W := hG 13 32 (by decide) rfl
    have g33 : (!([tc, gc, want, wc].all rightM)) = false → (tm.getD 33 undef) = .bool (plainS t.1 t.2) := hG 14 33 (by decide) rfl
    have g34 : (!([tc, gc, want, wc].all rightM)) = false → (tm.getD 34 undef) = .bool (!(plainS t.1 t.2)) := hG 15 34 (by decide) rfl
    have g35 : (tm.getD 35 undef) = .bool ((!([tc, gc, want, wc].all rightM)) || (!(plainS t.1 t.2))) := hG 16 35 (by decide) rfl
    have g36 : (tm.getD 36 undef) = .bool ((!([tc, gc, want, wc].all rightM)) || (!(plainS t.1 t.2))) := hG 17 36 (by decide) rfl
    have g37 : ((!([tc, gc, want, wc].all rightM)) || (!(plainS t.1 t.2))) = false → (tm.getD 37 undef) = .pointer (some ⟨w.heap.size + 1, 0, none⟩) := hG 18 37 (by decide) rfl
    have g38 : ((!([tc, gc, want, wc].all rightM)) || (!(plainS t.1 t.2))) = false → LVg g (tm.getD 38 undef) W := hG 19 38 (by decide) rfl
    have g39 : ((!([tc, gc, want, wc].all rightM)) || (!(plainS t.1 t.2))) = false → (tm.getD 39 undef) = .bool (plainS g.1 g.2) := hG 20 39 (by decide) rfl
    have g40 : ((!([tc, gc, want, wc].all rightM)) || (!(plainS t.1 t.2))) = false → (tm.getD 40 undef) = .bool (!(plainS g.1 g.2)) := hG 21 40 (by decide) rfl
    have g41 : (tm.getD 41 undef) = .bool (((!([tc, gc, want, wc].all rightM)) || (!(plainS t.1 t.2))) || (!(plainS g.1 g.2))) := hG 22 41 (by decide) rfl
    have htm := arr_of tm ((.agg #[.int .i64 t.fst, .slice pt t.snd.length ct, .int .i64 tc.fst, .slice ptc tc.snd.length ctc] : Value) :: (.agg #[.int .i64 g.fst, .slice pg g.snd.length cg, .int .i64 gc.fst, .slice pgc gc.snd.length cgc] : Value) :: (.agg #[.int .i64 want.fst, .slice pwant want.snd.length cwant, .int .i64 wc.fst, .slice pwc wc.snd.length cwc] : Value) :: (.int .i64 cat : Value) :: (.pointer (some ⟨w.heap.size, 0, none⟩) : Value) :: (.pointer (some ⟨w.heap.size + 1, 0, none⟩) : Value) :: (.pointer (some ⟨w.heap.size + 1 + 1, 0, none⟩) : Value) :: (undef : Value) :: (.bool false : Value) :: (undef : Value) :: (undef : Value) :: (undef : Value) :: (undef : Value) :: (undef : Value) :: (undef : Value) :: (undef : Value) :: (undef : Value) :: (.bool true : Value) :: (.bool false : Value) :: (tm.getD 19 undef : Value) :: (tm.getD 20 undef : Value) :: (tm.getD 21 undef : Value) :: (tm.getD 22 undef : Value) :: (tm.getD 23 undef : Value) :: (tm.getD 24 undef : Value) :: (tm.getD 25 undef : Value) :: (tm.getD 26 undef : Value) :: (tm.getD 27 undef : Value) :: (tm.getD 28 undef : Value) :: (tm.getD 29 undef : Value) :: (tm.getD 30 undef : Value) :: (tm.getD 31 undef : Value) :: (tm.getD 32 undef : Value) :: (tm.getD 33 undef : Value) :: (tm.getD 34 undef : Value) :: (tm.getD 35 undef : Value) :: (tm.getD 36 undef : Value) :: (tm.getD 37 undef : Value) :: (tm.getD 38 undef : Value) :: (tm.getD 39 undef : Value) :: (tm.getD 40 undef : Value) :: (tm.getD 41 undef : Value) :: (undef : Value) :: (undef : Value) :: (undef : Value) :: (undef : Value) :: (undef : Value) :: (undef : Value) :: (undef : Value) :: (undef : Value) :: (undef : Value) :: (undef : Value) :: (undef : Value) :: (undef : Value) :: (undef : Value) :: (undef : Value) :: (undef : Value) :: (undef : Value) :: (undef : Value) :: (undef : Value) :: (undef : Value) :: (undef : Value) :: (undef : Value) :: (undef : Value) :: (undef : Value) :: (undef : Value) :: (undef : Value) :: (undef : Value) :: (undef : Value) :: (undef : Value) :: (undef : Value) :: (undef : Value) :: (undef : Value) :: (undef : Value) :: (undef : Value) :: (undef : Value) :: (undef : Value) :: (undef : Value) :: (undef : Value) :: (undef : Value) :: (undef : Value) :: (undef : Value) :: (undef : Value) :: (undef : Value) :: (undef : Value) :: (undef : Value) :: (undef : Value) :: (undef : Value) :: (undef : Value) :: (undef : Value) :: (undef : Value) :: (undef : Value) :: (undef : Value) :: (undef : Value) :: (undef : Value) :: (undef : Value) :: (undef : Value) :: (undef : Value) :: (undef : Value) :: (undef : Value) :: (undef : Value) :: (undef : Value) :: (undef : Value) :: (undef : Value) :: (undef : Value) :: (undef : Value) :: (undef : Value) :: (undef : Value) :: (undef : Value) :: (undef : Value) :: (undef : Value) :: (undef : Value) :: (undef : Value) :: (undef : Value) :: (undef : Value) :: (undef : Value) :: []) hs (by show (tm.getD 0 undef :: tm.getD 1 undef :: tm.getD 2 undef :: tm.getD 3 undef :: tm.getD 4 undef :: tm.getD 5 undef :: tm.getD 6 undef :: tm.getD 7 undef :: tm.getD 8 undef :: tm.getD 9 undef :: tm.getD 10 undef :: tm.getD 11 undef :: tm.getD 12 undef :: tm.getD 13 undef :: tm.getD 14 undef :: tm.getD 15 undef :: tm.getD 16 undef :: tm.getD 17 undef :: tm.getD 18 undef :: tm.getD 19 undef :: tm.getD 20 undef :: tm.getD 21 undef :: tm.getD 22 undef :: tm.getD 23 undef :: tm.getD 24 undef :: tm.getD 25 undef :: tm.getD 26 undef :: tm.getD 27 undef :: tm.getD 28 undef :: tm.getD 29 undef :: tm.getD 30 undef :: tm.getD 31 undef :: tm.getD 32 undef :: tm.getD 33 undef :: tm.getD 34 undef :: tm.getD 35 undef :: tm.getD 36 undef :: tm.getD 37 undef :: tm.getD 38 undef :: tm.getD 39 undef :: tm.getD 40 undef :: tm.getD 41 undef :: tm.getD 42 undef :: tm.getD 43 undef :: tm.getD 44 undef :: tm.getD 45 undef :: tm.getD 46 undef :: tm.getD 47 undef :: tm.getD 48 undef :: tm.getD 49 undef :: tm.getD 50 undef :: tm.getD 51 undef :: tm.getD 52 undef :: tm.getD 53 undef :: tm.getD 54 undef :: tm.getD 55 undef :: tm.getD 56 undef :: tm.getD 57 undef :: tm.getD 58 undef :: tm.getD 59 undef :: tm.getD 60 undef :: tm.getD 61 undef :: tm.getD 62 undef :: tm.getD 63 undef :: tm.getD 64 undef :: tm.getD 65 undef :: tm.getD 66 undef :: tm.getD 67 undef :: tm.getD 68 undef :: tm.getD 69 undef :: tm.getD 70 undef :: tm.getD 71 undef :: tm.getD 72 undef :: tm.getD 73 undef :: tm.getD 74 undef :: tm.getD 75 undef :: tm.getD 76 undef :: tm.getD 77 undef :: tm.getD 78 undef :: tm.getD 79 undef :: tm.getD 80 undef :: tm.getD 81 undef :: tm.getD 82 undef :: tm.getD 83 undef :: tm.getD 84 undef :: tm.getD 85 undef :: tm.getD 86 undef :: tm.getD 87 undef :: tm.getD 88 undef :: tm.getD 89 undef :: tm.getD 90 undef :: tm.getD 91 undef :: tm.getD 92 undef :: tm.getD 93 undef :: tm.getD 94 undef :: tm.getD 95 undef :: tm.getD 96 undef :: tm.getD 97 undef :: tm.getD 98 undef :: tm.getD 99 undef :: tm.getD 100 undef :: tm.getD 101 undef :: tm.getD 102 undef :: tm.getD 103 undef :: tm.getD 104 undef :: tm.getD 105 undef :: tm.getD 106 undef :: tm.getD 107 undef :: tm.getD 108 undef :: tm.getD 109 undef :: tm.getD 110 undef :: tm.getD 111 undef :: tm.getD 112 undef :: tm.getD 113 undef :: tm.getD 114 undef :: tm.getD 115 undef :: []) = _; rw [e0, e1, e2, e3, e4, e5, e6, e7, e8, e9, e10, e11, e12, e13, e14, e15, e16, e17, e18, e42, e43, e44, e45, e46, e47, e48, e49, e50, e51, e52, e53, e54, e55, e56, e57, e58, e59, e60, e61, e62, e63, e64, e65, e66, e67, e68, e69, e70, e71, e72, e73, e74, e75, e76, e77, e78, e79, e80, e81, e82, e83, e84, e85, e86, e87, e88, e89, e90, e91, e92, e93, e94, e95, e96, e97, e98, e99, e100, e101, e102, e103, e104, e105, e106, e107, e108, e109, e110, e111, e112, e113, e114, e115]; try rfl)
    clear hs hk hG e0 e1 e2 e3 e4 e5 e6 e7 e8 e9 e10 e11 e12 e13 e14 e15 e16 e17 e18 e42 e43 e44 e45 e46 e47 e48 e49 e50 e51 e52 e53 e54 e55 e56 e57 e58 e59 e60 e61 e62 e63 e64 e65 e66 e67 e68 e69 e70 e71 e72 e73 e74 e75 e76 e77 e78 e79 e80 e81 e82 e83 e84 e85 e86 e87 e88 e89 e90 e91 e92 e93 e94 e95 e96 e97 e98 e99 e100 e101 e102 e103 e104 e105 e106 e107 e108 e109 e110 e111 e112 e113 e114 e115
    generalize tm.getD 19 undef = t19 at htm g19
    generalize tm.getD 20 undef = t20 at htm g20
    generalize tm.getD 21 undef = t21 at htm g21
    generalize tm.getD 22 undef = t22 at htm g22
    generalize tm.getD 23 undef = t23 at htm g23
    generalize tm.getD 24 undef = t24 at htm g24
    generalize tm.getD 25 undef = t25 at htm g25
    generalize tm.getD 26 undef = t26 at htm g26
    generalize tm.getD 27 undef = t27 at htm g27
    generalize tm.getD 28 undef = t28 at htm g28
    generalize tm.getD 29 undef = t29 at htm g29
    generalize tm.getD 30 undef = t30 at htm g30
    generalize tm.getD 31 undef = t31 at htm g31
    generalize tm.getD 32 undef = t32 at htm g32
    generalize tm.getD 33 undef = t33 at htm g33
    generalize tm.getD 34 undef = t34 at htm g34
    generalize tm.getD 35 undef = t35 at htm g35
    generalize tm.getD 36 undef = t36 at htm g36
    generalize tm.getD 37 undef = t37 at htm g37
    generalize tm.getD 38 undef = t38 at htm g38
    generalize tm.getD 39 undef = t39 at htm g39
    generalize tm.getD 40 undef = t40 at htm g40
    generalize tm.getD 41 undef = t41 at htm g41
    subst htm
    subst g19
    subst g21
    subst g23
    subst g25
    subst g28
    subst g29
    subst g30
    subst g35
    subst g36
    subst g41
    simp only [List.drop_succ_cons, List.drop_zero]
    have hA2 : Below w.heap.size w W := hA1.trans (hB.mono hA1.size)
    have hdt := hct.below hB
    have hdtc := hctc.below hB
    have hdg := hcg.below hB
    have hdgc := hcgc.below hB
    have hdwant := hcwant.below hB
    have hdwc := hcwc.below hB
    clear g20 g22 g24 g26 g27 g32 g38
    obtain ⟨x0, hx⟩ : ∃ x0, (((!([tc, gc, want, wc].all rightM)) || (!(plainS t.1 t.2))) || (!(plainS g.1 g.2))) = x0 := ⟨_, rfl⟩
    simp only [hx]
    cases x0 with
    | true =>
      clear hx
      go_wp2
      go_ret
      exact ⟨rfl, hA2⟩
    | false =>
      have hR : (rightM tc = true ∧ rightM gc = true ∧ rightM want = true ∧ rightM wc = true) ∧ plainS t.1 t.2 = true ∧ plainS g.1 g.2 = true := by
        simp only [Bool.or_eq_false_iff, Bool.not_eq_false'] at hx
        refine ⟨by simpa using hx.1.1, hx.1.2, hx.2⟩
      obtain ⟨⟨rtc, rgc, rwant, rwc⟩, pt', pg'⟩ := hR
      have rt := plain_right pt'
      have rg := plain_right pg'
      have HKF : Hid (riseI t tc want = 0 → ∀ k, aM t k ≤ aM want k) := fun h k => rise_keeps (okL rt) (okL rwant) h k
      have HKE : Hid (enterI t tc g gc want wc = 0 → ∀ k, aM t k ≠ 0 → aM g k ≠ 0 → aM t k ≤ aM want k) := fun h k h1 h2 => enter_keeps (okL rt) (okL rg) (okL rwant) pt' pg' h k h1 h2
      have het := hdt.ok (right16 rt)
      have hetc := hdtc.ok (right16 rtc)
      have heg := hdg.ok (right16 rg)
      have hegc := hdgc.ok (right16 rgc)
      have hewant := hdwant.ok (right16 rwant)
      have hewc := hdwc.ok (right16 rwc)
      clear hx rt rtc rg rgc rwant rwc pt' pg'
      go_upto_region 5 with fail
      refine wp_region_monoF 13 (fun kq v W => match kq with | 42 => v = .pointer (some ⟨w.heap.size, 0, none⟩) | 43 => LV t v W | 44 => v = .pointer (some ⟨w.heap.size, 2, none⟩) | 45 => LV tc v W | 46 => v = .pointer (some ⟨w.heap.size + 1, 0, none⟩) | 47 => LV g v W | 48 => v = .pointer (some ⟨w.heap.size + 1, 2, none⟩) | 49 => LV gc v W | 50 => v = .pointer (some ⟨w.heap.size + 1 + 1, 0, none⟩) | 51 => LV want v W | 52 => v = .pointer (some ⟨w.heap.size + 1 + 1, 2, none⟩) | 53 => LV wc v W | 54 => v = .int .i64 (enterI t tc g gc want wc) | _ => True) (by kernel_rfl) (by kernel_rfl) (by simp) ?_ ?_ ?_
      · intro kq v W W' h hb
        revert h
        try dsimp only
        split
        · intro h; exact h
        · intro h; exact LV.below h hb
        · intro h; exact h
        · intro h; exact LV.below h hb
        · intro h; exact h
        · intro h; exact LV.below h hb
        · intro h; exact h
        · intro h; exact LV.below h hb
        · intro h; exact h
        · intro h; exact LV.below h hb
        · intro h; exact h
        · intro h; exact LV.below h hb
        · intro h; exact h
        · intro h; trivial
      · intro a' W hB hs hk i o d ho hd hG
        match i, ho with
        | 0, ho =>
          obtain rfl : _ = o := Option.some.inj ho
          obtain rfl : 42 = d := Option.some.inj hd
          exact .inr ⟨rfl, .inl ⟨_, W, run_fa0 (hk 4 (by kernel_rfl)), Below.refl _ _, rfl⟩⟩
        | 1, ho =>
          obtain rfl : _ = o := Option.some.inj ho
          obtain rfl : 43 = d := Option.some.inj hd
          have g42 : (a'.eval (.tmp 42)) = .pointer (some ⟨w.heap.size, 0, none⟩) := hG ⟨0, .data⟩ (by simp) rfl 42 rfl
          obtain ⟨v, hr, hv⟩ := run_loadL (ev := a'.eval) (W := W) g42 (het.below hB)
          exact .inr ⟨rfl, .inl ⟨v, W, hr, Below.refl _ _, hv⟩⟩
        | 2, ho =>
          obtain rfl : _ = o := Option.some.inj ho
          obtain rfl : 44 = d := Option.some.inj hd
          exact .inr ⟨rfl, .inl ⟨_, W, run_fa1 (hk 4 (by kernel_rfl)), Below.refl _ _, rfl⟩⟩
        | 3, ho =>
          obtain rfl : _ = o := Option.some.inj ho
          obtain rfl : 45 = d := Option.some.inj hd
          have g44 : (a'.eval (.tmp 44)) = .pointer (some ⟨w.heap.size, 2, none⟩) := hG ⟨2, .data⟩ (by simp) rfl 44 rfl
          obtain ⟨v, hr, hv⟩ := run_loadL (ev := a'.eval) (W := W) g44 (hetc.below hB)
          exact .inr ⟨rfl, .inl ⟨v, W, hr, Below.refl _ _, hv⟩⟩
        | 4, ho =>
          obtain rfl : _ = o := Option.some.inj ho
          obtain rfl : 46 = d := Option.some.inj hd
          exact .inr ⟨rfl, .inl ⟨_, W, run_fa0 (hk 5 (by kernel_rfl)), Below.refl _ _, rfl⟩⟩
        | 5, ho =>
          obtain rfl : _ = o := Option.some.inj ho
          obtain rfl : 47 = d := Option.some.inj hd
          have g46 : (a'.eval (.tmp 46)) = .pointer (some ⟨w.heap.size + 1, 0, none⟩) := hG ⟨4, .data⟩ (by simp) rfl 46 rfl
          obtain ⟨v, hr, hv⟩ := run_loadL (ev := a'.eval) (W := W) g46 (heg.below hB)
          exact .inr ⟨rfl, .inl ⟨v, W, hr, Below.refl _ _, hv⟩⟩
        | 6, ho =>
          obtain rfl : _ = o := Option.some.inj ho
          obtain rfl : 48 = d := Option.some.inj hd
          exact .inr ⟨rfl, .inl ⟨_, W, run_fa1 (hk 5 (by kernel_rfl)), Below.refl _ _, rfl⟩⟩
        | 7, ho =>
          obtain rfl : _ = o := Option.some.inj ho
          obtain rfl : 49 = d := Option.some.inj hd
          have g48 : (a'.eval (.tmp 48)) = .pointer (some ⟨w.heap.size + 1, 2, none⟩) := hG ⟨6, .data⟩ (by simp) rfl 48 rfl
          obtain ⟨v, hr, hv⟩ := run_loadL (ev := a'.eval) (W := W) g48 (hegc.below hB)
          exact .inr ⟨rfl, .inl ⟨v, W, hr, Below.refl _ _, hv⟩⟩
        | 8, ho =>
          obtain rfl : _ = o := Option.some.inj ho
          obtain rfl : 50 = d := Option.some.inj hd
          exact .inr ⟨rfl, .inl ⟨_, W, run_fa0 (hk 6 (by kernel_rfl)), Below.refl _ _, rfl⟩⟩
        | 9, ho =>
          obtain rfl : _ = o := Option.some.inj ho
          obtain rfl : 51 = d := Option.some.inj hd
          have g50 : (a'.eval (.tmp 50)) = .pointer (some ⟨w.heap.size + 1 + 1, 0, none⟩) := hG ⟨8, .data⟩ (by simp) rfl 50 rfl
          obtain ⟨v, hr, hv⟩ := run_loadL (ev := a'.eval) (W := W) g50 (hewant.below hB)
          exact .inr ⟨rfl, .inl ⟨v, W, hr, Below.refl _ _, hv⟩⟩
        | 10, ho =>
          obtain rfl : _ = o := Option.some.inj ho
          obtain rfl : 52 = d := Option.some.inj hd
          exact .inr ⟨rfl, .inl ⟨_, W, run_fa1 (hk 6 (by kernel_rfl)), Below.refl _ _, rfl⟩⟩
        | 11, ho =>
          obtain rfl : _ = o := Option.some.inj ho
          obtain rfl : 53 = d := Option.some.inj hd
          have g52 : (a'.eval (.tmp 52)) = .pointer (some ⟨w.heap.size + 1 + 1, 2, none⟩) := hG ⟨10, .data⟩ (by simp) rfl 52 rfl
          obtain ⟨v, hr, hv⟩ := run_loadL (ev := a'.eval) (W := W) g52 (hewc.below hB)
          exact .inr ⟨rfl, .inl ⟨v, W, hr, Below.refl _ _, hv⟩⟩
        | 12, ho =>
          obtain rfl : _ = o := Option.some.inj ho
          obtain rfl : 54 = d := Option.some.inj hd
          have g43 : LV t (a'.eval (.tmp 43)) W := hG ⟨1, .data⟩ (by simp) rfl 43 rfl
          have g45 : LV tc (a'.eval (.tmp 45)) W := hG ⟨3, .data⟩ (by simp) rfl 45 rfl
          have g47 : LV g (a'.eval (.tmp 47)) W := hG ⟨5, .data⟩ (by simp) rfl 47 rfl
          have g49 : LV gc (a'.eval (.tmp 49)) W := hG ⟨7, .data⟩ (by simp) rfl 49 rfl
          have g51 : LV want (a'.eval (.tmp 51)) W := hG ⟨9, .data⟩ (by simp) rfl 51 rfl
          have g53 : LV wc (a'.eval (.tmp 53)) W := hG ⟨11, .data⟩ (by simp) rfl 53 rfl
          exact .inr ⟨rfl, .inr ⟨_, _, run_call rfl map_6 ent_passage_Enter, Enter_c g43 g45 g47 g49 g51 g53⟩⟩
        | j + 13, ho => simp at ho
      · intro a' W hB hs hdf hk hG
        obtain ⟨tm, df⟩ := a'
        obtain rfl : df = [] := hdf
        have e0 : tm.getD 0 undef = .agg #[.int .i64 t.fst, .slice pt t.snd.length ct, .int .i64 tc.fst, .slice ptc tc.snd.length ctc] := hk 0 (by kernel_rfl)
        have e1 : tm.getD 1 undef = .agg #[.int .i64 g.fst, .slice pg g.snd.length cg, .int .i64 gc.fst, .slice pgc gc.snd.length cgc] := hk 1 (by kernel_rfl)
        have e2 : tm.getD 2 undef = .agg #[.int .i64 want.fst, .slice pwant want.snd.length cwant, .int .i64 wc.fst, .slice pwc wc.snd.length cwc] := hk 2 (by kernel_rfl)
        have e3 : tm.getD 3 undef = .int .i64 cat := hk 3 (by kernel_rfl)
        have e4 : tm.getD 4 undef = .pointer (some ⟨w.heap.size, 0, none⟩) := hk 4 (by kernel_rfl)
        have e5 : tm.getD 5 undef = .pointer (some ⟨w.heap.size + 1, 0, none⟩) := hk 5 (by kernel_rfl)
        have e6 : tm.getD 6 undef = .pointer (some ⟨w.heap.size + 1 + 1, 0, none⟩) := hk 6 (by kernel_rfl)
        have e7 : tm.getD 7 undef = undef := hk 7 (by kernel_rfl)
        have e8 : tm.getD 8 undef = .bool false := hk 8 (by kernel_rfl)
        have e9 : tm.getD 9 undef = undef := hk 9 (by kernel_rfl)
        have e10 : tm.getD 10 undef = undef := hk 10 (by kernel_rfl)
        have e11 : tm.getD 11 undef = undef := hk 11 (by kernel_rfl)
        have e12 : tm.getD 12 undef = undef := hk 12 (by kernel_rfl)
        have e13 : tm.getD 13 undef = undef := hk 13 (by kernel_rfl)
        have e14 : tm.getD 14 undef = undef := hk 14 (by kernel_rfl)
        have e15 : tm.getD 15 undef = undef := hk 15 (by kernel_rfl)
        have e16 : tm.getD 16 undef = undef := hk 16 (by kernel_rfl)
        have e17 : tm.getD 17 undef = .bool true := hk 17 (by kernel_rfl)
        have e18 : tm.getD 18 undef = .bool false := hk 18 (by kernel_rfl)
        have e19 : tm.getD 19 undef = .pointer (some ⟨w.heap.size, 2, none⟩) := hk 19 (by kernel_rfl)
        have e20 : tm.getD 20 undef = t20 := hk 20 (by kernel_rfl)
        have e21 : tm.getD 21 undef = .pointer (some ⟨w.heap.size + 1, 2, none⟩) := hk 21 (by kernel_rfl)
        have e22 : tm.getD 22 undef = t22 := hk 22 (by kernel_rfl)
        have e23 : tm.getD 23 undef = .pointer (some ⟨w.heap.size + 1 + 1, 0, none⟩) := hk 23 (by kernel_rfl)
        have e24 : tm.getD 24 undef = t24 := hk 24 (by kernel_rfl)
        have e25 : tm.getD 25 undef = .pointer (some ⟨w.heap.size + 1 + 1, 2, none⟩) := hk 25 (by kernel_rfl)
        have e26 : tm.getD 26 undef = t26 := hk 26 (by kernel_rfl)
        have e27 : tm.getD 27 undef = t27 := hk 27 (by kernel_rfl)
        have e28 : tm.getD 28 undef = .bool ([tc, gc, want, wc].all rightM) := hk 28 (by kernel_rfl)
        have e29 : tm.getD 29 undef = .bool ![tc, gc, want, wc].all rightM := hk 29 (by kernel_rfl)
        have e30 : tm.getD 30 undef = .bool ![tc, gc, want, wc].all rightM := hk 30 (by kernel_rfl)
        have e31 : tm.getD 31 undef = t31 := hk 31 (by kernel_rfl)
        have e32 : tm.getD 32 undef = t32 := hk 32 (by kernel_rfl)
        have e33 : tm.getD 33 undef = t33 := hk 33 (by kernel_rfl)
        have e34 : tm.getD 34 undef = t34 := hk 34 (by kernel_rfl)
        have e35 : tm.getD 35 undef = .bool (![tc, gc, want, wc].all rightM || !plainS t.fst t.snd) := hk 35 (by kernel_rfl)
        have e36 : tm.getD 36 undef = .bool (![tc, gc, want, wc].all rightM || !plainS t.fst t.snd) := hk 36 (by kernel_rfl)
        have e37 : tm.getD 37 undef = t37 := hk 37 (by kernel_rfl)
        have e38 : tm.getD 38 undef = t38 := hk 38 (by kernel_rfl)
        have e39 : tm.getD 39 undef = t39 := hk 39 (by kernel_rfl)
        have e40 : tm.getD 40 undef = t40 := hk 40 (by kernel_rfl)
        have e41 : tm.getD 41 undef = .bool false := hk 41 (by kernel_rfl)
        have e55 : tm.getD 55 undef = undef := hk 55 (by kernel_rfl)
        have e56 : tm.getD 56 undef = undef := hk 56 (by kernel_rfl)
        have e57 : tm.getD 57 undef = undef := hk 57 (by kernel_rfl)
        have e58 : tm.getD 58 undef = undef := hk 58 (by kernel_rfl)
        have e59 : tm.getD 59 undef = undef := hk 59 (by kernel_rfl)
        have e60 : tm.getD 60 undef = undef := hk 60 (by kernel_rfl)
        have e61 : tm.getD 61 undef = undef := hk 61 (by kernel_rfl)
        have e62 : tm.getD 62 undef = undef := hk 62 (by kernel_rfl)
        have e63 : tm.getD 63 undef = undef := hk 63 (by kernel_rfl)
        have e64 : tm.getD 64 undef = undef := hk 64 (by kernel_rfl)
        have e65 : tm.getD 65 undef = undef := hk 65 (by kernel_rfl)
        have e66 : tm.getD 66 undef = undef := hk 66 (by kernel_rfl)
        have e67 : tm.getD 67 undef = undef := hk 67 (by kernel_rfl)
        have e68 : tm.getD 68 undef = undef := hk 68 (by kernel_rfl)
        have e69 : tm.getD 69 undef = undef := hk 69 (by kernel_rfl)
        have e70 : tm.getD 70 undef = undef := hk 70 (by kernel_rfl)
        have e71 : tm.getD 71 undef = undef := hk 71 (by kernel_rfl)
        have e72 : tm.getD 72 undef = undef := hk 72 (by kernel_rfl)
        have e73 : tm.getD 73 undef = undef := hk 73 (by kernel_rfl)
        have e74 : tm.getD 74 undef = undef := hk 74 (by kernel_rfl)
        have e75 : tm.getD 75 undef = undef := hk 75 (by kernel_rfl)
        have e76 : tm.getD 76 undef = undef := hk 76 (by kernel_rfl)
        have e77 : tm.getD 77 undef = undef := hk 77 (by kernel_rfl)
        have e78 : tm.getD 78 undef = undef := hk 78 (by kernel_rfl)
        have e79 : tm.getD 79 undef = undef := hk 79 (by kernel_rfl)
        have e80 : tm.getD 80 undef = undef := hk 80 (by kernel_rfl)
        have e81 : tm.getD 81 undef = undef := hk 81 (by kernel_rfl)
        have e82 : tm.getD 82 undef = undef := hk 82 (by kernel_rfl)
        have e83 : tm.getD 83 undef = undef := hk 83 (by kernel_rfl)
        have e84 : tm.getD 84 undef = undef := hk 84 (by kernel_rfl)
        have e85 : tm.getD 85 undef = undef := hk 85 (by kernel_rfl)
        have e86 : tm.getD 86 undef = undef := hk 86 (by kernel_rfl)
        have e87 : tm.getD 87 undef = undef := hk 87 (by kernel_rfl)
        have e88 : tm.getD 88 undef = undef := hk 88 (by kernel_rfl)
        have e89 : tm.getD 89 undef = undef := hk 89 (by kernel_rfl)
        have e90 : tm.getD 90 undef = undef := hk 90 (by kernel_rfl)
        have e91 : tm.getD 91 undef = undef := hk 91 (by kernel_rfl)
        have e92 : tm.getD 92 undef = undef := hk 92 (by kernel_rfl)
        have e93 : tm.getD 93 undef = undef := hk 93 (by kernel_rfl)
        have e94 : tm.getD 94 undef = undef := hk 94 (by kernel_rfl)
        have e95 : tm.getD 95 undef = undef := hk 95 (by kernel_rfl)
        have e96 : tm.getD 96 undef = undef := hk 96 (by kernel_rfl)
        have e97 : tm.getD 97 undef = undef := hk 97 (by kernel_rfl)
        have e98 : tm.getD 98 undef = undef := hk 98 (by kernel_rfl)
        have e99 : tm.getD 99 undef = undef := hk 99 (by kernel_rfl)
        have e100 : tm.getD 100 undef = undef := hk 100 (by kernel_rfl)
        have e101 : tm.getD 101 undef = undef := hk 101 (by kernel_rfl)
        have e102 : tm.getD 102 undef = undef := hk 102 (by kernel_rfl)
        have e103 : tm.getD 103 undef = undef := hk 103 (by kernel_rfl)
        have e104 : tm.getD 104 undef = undef := hk 104 (by kernel_rfl)
        have e105 : tm.getD 105 undef = undef := hk 105 (by kernel_rfl)
        have e106 : tm.getD 106 undef = undef := hk 106 (by kernel_rfl)
        have e107 : tm.getD 107 undef = undef := hk 107 (by kernel_rfl)
        have e108 : tm.getD 108 undef = undef := hk 108 (by kernel_rfl)
        have e109 : tm.getD 109 undef = undef := hk 109 (by kernel_rfl)
        have e110 : tm.getD 110 undef = undef := hk 110 (by kernel_rfl)
        have e111 : tm.getD 111 undef = undef := hk 111 (by kernel_rfl)
        have e112 : tm.getD 112 undef = undef := hk 112 (by kernel_rfl)
        have e113 : tm.getD 113 undef = undef := hk 113 (by kernel_rfl)
        have e114 : tm.getD 114 undef = undef := hk 114 (by kernel_rfl)
        have e115 : tm.getD 115 undef = undef := hk 115 (by kernel_rfl)
        have g42 : (tm.getD 42 undef) = .pointer (some ⟨w.heap.size, 0, none⟩) := hG 0 42 (by decide) rfl
        have g43 : LV t (tm.getD 43 undef) W := hG 1 43 (by decide) rfl
        have g44 : (tm.getD 44 undef) = .pointer (some ⟨w.heap.size, 2, none⟩) := hG 2 44 (by decide) rfl
        have g45 : LV tc (tm.getD 45 undef) W := hG 3 45 (by decide) rfl
        have g46 : (tm.getD 46 undef) = .pointer (some ⟨w.heap.size + 1, 0, none⟩) := hG 4 46 (by decide) rfl
        have g47 : LV g (tm.getD 47 undef) W := hG 5 47 (by decide) rfl
        have g48 : (tm.getD 48 undef) = .pointer (some ⟨w.heap.size + 1, 2, none⟩) := hG 6 48 (by decide) rfl
        have g49 : LV gc (tm.getD 49 undef) W := hG 7 49 (by decide) rfl
        have g50 : (tm.getD 50 undef) = .pointer (some ⟨w.heap.size + 1 + 1, 0, none⟩) := hG 8 50 (by decide) rfl
        have g51 : LV want (tm.getD 51 undef) W := hG 9 51 (by decide) rfl
        have g52 : (tm.getD 52 undef) = .pointer (some ⟨w.heap.size + 1 + 1, 2, none⟩) := hG 10 52 (by decide) rfl
        have g53 : LV wc (tm.getD 53 undef) W := hG 11 53 (by decide) rfl
        have g54 : (tm.getD 54 undef) = .int .i64 (enterI t tc g gc want wc) := hG 12 54 (by decide) rfl
        have htm := arr_of tm ((.agg #[.int .i64 t.fst, .slice pt t.snd.length ct, .int .i64 tc.fst, .slice ptc tc.snd.length ctc] : Value) :: (.agg #[.int .i64 g.fst, .slice pg g.snd.length cg, .int .i64 gc.fst, .slice pgc gc.snd.length cgc] : Value) :: (.agg #[.int .i64 want.fst, .slice pwant want.snd.length cwant, .int .i64 wc.fst, .slice pwc wc.snd.length cwc] : Value) :: (.int .i64 cat : Value) :: (.pointer (some ⟨w.heap.size, 0, none⟩) : Value) :: (.pointer (some ⟨w.heap.size + 1, 0, none⟩) : Value) :: (.pointer (some ⟨w.heap.size + 1 + 1, 0, none⟩) : Value) :: (undef : Value) :: (.bool false : Value) :: (undef : Value) :: (undef : Value) :: (undef : Value) :: (undef : Value) :: (undef : Value) :: (undef : Value) :: (undef : Value) :: (undef : Value) :: (.bool true : Value) :: (.bool false : Value) :: (.pointer (some ⟨w.heap.size, 2, none⟩) : Value) :: (t20 : Value) :: (.pointer (some ⟨w.heap.size + 1, 2, none⟩) : Value) :: (t22 : Value) :: (.pointer (some ⟨w.heap.size + 1 + 1, 0, none⟩) : Value) :: (t24 : Value) :: (.pointer (some ⟨w.heap.size + 1 + 1, 2, none⟩) : Value) :: (t26 : Value) :: (t27 : Value) :: (.bool ([tc, gc, want, wc].all rightM) : Value) :: (.bool ![tc, gc, want, wc].all rightM : Value) :: (.bool ![tc, gc, want, wc].all rightM : Value) :: (t31 : Value) :: (t32 : Value) :: (t33 : Value) :: (t34 : Value) :: (.bool (![tc, gc, want, wc].all rightM || !plainS t.fst t.snd) : Value) :: (.bool (![tc, gc, want, wc].all rightM || !plainS t.fst t.snd) : Value) :: (t37 : Value) :: (t38 : Value) :: (t39 : Value) :: (t40 : Value) :: (.bool false : Value) :: (tm.getD 42 undef : Value) :: (tm.getD 43 undef : Value) :: (tm.getD 44 undef : Value) :: (tm.getD 45 undef : Value) :: (tm.getD 46 undef : Value) :: (tm.getD 47 undef : Value) :: (tm.getD 48 undef : Value) :: (tm.getD 49 undef : Value) :: (tm.getD 50 undef : Value) :: (tm.getD 51 undef : Value) :: (tm.getD 52 undef : Value) :: (tm.getD 53 undef : Value) :: (tm.getD 54 undef : Value) :: (undef : Value) :: (undef : Value) :: (undef : Value) :: (undef : Value) :: (undef : Value) :: (undef : Value) :: (undef : Value) :: (undef : Value) :: (undef : Value) :: (undef : Value) :: (undef : Value) :: (undef : Value) :: (undef : Value) :: (undef : Value) :: (undef : Value) :: (undef : Value) :: (undef : Value) :: (undef : Value) :: (undef : Value) :: (undef : Value) :: (undef : Value) :: (undef : Value) :: (undef : Value) :: (undef : Value) :: (undef : Value) :: (undef : Value) :: (undef : Value) :: (undef : Value) :: (undef : Value) :: (undef : Value) :: (undef : Value) :: (undef : Value) :: (undef : Value) :: (undef : Value) :: (undef : Value) :: (undef : Value) :: (undef : Value) :: (undef : Value) :: (undef : Value) :: (undef : Value) :: (undef : Value) :: (undef : Value) :: (undef : Value) :: (undef : Value) :: (undef : Value) :: (undef : Value) :: (undef : Value) :: (undef : Value) :: (undef : Value) :: (undef : Value) :: (undef : Value) :: (undef : Value) :: (undef : Value) :: (undef : Value) :: (undef : Value) :: (undef : Value) :: (undef : Value) :: (undef : Value) :: (undef : Value) :: (undef : Value) :: (undef : Value) :: []) hs (by show (tm.getD 0 undef :: tm.getD 1 undef :: tm.getD 2 undef :: tm.getD 3 undef :: tm.getD 4 undef :: tm.getD 5 undef :: tm.getD 6 undef :: tm.getD 7 undef :: tm.getD 8 undef :: tm.getD 9 undef :: tm.getD 10 undef :: tm.getD 11 undef :: tm.getD 12 undef :: tm.getD 13 undef :: tm.getD 14 undef :: tm.getD 15 undef :: tm.getD 16 undef :: tm.getD 17 undef :: tm.getD 18 undef :: tm.getD 19 undef :: tm.getD 20 undef :: tm.getD 21 undef :: tm.getD 22 undef :: tm.getD 23 undef :: tm.getD 24 undef :: tm.getD 25 undef :: tm.getD 26 undef :: tm.getD 27 undef :: tm.getD 28 undef :: tm.getD 29 undef :: tm.getD 30 undef :: tm.getD 31 undef :: tm.getD 32 undef :: tm.getD 33 undef :: tm.getD 34 undef :: tm.getD 35 undef :: tm.getD 36 undef :: tm.getD 37 undef :: tm.getD 38 undef :: tm.getD 39 undef :: tm.getD 40 undef :: tm.getD 41 undef :: tm.getD 42 undef :: tm.getD 43 undef :: tm.getD 44 undef :: tm.getD 45 undef :: tm.getD 46 undef :: tm.getD 47 undef :: tm.getD 48 undef :: tm.getD 49 undef :: tm.getD 50 undef :: tm.getD 51 undef :: tm.getD 52 undef :: tm.getD 53 undef :: tm.getD 54 undef :: tm.getD 55 undef :: tm.getD 56 undef :: tm.getD 57 undef :: tm.getD 58 undef :: tm.getD 59 undef :: tm.getD 60 undef :: tm.getD 61 undef :: tm.getD 62 undef :: tm.getD 63 undef :: tm.getD 64 undef :: tm.getD 65 undef :: tm.getD 66 undef :: tm.getD 67 undef :: tm.getD 68 undef :: tm.getD 69 undef :: tm.getD 70 undef :: tm.getD 71 undef :: tm.getD 72 undef :: tm.getD 73 undef :: tm.getD 74 undef :: tm.getD 75 undef :: tm.getD 76 undef :: tm.getD 77 undef :: tm.getD 78 undef :: tm.getD 79 undef :: tm.getD 80 undef :: tm.getD 81 undef :: tm.getD 82 undef :: tm.getD 83 undef :: tm.getD 84 undef :: tm.getD 85 undef :: tm.getD 86 undef :: tm.getD 87 undef :: tm.getD 88 undef :: tm.getD 89 undef :: tm.getD 90 undef :: tm.getD 91 undef :: tm.getD 92 undef :: tm.getD 93 undef :: tm.getD 94 undef :: tm.getD 95 undef :: tm.getD 96 undef :: tm.getD 97 undef :: tm.getD 98 undef :: tm.getD 99 undef :: tm.getD 100 undef :: tm.getD 101 undef :: tm.getD 102 undef :: tm.getD 103 undef :: tm.getD 104 undef :: tm.getD 105 undef :: tm.getD 106 undef :: tm.getD 107 undef :: tm.getD 108 undef :: tm.getD 109 undef :: tm.getD 110 undef :: tm.getD 111 undef :: tm.getD 112 undef :: tm.getD 113 undef :: tm.getD 114 undef :: tm.getD 115 undef :: []) = _; rw [e0, e1, e2, e3, e4, e5, e6, e7, e8, e9, e10, e11, e12, e13, e14, e15, e16, e17, e18, e19, e20, e21, e22, e23, e24, e25, e26, e27, e28, e29, e30, e31, e32, e33, e34, e35, e36, e37, e38, e39, e40, e41, e55, e56, e57, e58, e59, e60, e61, e62, e63, e64, e65, e66, e67, e68, e69, e70, e71, e72, e73, e74, e75, e76, e77, e78, e79, e80, e81, e82, e83, e84, e85, e86, e87, e88, e89, e90, e91, e92, e93, e94, e95, e96, e97, e98, e99, e100, e101, e102, e103, e104, e105, e106, e107, e108, e109, e110, e111, e112, e113, e114, e115]; try rfl)
        clear hs hk hG e0 e1 e2 e3 e4 e5 e6 e7 e8 e9 e10 e11 e12 e13 e14 e15 e16 e17 e18 e19 e20 e21 e22 e23 e24 e25 e26 e27 e28 e29 e30 e31 e32 e33 e34 e35 e36 e37 e38 e39 e40 e41 e55 e56 e57 e58 e59 e60 e61 e62 e63 e64 e65 e66 e67 e68 e69 e70 e71 e72 e73 e74 e75 e76 e77 e78 e79 e80 e81 e82 e83 e84 e85 e86 e87 e88 e89 e90 e91 e92 e93 e94 e95 e96 e97 e98 e99 e100 e101 e102 e103 e104 e105 e106 e107 e108 e109 e110 e111 e112 e113 e114 e115
        generalize tm.getD 42 undef = t42 at htm g42
        generalize tm.getD 43 undef = t43 at htm g43
        generalize tm.getD 44 undef = t44 at htm g44
        generalize tm.getD 45 undef = t45 at htm g45
        generalize tm.getD 46 undef = t46 at htm g46
        generalize tm.getD 47 undef = t47 at htm g47
        generalize tm.getD 48 undef = t48 at htm g48
        generalize tm.getD 49 undef = t49 at htm g49
        generalize tm.getD 50 undef = t50 at htm g50
        generalize tm.getD 51 undef = t51 at htm g51
        generalize tm.getD 52 undef = t52 at htm g52
        generalize tm.getD 53 undef = t53 at htm g53
        generalize tm.getD 54 undef = t54 at htm g54
        subst htm
        subst g42
        subst g44
        subst g46
        subst g48
        subst g50
        subst g52
        subst g54
        simp only [List.drop_succ_cons, List.drop_zero]
        have hA3 : Below w.heap.size w W := hA2.trans (hB.mono hA2.size)
        have hft := het.below hB
        have hftc := hetc.below hB
        have hfg := heg.below hB
        have hfgc := hegc.below hB
        have hfwant := hewant.below hB
        have hfwc := hewc.below hB
        clear g43 g45 g47 g49 g51 g53 het hetc heg hegc hewant hewc hB hA2
        obtain ⟨xe, hxe⟩ : ∃ xe, enterI t tc g gc want wc = xe := ⟨_, rfl⟩
        simp only [hxe]
        rw [hxe] at HKE
        clear hxe
        go_upto_region 6 with fail
        refine wp_region_monoF 7 (fun kq v W => match kq with | 55 => v = .pointer (some ⟨w.heap.size, 0, none⟩) | 56 => LV t v W | 57 => v = .pointer (some ⟨w.heap.size, 2, none⟩) | 58 => LV tc v W | 59 => v = .pointer (some ⟨w.heap.size + 1 + 1, 0, none⟩) | 60 => LV want v W | 61 => v = .int .i64 (riseI t tc want) | _ => True) (by kernel_rfl) (by kernel_rfl) (by simp) ?_ ?_ ?_
        · intro kq v W W' h hb
          revert h
          try dsimp only
          split
          · intro h; exact h
          · intro h; exact LV.below h hb
          · intro h; exact h
          · intro h; exact LV.below h hb
          · intro h; exact h
          · intro h; exact LV.below h hb
          · intro h; exact h
          · intro h; trivial
        · intro a' W hB hs hk i o d ho hd hG
          match i, ho with
          | 0, ho =>
            obtain rfl : _ = o := Option.some.inj ho
            obtain rfl : 55 = d := Option.some.inj hd
            exact .inr ⟨rfl, .inl ⟨_, W, run_fa0 (hk 4 (by kernel_rfl)), Below.refl _ _, rfl⟩⟩
          | 1, ho =>
            obtain rfl : _ = o := Option.some.inj ho
            obtain rfl : 56 = d := Option.some.inj hd
            have g55 : (a'.eval (.tmp 55)) = .pointer (some ⟨w.heap.size, 0, none⟩) := hG ⟨0, .data⟩ (by simp) rfl 55 rfl
            obtain ⟨v, hr, hv⟩ := run_loadL (ev := a'.eval) (W := W) g55 (hft.below hB)
            exact .inr ⟨rfl, .inl ⟨v, W, hr, Below.refl _ _, hv⟩⟩
          | 2, ho =>
            obtain rfl : _ = o := Option.some.inj ho
            obtain rfl : 57 = d := Option.some.inj hd
            exact .inr ⟨rfl, .inl ⟨_, W, run_fa1 (hk 4 (by kernel_rfl)), Below.refl _ _, rfl⟩⟩
          | 3, ho =>
            obtain rfl : _ = o := Option.some.inj ho
            obtain rfl : 58 = d := Option.some.inj hd
            have g57 : (a'.eval (.tmp 57)) = .pointer (some ⟨w.heap.size, 2, none⟩) := hG ⟨2, .data⟩ (by simp) rfl 57 rfl
            obtain ⟨v, hr, hv⟩ := run_loadL (ev := a'.eval) (W := W) g57 (hftc.below hB)
            exact .inr ⟨rfl, .inl ⟨v, W, hr, Below.refl _ _, hv⟩⟩
          | 4, ho =>
            obtain rfl : _ = o := Option.some.inj ho
            obtain rfl : 59 = d := Option.some.inj hd
            exact .inr ⟨rfl, .inl ⟨_, W, run_fa0 (hk 6 (by kernel_rfl)), Below.refl _ _, rfl⟩⟩
          | 5, ho =>
            obtain rfl : _ = o := Option.some.inj ho
            obtain rfl : 60 = d := Option.some.inj hd
            have g59 : (a'.eval (.tmp 59)) = .pointer (some ⟨w.heap.size + 1 + 1, 0, none⟩) := hG ⟨4, .data⟩ (by simp) rfl 59 rfl
            obtain ⟨v, hr, hv⟩ := run_loadL (ev := a'.eval) (W := W) g59 (hfwant.below hB)
            exact .inr ⟨rfl, .inl ⟨v, W, hr, Below.refl _ _, hv⟩⟩
          | 6, ho =>
            obtain rfl : _ = o := Option.some.inj ho
            obtain rfl : 61 = d := Option.some.inj hd
            have g56 : LV t (a'.eval (.tmp 56)) W := hG ⟨1, .data⟩ (by simp) rfl 56 rfl
            have g58 : LV tc (a'.eval (.tmp 58)) W := hG ⟨3, .data⟩ (by simp) rfl 58 rfl
            have g60 : LV want (a'.eval (.tmp 60)) W := hG ⟨5, .data⟩ (by simp) rfl 60 rfl
            exact .inr ⟨rfl, .inr ⟨_, _, run_call rfl map_3 ent_passage_Rise, Rise_c g56 g58 g60⟩⟩
          | j + 7, ho => simp at ho
        · intro a' W hB hs hdf hk hG
          obtain ⟨tm, df⟩ := a'
          obtain rfl : df = [] := hdf
          have e0 : tm.getD 0 undef = .agg #[.int .i64 t.fst, .slice pt t.snd.length ct, .int .i64 tc.fst, .slice ptc tc.snd.length ctc] := hk 0 (by kernel_rfl)
          have e1 : tm.getD 1 undef = .agg #[.int .i64 g.fst, .slice pg g.snd.length cg, .int .i64 gc.fst, .slice pgc gc.snd.length cgc] := hk 1 (by kernel_rfl)
          have e2 : tm.getD 2 undef = .agg #[.int .i64 want.fst, .slice pwant want.snd.length cwant, .int .i64 wc.fst, .slice pwc wc.snd.length cwc] := hk 2 (by kernel_rfl)
          have e3 : tm.getD 3 undef = .int .i64 cat := hk 3 (by kernel_rfl)
          have e4 : tm.getD 4 undef = .pointer (some ⟨w.heap.size, 0, none⟩) := hk 4 (by kernel_rfl)
          have e5 : tm.getD 5 undef = .pointer (some ⟨w.heap.size + 1, 0, none⟩) := hk 5 (by kernel_rfl)
          have e6 : tm.getD 6 undef = .pointer (some ⟨w.heap.size + 1 + 1, 0, none⟩) := hk 6 (by kernel_rfl)
          have e7 : tm.getD 7 undef = undef := hk 7 (by kernel_rfl)
          have e8 : tm.getD 8 undef = .bool false := hk 8 (by kernel_rfl)
          have e9 : tm.getD 9 undef = .int .i64 xe := hk 9 (by kernel_rfl)
          have e10 : tm.getD 10 undef = undef := hk 10 (by kernel_rfl)
          have e11 : tm.getD 11 undef = undef := hk 11 (by kernel_rfl)
          have e12 : tm.getD 12 undef = undef := hk 12 (by kernel_rfl)
          have e13 : tm.getD 13 undef = undef := hk 13 (by kernel_rfl)
          have e14 : tm.getD 14 undef = undef := hk 14 (by kernel_rfl)
          have e15 : tm.getD 15 undef = undef := hk 15 (by kernel_rfl)
          have e16 : tm.getD 16 undef = undef := hk 16 (by kernel_rfl)
          have e17 : tm.getD 17 undef = .bool true := hk 17 (by kernel_rfl)
          have e18 : tm.getD 18 undef = .bool false := hk 18 (by kernel_rfl)
          have e19 : tm.getD 19 undef = .pointer (some ⟨w.heap.size, 2, none⟩) := hk 19 (by kernel_rfl)
          have e20 : tm.getD 20 undef = t20 := hk 20 (by kernel_rfl)
          have e21 : tm.getD 21 undef = .pointer (some ⟨w.heap.size + 1, 2, none⟩) := hk 21 (by kernel_rfl)
          have e22 : tm.getD 22 undef = t22 := hk 22 (by kernel_rfl)
          have e23 : tm.getD 23 undef = .pointer (some ⟨w.heap.size + 1 + 1, 0, none⟩) := hk 23 (by kernel_rfl)
          have e24 : tm.getD 24 undef = t24 := hk 24 (by kernel_rfl)
          have e25 : tm.getD 25 undef = .pointer (some ⟨w.heap.size + 1 + 1, 2, none⟩) := hk 25 (by kernel_rfl)
          have e26 : tm.getD 26 undef = t26 := hk 26 (by kernel_rfl)
          have e27 : tm.getD 27 undef = t27 := hk 27 (by kernel_rfl)
          have e28 : tm.getD 28 undef = .bool ([tc, gc, want, wc].all rightM) := hk 28 (by kernel_rfl)
          have e29 : tm.getD 29 undef = .bool ![tc, gc, want, wc].all rightM := hk 29 (by kernel_rfl)
          have e30 : tm.getD 30 undef = .bool ![tc, gc, want, wc].all rightM := hk 30 (by kernel_rfl)
          have e31 : tm.getD 31 undef = t31 := hk 31 (by kernel_rfl)
          have e32 : tm.getD 32 undef = t32 := hk 32 (by kernel_rfl)
          have e33 : tm.getD 33 undef = t33 := hk 33 (by kernel_rfl)
          have e34 : tm.getD 34 undef = t34 := hk 34 (by kernel_rfl)
          have e35 : tm.getD 35 undef = .bool (![tc, gc, want, wc].all rightM || !plainS t.fst t.snd) := hk 35 (by kernel_rfl)
          have e36 : tm.getD 36 undef = .bool (![tc, gc, want, wc].all rightM || !plainS t.fst t.snd) := hk 36 (by kernel_rfl)
          have e37 : tm.getD 37 undef = t37 := hk 37 (by kernel_rfl)
          have e38 : tm.getD 38 undef = t38 := hk 38 (by kernel_rfl)
          have e39 : tm.getD 39 undef = t39 := hk 39 (by kernel_rfl)
          have e40 : tm.getD 40 undef = t40 := hk 40 (by kernel_rfl)
          have e41 : tm.getD 41 undef = .bool false := hk 41 (by kernel_rfl)
          have e42 : tm.getD 42 undef = .pointer (some ⟨w.heap.size, 0, none⟩) := hk 42 (by kernel_rfl)
          have e43 : tm.getD 43 undef = t43 := hk 43 (by kernel_rfl)
          have e44 : tm.getD 44 undef = .pointer (some ⟨w.heap.size, 2, none⟩) := hk 44 (by kernel_rfl)
          have e45 : tm.getD 45 undef = t45 := hk 45 (by kernel_rfl)
          have e46 : tm.getD 46 undef = .pointer (some ⟨w.heap.size + 1, 0, none⟩) := hk 46 (by kernel_rfl)
          have e47 : tm.getD 47 undef = t47 := hk 47 (by kernel_rfl)
          have e48 : tm.getD 48 undef = .pointer (some ⟨w.heap.size + 1, 2, none⟩) := hk 48 (by kernel_rfl)
          have e49 : tm.getD 49 undef = t49 := hk 49 (by kernel_rfl)
          have e50 : tm.getD 50 undef = .pointer (some ⟨w.heap.size + 1 + 1, 0, none⟩) := hk 50 (by kernel_rfl)
          have e51 : tm.getD 51 undef = t51 := hk 51 (by kernel_rfl)
          have e52 : tm.getD 52 undef = .pointer (some ⟨w.heap.size + 1 + 1, 2, none⟩) := hk 52 (by kernel_rfl)
          have e53 : tm.getD 53 undef = t53 := hk 53 (by kernel_rfl)
          have e54 : tm.getD 54 undef = .int .i64 xe := hk 54 (by kernel_rfl)
          have e62 : tm.getD 62 undef = undef := hk 62 (by kernel_rfl)
          have e63 : tm.getD 63 undef = undef := hk 63 (by kernel_rfl)
          have e64 : tm.getD 64 undef = undef := hk 64 (by kernel_rfl)
          have e65 : tm.getD 65 undef = undef := hk 65 (by kernel_rfl)
          have e66 : tm.getD 66 undef = undef := hk 66 (by kernel_rfl)
          have e67 : tm.getD 67 undef = undef := hk 67 (by kernel_rfl)
          have e68 : tm.getD 68 undef = undef := hk 68 (by kernel_rfl)
          have e69 : tm.getD 69 undef = undef := hk 69 (by kernel_rfl)
          have e70 : tm.getD 70 undef = undef := hk 70 (by kernel_rfl)
          have e71 : tm.getD 71 undef = undef := hk 71 (by kernel_rfl)
          have e72 : tm.getD 72 undef = undef := hk 72 (by kernel_rfl)
          have e73 : tm.getD 73 undef = undef := hk 73 (by kernel_rfl)
          have e74 : tm.getD 74 undef = undef := hk 74 (by kernel_rfl)
          have e75 : tm.getD 75 undef = undef := hk 75 (by kernel_rfl)
          have e76 : tm.getD 76 undef = undef := hk 76 (by kernel_rfl)
          have e77 : tm.getD 77 undef = undef := hk 77 (by kernel_rfl)
          have e78 : tm.getD 78 undef = undef := hk 78 (by kernel_rfl)
          have e79 : tm.getD 79 undef = undef := hk 79 (by kernel_rfl)
          have e80 : tm.getD 80 undef = undef := hk 80 (by kernel_rfl)
          have e81 : tm.getD 81 undef = undef := hk 81 (by kernel_rfl)
          have e82 : tm.getD 82 undef = undef := hk 82 (by kernel_rfl)
          have e83 : tm.getD 83 undef = undef := hk 83 (by kernel_rfl)
          have e84 : tm.getD 84 undef = undef := hk 84 (by kernel_rfl)
          have e85 : tm.getD 85 undef = undef := hk 85 (by kernel_rfl)
          have e86 : tm.getD 86 undef = undef := hk 86 (by kernel_rfl)
          have e87 : tm.getD 87 undef = undef := hk 87 (by kernel_rfl)
          have e88 : tm.getD 88 undef = undef := hk 88 (by kernel_rfl)
          have e89 : tm.getD 89 undef = undef := hk 89 (by kernel_rfl)
          have e90 : tm.getD 90 undef = undef := hk 90 (by kernel_rfl)
          have e91 : tm.getD 91 undef = undef := hk 91 (by kernel_rfl)
          have e92 : tm.getD 92 undef = undef := hk 92 (by kernel_rfl)
          have e93 : tm.getD 93 undef = undef := hk 93 (by kernel_rfl)
          have e94 : tm.getD 94 undef = undef := hk 94 (by kernel_rfl)
          have e95 : tm.getD 95 undef = undef := hk 95 (by kernel_rfl)
          have e96 : tm.getD 96 undef = undef := hk 96 (by kernel_rfl)
          have e97 : tm.getD 97 undef = undef := hk 97 (by kernel_rfl)
          have e98 : tm.getD 98 undef = undef := hk 98 (by kernel_rfl)
          have e99 : tm.getD 99 undef = undef := hk 99 (by kernel_rfl)
          have e100 : tm.getD 100 undef = undef := hk 100 (by kernel_rfl)
          have e101 : tm.getD 101 undef = undef := hk 101 (by kernel_rfl)
          have e102 : tm.getD 102 undef = undef := hk 102 (by kernel_rfl)
          have e103 : tm.getD 103 undef = undef := hk 103 (by kernel_rfl)
          have e104 : tm.getD 104 undef = undef := hk 104 (by kernel_rfl)
          have e105 : tm.getD 105 undef = undef := hk 105 (by kernel_rfl)
          have e106 : tm.getD 106 undef = undef := hk 106 (by kernel_rfl)
          have e107 : tm.getD 107 undef = undef := hk 107 (by kernel_rfl)
          have e108 : tm.getD 108 undef = undef := hk 108 (by kernel_rfl)
          have e109 : tm.getD 109 undef = undef := hk 109 (by kernel_rfl)
          have e110 : tm.getD 110 undef = undef := hk 110 (by kernel_rfl)
          have e111 : tm.getD 111 undef = undef := hk 111 (by kernel_rfl)
          have e112 : tm.getD 112 undef = undef := hk 112 (by kernel_rfl)
          have e113 : tm.getD 113 undef = undef := hk 113 (by kernel_rfl)
          have e114 : tm.getD 114 undef = undef := hk 114 (by kernel_rfl)
          have e115 : tm.getD 115 undef = undef := hk 115 (by kernel_rfl)
          have g55 : (tm.getD 55 undef) = .pointer (some ⟨w.heap.size, 0, none⟩) := hG 0 55 (by decide) rfl
          have g56 : LV t (tm.getD 56 undef) W := hG 1 56 (by decide) rfl
          have g57 : (tm.getD 57 undef) = .pointer (some ⟨w.heap.size, 2, none⟩) := hG 2 57 (by decide) rfl
          have g58 : LV tc (tm.getD 58 undef) W := hG 3 58 (by decide) rfl
          have g59 : (tm.getD 59 undef) = .pointer (some ⟨w.heap.size + 1 + 1, 0, none⟩) := hG 4 59 (by decide) rfl
          have g60 : LV want (tm.getD 60 undef) W := hG 5 60 (by decide) rfl
          have g61 : (tm.getD 61 undef) = .int .i64 (riseI t tc want) := hG 6 61 (by decide) rfl
          have htm := arr_of tm ((.agg #[.int .i64 t.fst, .slice pt t.snd.length ct, .int .i64 tc.fst, .slice ptc tc.snd.length ctc] : Value) :: (.agg #[.int .i64 g.fst, .slice pg g.snd.length cg, .int .i64 gc.fst, .slice pgc gc.snd.length cgc] : Value) :: (.agg #[.int .i64 want.fst, .slice pwant want.snd.length cwant, .int .i64 wc.fst, .slice pwc wc.snd.length cwc] : Value) :: (.int .i64 cat : Value) :: (.pointer (some ⟨w.heap.size, 0, none⟩) : Value) :: (.pointer (some ⟨w.heap.size + 1, 0, none⟩) : Value) :: (.pointer (some ⟨w.heap.size + 1 + 1, 0, none⟩) : Value) :: (undef : Value) :: (.bool false : Value) :: (.int .i64 xe : Value) :: (undef : Value) :: (undef : Value) :: (undef : Value) :: (undef : Value) :: (undef : Value) :: (undef : Value) :: (undef : Value) :: (.bool true : Value) :: (.bool false : Value) :: (.pointer (some ⟨w.heap.size, 2, none⟩) : Value) :: (t20 : Value) :: (.pointer (some ⟨w.heap.size + 1, 2, none⟩) : Value) :: (t22 : Value) :: (.pointer (some ⟨w.heap.size + 1 + 1, 0, none⟩) : Value) :: (t24 : Value) :: (.pointer (some ⟨w.heap.size + 1 + 1, 2, none⟩) : Value) :: (t26 : Value) :: (t27 : Value) :: (.bool ([tc, gc, want, wc].all rightM) : Value) :: (.bool ![tc, gc, want, wc].all rightM : Value) :: (.bool ![tc, gc, want, wc].all rightM : Value) :: (t31 : Value) :: (t32 : Value) :: (t33 : Value) :: (t34 : Value) :: (.bool (![tc, gc, want, wc].all rightM || !plainS t.fst t.snd) : Value) :: (.bool (![tc, gc, want, wc].all rightM || !plainS t.fst t.snd) : Value) :: (t37 : Value) :: (t38 : Value) :: (t39 : Value) :: (t40 : Value) :: (.bool false : Value) :: (.pointer (some ⟨w.heap.size, 0, none⟩) : Value) :: (t43 : Value) :: (.pointer (some ⟨w.heap.size, 2, none⟩) : Value) :: (t45 : Value) :: (.pointer (some ⟨w.heap.size + 1, 0, none⟩) : Value) :: (t47 : Value) :: (.pointer (some ⟨w.heap.size + 1, 2, none⟩) : Value) :: (t49 : Value) :: (.pointer (some ⟨w.heap.size + 1 + 1, 0, none⟩) : Value) :: (t51 : Value) :: (.pointer (some ⟨w.heap.size + 1 + 1, 2, none⟩) : Value) :: (t53 : Value) :: (.int .i64 xe : Value) :: (tm.getD 55 undef : Value) :: (tm.getD 56 undef : Value) :: (tm.getD 57 undef : Value) :: (tm.getD 58 undef : Value) :: (tm.getD 59 undef : Value) :: (tm.getD 60 undef : Value) :: (tm.getD 61 undef : Value) :: (undef : Value) :: (undef : Value) :: (undef : Value) :: (undef : Value) :: (undef : Value) :: (undef : Value) :: (undef : Value) :: (undef : Value) :: (undef : Value) :: (undef : Value) :: (undef : Value) :: (undef : Value) :: (undef : Value) :: (undef : Value) :: (undef : Value) :: (undef : Value) :: (undef : Value) :: (undef : Value) :: (undef : Value) :: (undef : Value) :: (undef : Value) :: (undef : Value) :: (undef : Value) :: (undef : Value) :: (undef : Value) :: (undef : Value) :: (undef : Value) :: (undef : Value) :: (undef : Value) :: (undef : Value) :: (undef : Value) :: (undef : Value) :: (undef : Value) :: (undef : Value) :: (undef : Value) :: (undef : Value) :: (undef : Value) :: (undef : Value) :: (undef : Value) :: (undef : Value) :: (undef : Value) :: (undef : Value) :: (undef : Value) :: (undef : Value) :: (undef : Value) :: (undef : Value) :: (undef : Value) :: (undef : Value) :: (undef : Value) :: (undef : Value) :: (undef : Value) :: (undef : Value) :: (undef : Value) :: (undef : Value) :: []) hs (by show (tm.getD 0 undef :: tm.getD 1 undef :: tm.getD 2 undef :: tm.getD 3 undef :: tm.getD 4 undef :: tm.getD 5 undef :: tm.getD 6 undef :: tm.getD 7 undef :: tm.getD 8 undef :: tm.getD 9 undef :: tm.getD 10 undef :: tm.getD 11 undef :: tm.getD 12 undef :: tm.getD 13 undef :: tm.getD 14 undef :: tm.getD 15 undef :: tm.getD 16 undef :: tm.getD 17 undef :: tm.getD 18 undef :: tm.getD 19 undef :: tm.getD 20 undef :: tm.getD 21 undef :: tm.getD 22 undef :: tm.getD 23 undef :: tm.getD 24 undef :: tm.getD 25 undef :: tm.getD 26 undef :: tm.getD 27 undef :: tm.getD 28 undef :: tm.getD 29 undef :: tm.getD 30 undef :: tm.getD 31 undef :: tm.getD 32 undef :: tm.getD 33 undef :: tm.getD 34 undef :: tm.getD 35 undef :: tm.getD 36 undef :: tm.getD 37 undef :: tm.getD 38 undef :: tm.getD 39 undef :: tm.getD 40 undef :: tm.getD 41 undef :: tm.getD 42 undef :: tm.getD 43 undef :: tm.getD 44 undef :: tm.getD 45 undef :: tm.getD 46 undef :: tm.getD 47 undef :: tm.getD 48 undef :: tm.getD 49 undef :: tm.getD 50 undef :: tm.getD 51 undef :: tm.getD 52 undef :: tm.getD 53 undef :: tm.getD 54 undef :: tm.getD 55 undef :: tm.getD 56 undef :: tm.getD 57 undef :: tm.getD 58 undef :: tm.getD 59 undef :: tm.getD 60 undef :: tm.getD 61 undef :: tm.getD 62 undef :: tm.getD 63 undef :: tm.getD 64 undef :: tm.getD 65 undef :: tm.getD 66 undef :: tm.getD 67 undef :: tm.getD 68 undef :: tm.getD 69 undef :: tm.getD 70 undef :: tm.getD 71 undef :: tm.getD 72 undef :: tm.getD 73 undef :: tm.getD 74 undef :: tm.getD 75 undef :: tm.getD 76 undef :: tm.getD 77 undef :: tm.getD 78 undef :: tm.getD 79 undef :: tm.getD 80 undef :: tm.getD 81 undef :: tm.getD 82 undef :: tm.getD 83 undef :: tm.getD 84 undef :: tm.getD 85 undef :: tm.getD 86 undef :: tm.getD 87 undef :: tm.getD 88 undef :: tm.getD 89 undef :: tm.getD 90 undef :: tm.getD 91 undef :: tm.getD 92 undef :: tm.getD 93 undef :: tm.getD 94 undef :: tm.getD 95 undef :: tm.getD 96 undef :: tm.getD 97 undef :: tm.getD 98 undef :: tm.getD 99 undef :: tm.getD 100 undef :: tm.getD 101 undef :: tm.getD 102 undef :: tm.getD 103 undef :: tm.getD 104 undef :: tm.getD 105 undef :: tm.getD 106 undef :: tm.getD 107 undef :: tm.getD 108 undef :: tm.getD 109 undef :: tm.getD 110 undef :: tm.getD 111 undef :: tm.getD 112 undef :: tm.getD 113 undef :: tm.getD 114 undef :: tm.getD 115 undef :: []) = _; rw [e0, e1, e2, e3, e4, e5, e6, e7, e8, e9, e10, e11, e12, e13, e14, e15, e16, e17, e18, e19, e20, e21, e22, e23, e24, e25, e26, e27, e28, e29, e30, e31, e32, e33, e34, e35, e36, e37, e38, e39, e40, e41, e42, e43, e44, e45, e46, e47, e48, e49, e50, e51, e52, e53, e54, e62, e63, e64, e65, e66, e67, e68, e69, e70, e71, e72, e73, e74, e75, e76, e77, e78, e79, e80, e81, e82, e83, e84, e85, e86, e87, e88, e89, e90, e91, e92, e93, e94, e95, e96, e97, e98, e99, e100, e101, e102, e103, e104, e105, e106, e107, e108, e109, e110, e111, e112, e113, e114, e115]; try rfl)
          clear hs hk hG e0 e1 e2 e3 e4 e5 e6 e7 e8 e9 e10 e11 e12 e13 e14 e15 e16 e17 e18 e19 e20 e21 e22 e23 e24 e25 e26 e27 e28 e29 e30 e31 e32 e33 e34 e35 e36 e37 e38 e39 e40 e41 e42 e43 e44 e45 e46 e47 e48 e49 e50 e51 e52 e53 e54 e62 e63 e64 e65 e66 e67 e68 e69 e70 e71 e72 e73 e74 e75 e76 e77 e78 e79 e80 e81 e82 e83 e84 e85 e86 e87 e88 e89 e90 e91 e92 e93 e94 e95 e96 e97 e98 e99 e100 e101 e102 e103 e104 e105 e106 e107 e108 e109 e110 e111 e112 e113 e114 e115
          generalize tm.getD 55 undef = t55 at htm g55
          generalize tm.getD 56 undef = t56 at htm g56
          generalize tm.getD 57 undef = t57 at htm g57
          generalize tm.getD 58 undef = t58 at htm g58
          generalize tm.getD 59 undef = t59 at htm g59
          generalize tm.getD 60 undef = t60 at htm g60
          generalize tm.getD 61 undef = t61 at htm g61
          subst htm
          subst g55
          subst g57
          subst g59
          subst g61
          simp only [List.drop_succ_cons, List.drop_zero]
          have hA4 : Below w.heap.size w W := hA3.trans (hB.mono hA3.size)
          have hgt := hft.below hB
          have hgtc := hftc.below hB
          have hgg := hfg.below hB
          have hggc := hfgc.below hB
          have hgwant := hfwant.below hB
          have hgwc := hfwc.below hB
          clear g56 g58 g60 hft hftc hfg hfgc hfwant hfwc hB hA3
          obtain ⟨xf, hxf⟩ : ∃ xf, riseI t tc want = xf := ⟨_, rfl⟩
          simp only [hxf]
          rw [hxf] at HKF
          clear hxf
          go_upto_region 7 with fail
          obtain ⟨W1, hW1⟩ : ∃ W1, W1 = W := ⟨_, rfl⟩
          rw [← hW1] at hA4 hgt hgtc hgg hggc hgwant hgwc ⊢
          clear hW1
          refine wp_region_monoF 10 (fun kq v W => match kq with | 62 => v = .pointer (some ⟨w.heap.size, 0, none⟩) | 63 => LV t v W | 64 => v = .pointer (some ⟨w.heap.size + 1, 0, none⟩) | 65 => LV g v W | 66 => v = .pointer (some ⟨w.heap.size + 1 + 1, 0, none⟩) | 67 => LV want v W | 68 => LsV [t, g, want] v W | 69 => (OwnI W1.heap.size (nmM [t, g, want])) v W | 70 => v = .int .i64 cat | 71 => (I1V cat) v W | _ => True) (by kernel_rfl) (by kernel_rfl) (by simp) ?_ ?_ ?_
          · intro kq v W W' h hb
            revert h
            try dsimp only
            split
            · intro h; exact h
            · intro h; exact LV.below h hb
            · intro h; exact h
            · intro h; exact LV.below h hb
            · intro h; exact h
            · intro h; exact LV.below h hb
            · intro h; exact LsV.below h hb
            · intro h; exact OwnI.below h hb
            · intro h; exact h
            · intro h; exact I1V.below h hb
            · intro h; trivial
          · intro a' W hB hs hk i o d ho hd hG
            match i, ho with
            | 0, ho =>
              obtain rfl : _ = o := Option.some.inj ho
              obtain rfl : 62 = d := Option.some.inj hd
              exact .inr ⟨rfl, .inl ⟨_, W, run_fa0 (hk 4 (by kernel_rfl)), Below.refl _ _, rfl⟩⟩
            | 1, ho =>
              obtain rfl : _ = o := Option.some.inj ho
              obtain rfl : 63 = d := Option.some.inj hd
              have g62 : (a'.eval (.tmp 62)) = .pointer (some ⟨w.heap.size, 0, none⟩) := hG ⟨0, .data⟩ (by simp) rfl 62 rfl
              obtain ⟨v, hr, hv⟩ := run_loadL (ev := a'.eval) (W := W) g62 (hgt.below hB)
              exact .inr ⟨rfl, .inl ⟨v, W, hr, Below.refl _ _, hv⟩⟩
            | 2, ho =>
              obtain rfl : _ = o := Option.some.inj ho
              obtain rfl : 64 = d := Option.some.inj hd
              exact .inr ⟨rfl, .inl ⟨_, W, run_fa0 (hk 5 (by kernel_rfl)), Below.refl _ _, rfl⟩⟩
            | 3, ho =>
              obtain rfl : _ = o := Option.some.inj ho
              obtain rfl : 65 = d := Option.some.inj hd
              have g64 : (a'.eval (.tmp 64)) = .pointer (some ⟨w.heap.size + 1, 0, none⟩) := hG ⟨2, .data⟩ (by simp) rfl 64 rfl
              obtain ⟨v, hr, hv⟩ := run_loadL (ev := a'.eval) (W := W) g64 (hgg.below hB)
              exact .inr ⟨rfl, .inl ⟨v, W, hr, Below.refl _ _, hv⟩⟩
            | 4, ho =>
              obtain rfl : _ = o := Option.some.inj ho
              obtain rfl : 66 = d := Option.some.inj hd
              exact .inr ⟨rfl, .inl ⟨_, W, run_fa0 (hk 6 (by kernel_rfl)), Below.refl _ _, rfl⟩⟩
            | 5, ho =>
              obtain rfl : _ = o := Option.some.inj ho
              obtain rfl : 67 = d := Option.some.inj hd
              have g66 : (a'.eval (.tmp 66)) = .pointer (some ⟨w.heap.size + 1 + 1, 0, none⟩) := hG ⟨4, .data⟩ (by simp) rfl 66 rfl
              obtain ⟨v, hr, hv⟩ := run_loadL (ev := a'.eval) (W := W) g66 (hgwant.below hB)
              exact .inr ⟨rfl, .inl ⟨v, W, hr, Below.refl _ _, hv⟩⟩
            | 6, ho =>
              obtain rfl : _ = o := Option.some.inj ho
              obtain rfl : 68 = d := Option.some.inj hd
              have g63 : LV t (a'.eval (.tmp 63)) W := hG ⟨1, .data⟩ (by simp) rfl 63 rfl
              have g65 : LV g (a'.eval (.tmp 65)) W := hG ⟨3, .data⟩ (by simp) rfl 65 rfl
              have g67 : LV want (a'.eval (.tmp 67)) W := hG ⟨5, .data⟩ (by simp) rfl 67 rfl
              obtain ⟨v, W', hr, hb, hv⟩ := run_slice3 (ev := a'.eval) (W := W) rfl rfl rfl g63 g65 g67
              exact .inr ⟨rfl, .inl ⟨v, W', hr, hb, hv⟩⟩
            | 7, ho =>
              obtain rfl : _ = o := Option.some.inj ho
              obtain rfl : 69 = d := Option.some.inj hd
              have g68 : LsV [t, g, want] (a'.eval (.tmp 68)) W := hG ⟨6, .data⟩ (by simp) rfl 68 rfl
              exact .inr ⟨rfl, .inr ⟨_, _, run_call rfl map_1 ent_gatehouseref01_Named, rNamed_o g68 (by simp) hB.size⟩⟩
            | 8, ho =>
              obtain rfl : _ = o := Option.some.inj ho
              obtain rfl : 70 = d := Option.some.inj hd
              exact .inr ⟨rfl, .inl ⟨_, W, run_move (hk 3 (by kernel_rfl)), Below.refl _ _, rfl⟩⟩
            | 9, ho =>
              obtain rfl : _ = o := Option.some.inj ho
              obtain rfl : 71 = d := Option.some.inj hd
              have g70 : (a'.eval (.tmp 70)) = .int .i64 cat := hG ⟨8, .data⟩ (by simp) rfl 70 rfl
              obtain ⟨v, W', hr, hb, hv⟩ := run_int1 (ev := a'.eval) (W := W) g70
              exact .inr ⟨rfl, .inl ⟨v, W', hr, hb, hv⟩⟩
            | j + 10, ho => simp at ho
          · intro a' W hB hs hdf hk hG
            obtain ⟨tm, df⟩ := a'
            obtain rfl : df = [] := hdf
            have e0 : tm.getD 0 undef = .agg #[.int .i64 t.fst, .slice pt t.snd.length ct, .int .i64 tc.fst, .slice ptc tc.snd.length ctc] := hk 0 (by kernel_rfl)
            have e1 : tm.getD 1 undef = .agg #[.int .i64 g.fst, .slice pg g.snd.length cg, .int .i64 gc.fst, .slice pgc gc.snd.length cgc] := hk 1 (by kernel_rfl)
            have e2 : tm.getD 2 undef = .agg #[.int .i64 want.fst, .slice pwant want.snd.length cwant, .int .i64 wc.fst, .slice pwc wc.snd.length cwc] := hk 2 (by kernel_rfl)
            have e3 : tm.getD 3 undef = .int .i64 cat := hk 3 (by kernel_rfl)
            have e4 : tm.getD 4 undef = .pointer (some ⟨w.heap.size, 0, none⟩) := hk 4 (by kernel_rfl)
            have e5 : tm.getD 5 undef = .pointer (some ⟨w.heap.size + 1, 0, none⟩) := hk 5 (by kernel_rfl)
            have e6 : tm.getD 6 undef = .pointer (some ⟨w.heap.size + 1 + 1, 0, none⟩) := hk 6 (by kernel_rfl)
            have e7 : tm.getD 7 undef = undef := hk 7 (by kernel_rfl)
            have e8 : tm.getD 8 undef = .bool false := hk 8 (by kernel_rfl)
            have e9 : tm.getD 9 undef = .int .i64 xe := hk 9 (by kernel_rfl)
            have e10 : tm.getD 10 undef = .int .i64 xf := hk 10 (by kernel_rfl)
            have e11 : tm.getD 11 undef = undef := hk 11 (by kernel_rfl)
            have e12 : tm.getD 12 undef = undef := hk 12 (by kernel_rfl)
            have e13 : tm.getD 13 undef = undef := hk 13 (by kernel_rfl)
            have e14 : tm.getD 14 undef = undef := hk 14 (by kernel_rfl)
            have e15 : tm.getD 15 undef = undef := hk 15 (by kernel_rfl)
            have e16 : tm.getD 16 undef = undef := hk 16 (by kernel_rfl)
            have e17 : tm.getD 17 undef = .bool true := hk 17 (by kernel_rfl)
            have e18 : tm.getD 18 undef = .bool false := hk 18 (by kernel_rfl)
            have e19 : tm.getD 19 undef = .pointer (some ⟨w.heap.size, 2, none⟩) := hk 19 (by kernel_rfl)
            have e20 : tm.getD 20 undef = t20 := hk 20 (by kernel_rfl)
            have e21 : tm.getD 21 undef = .pointer (some ⟨w.heap.size + 1, 2, none⟩) := hk 21 (by kernel_rfl)
            have e22 : tm.getD 22 undef = t22 := hk 22 (by kernel_rfl)
            have e23 : tm.getD 23 undef = .pointer (some ⟨w.heap.size + 1 + 1, 0, none⟩) := hk 23 (by kernel_rfl)
            have e24 : tm.getD 24 undef = t24 := hk 24 (by kernel_rfl)
            have e25 : tm.getD 25 undef = .pointer (some ⟨w.heap.size + 1 + 1, 2, none⟩) := hk 25 (by kernel_rfl)
            have e26 : tm.getD 26 undef = t26 := hk 26 (by kernel_rfl)
            have e27 : tm.getD 27 undef = t27 := hk 27 (by kernel_rfl)
            have e28 : tm.getD 28 undef = .bool ([tc, gc, want, wc].all rightM) := hk 28 (by kernel_rfl)
            have e29 : tm.getD 29 undef = .bool ![tc, gc, want, wc].all rightM := hk 29 (by kernel_rfl)
            have e30 : tm.getD 30 undef = .bool ![tc, gc, want, wc].all rightM := hk 30 (by kernel_rfl)
            have e31 : tm.getD 31 undef = t31 := hk 31 (by kernel_rfl)
            have e32 : tm.getD 32 undef = t32 := hk 32 (by kernel_rfl)
            have e33 : tm.getD 33 undef = t33 := hk 33 (by kernel_rfl)
            have e34 : tm.getD 34 undef = t34 := hk 34 (by kernel_rfl)
            have e35 : tm.getD 35 undef = .bool (![tc, gc, want, wc].all rightM || !plainS t.fst t.snd) := hk 35 (by kernel_rfl)
            have e36 : tm.getD 36 undef = .bool (![tc, gc, want, wc].all rightM || !plainS t.fst t.snd) := hk 36 (by kernel_rfl)
            have e37 : tm.getD 37 undef = t37 := hk 37 (by kernel_rfl)
            have e38 : tm.getD 38 undef = t38 := hk 38 (by kernel_rfl)
            have e39 : tm.getD 39 undef = t39 := hk 39 (by kernel_rfl)
            have e40 : tm.getD 40 undef = t40 := hk 40 (by kernel_rfl)
            have e41 : tm.getD 41 undef = .bool false := hk 41 (by kernel_rfl)
            have e42 : tm.getD 42 undef = .pointer (some ⟨w.heap.size, 0, none⟩) := hk 42 (by kernel_rfl)
            have e43 : tm.getD 43 undef = t43 := hk 43 (by kernel_rfl)
            have e44 : tm.getD 44 undef = .pointer (some ⟨w.heap.size, 2, none⟩) := hk 44 (by kernel_rfl)
            have e45 : tm.getD 45 undef = t45 := hk 45 (by kernel_rfl)
            have e46 : tm.getD 46 undef = .pointer (some ⟨w.heap.size + 1, 0, none⟩) := hk 46 (by kernel_rfl)
            have e47 : tm.getD 47 undef = t47 := hk 47 (by kernel_rfl)
            have e48 : tm.getD 48 undef = .pointer (some ⟨w.heap.size + 1, 2, none⟩) := hk 48 (by kernel_rfl)
            have e49 : tm.getD 49 undef = t49 := hk 49 (by kernel_rfl)
            have e50 : tm.getD 50 undef = .pointer (some ⟨w.heap.size + 1 + 1, 0, none⟩) := hk 50 (by kernel_rfl)
            have e51 : tm.getD 51 undef = t51 := hk 51 (by kernel_rfl)
            have e52 : tm.getD 52 undef = .pointer (some ⟨w.heap.size + 1 + 1, 2, none⟩) := hk 52 (by kernel_rfl)
            have e53 : tm.getD 53 undef = t53 := hk 53 (by kernel_rfl)
            have e54 : tm.getD 54 undef = .int .i64 xe := hk 54 (by kernel_rfl)
            have e55 : tm.getD 55 undef = .pointer (some ⟨w.heap.size, 0, none⟩) := hk 55 (by kernel_rfl)
            have e56 : tm.getD 56 undef = t56 := hk 56 (by kernel_rfl)
            have e57 : tm.getD 57 undef = .pointer (some ⟨w.heap.size, 2, none⟩) := hk 57 (by kernel_rfl)
            have e58 : tm.getD 58 undef = t58 := hk 58 (by kernel_rfl)
            have e59 : tm.getD 59 undef = .pointer (some ⟨w.heap.size + 1 + 1, 0, none⟩) := hk 59 (by kernel_rfl)
            have e60 : tm.getD 60 undef = t60 := hk 60 (by kernel_rfl)
            have e61 : tm.getD 61 undef = .int .i64 xf := hk 61 (by kernel_rfl)
            have e72 : tm.getD 72 undef = undef := hk 72 (by kernel_rfl)
            have e73 : tm.getD 73 undef = undef := hk 73 (by kernel_rfl)
            have e74 : tm.getD 74 undef = undef := hk 74 (by kernel_rfl)
            have e75 : tm.getD 75 undef = undef := hk 75 (by kernel_rfl)
            have e76 : tm.getD 76 undef = undef := hk 76 (by kernel_rfl)
            have e77 : tm.getD 77 undef = undef := hk 77 (by kernel_rfl)
            have e78 : tm.getD 78 undef = undef := hk 78 (by kernel_rfl)
            have e79 : tm.getD 79 undef = undef := hk 79 (by kernel_rfl)
            have e80 : tm.getD 80 undef = undef := hk 80 (by kernel_rfl)
            have e81 : tm.getD 81 undef = undef := hk 81 (by kernel_rfl)
            have e82 : tm.getD 82 undef = undef := hk 82 (by kernel_rfl)
            have e83 : tm.getD 83 undef = undef := hk 83 (by kernel_rfl)
            have e84 : tm.getD 84 undef = undef := hk 84 (by kernel_rfl)
            have e85 : tm.getD 85 undef = undef := hk 85 (by kernel_rfl)
            have e86 : tm.getD 86 undef = undef := hk 86 (by kernel_rfl)
            have e87 : tm.getD 87 undef = undef := hk 87 (by kernel_rfl)
            have e88 : tm.getD 88 undef = undef := hk 88 (by kernel_rfl)
            have e89 : tm.getD 89 undef = undef := hk 89 (by kernel_rfl)
            have e90 : tm.getD 90 undef = undef := hk 90 (by kernel_rfl)
            have e91 : tm.getD 91 undef = undef := hk 91 (by kernel_rfl)
            have e92 : tm.getD 92 undef = undef := hk 92 (by kernel_rfl)
            have e93 : tm.getD 93 undef = undef := hk 93 (by kernel_rfl)
            have e94 : tm.getD 94 undef = undef := hk 94 (by kernel_rfl)
            have e95 : tm.getD 95 undef = undef := hk 95 (by kernel_rfl)
            have e96 : tm.getD 96 undef = undef := hk 96 (by kernel_rfl)
            have e97 : tm.getD 97 undef = undef := hk 97 (by kernel_rfl)
            have e98 : tm.getD 98 undef = undef := hk 98 (by kernel_rfl)
            have e99 : tm.getD 99 undef = undef := hk 99 (by kernel_rfl)
            have e100 : tm.getD 100 undef = undef := hk 100 (by kernel_rfl)
            have e101 : tm.getD 101 undef = undef := hk 101 (by kernel_rfl)
            have e102 : tm.getD 102 undef = undef := hk 102 (by kernel_rfl)
            have e103 : tm.getD 103 undef = undef := hk 103 (by kernel_rfl)
            have e104 : tm.getD 104 undef = undef := hk 104 (by kernel_rfl)
            have e105 : tm.getD 105 undef = undef := hk 105 (by kernel_rfl)
            have e106 : tm.getD 106 undef = undef := hk 106 (by kernel_rfl)
            have e107 : tm.getD 107 undef = undef := hk 107 (by kernel_rfl)
            have e108 : tm.getD 108 undef = undef := hk 108 (by kernel_rfl)
            have e109 : tm.getD 109 undef = undef := hk 109 (by kernel_rfl)
            have e110 : tm.getD 110 undef = undef := hk 110 (by kernel_rfl)
            have e111 : tm.getD 111 undef = undef := hk 111 (by kernel_rfl)
            have e112 : tm.getD 112 undef = undef := hk 112 (by kernel_rfl)
            have e113 : tm.getD 113 undef = undef := hk 113 (by kernel_rfl)
            have e114 : tm.getD 114 undef = undef := hk 114 (by kernel_rfl)
            have e115 : tm.getD 115 undef = undef := hk 115 (by kernel_rfl)
            have g62 : (tm.getD 62 undef) = .pointer (some ⟨w.heap.size, 0, none⟩) := hG 0 62 (by decide) rfl
            have g63 : LV t (tm.getD 63 undef) W := hG 1 63 (by decide) rfl
            have g64 : (tm.getD 64 undef) = .pointer (some ⟨w.heap.size + 1, 0, none⟩) := hG 2 64 (by decide) rfl
            have g65 : LV g (tm.getD 65 undef) W := hG 3 65 (by decide) rfl
            have g66 : (tm.getD 66 undef) = .pointer (some ⟨w.heap.size + 1 + 1, 0, none⟩) := hG 4 66 (by decide) rfl
            have g67 : LV want (tm.getD 67 undef) W := hG 5 67 (by decide) rfl
            have g68 : LsV [t, g, want] (tm.getD 68 undef) W := hG 6 68 (by decide) rfl
            have g69 : (OwnI W1.heap.size (nmM [t, g, want])) (tm.getD 69 undef) W := hG 7 69 (by decide) rfl
            have g70 : (tm.getD 70 undef) = .int .i64 cat := hG 8 70 (by decide) rfl
            have g71 : (I1V cat) (tm.getD 71 undef) W := hG 9 71 (by decide) rfl
            have htm := arr_of tm ((.agg #[.int .i64 t.fst, .slice pt t.snd.length ct, .int .i64 tc.fst, .slice ptc tc.snd.length ctc] : Value) :: (.agg #[.int .i64 g.fst, .slice pg g.snd.length cg, .int .i64 gc.fst, .slice pgc gc.snd.length cgc] : Value) :: (.agg #[.int .i64 want.fst, .slice pwant want.snd.length cwant, .int .i64 wc.fst, .slice pwc wc.snd.length cwc] : Value) :: (.int .i64 cat : Value) :: (.pointer (some ⟨w.heap.size, 0, none⟩) : Value) :: (.pointer (some ⟨w.heap.size + 1, 0, none⟩) : Value) :: (.pointer (some ⟨w.heap.size + 1 + 1, 0, none⟩) : Value) :: (undef : Value) :: (.bool false : Value) :: (.int .i64 xe : Value) :: (.int .i64 xf : Value) :: (undef : Value) :: (undef : Value) :: (undef : Value) :: (undef : Value) :: (undef : Value) :: (undef : Value) :: (.bool true : Value) :: (.bool false : Value) :: (.pointer (some ⟨w.heap.size, 2, none⟩) : Value) :: (t20 : Value) :: (.pointer (some ⟨w.heap.size + 1, 2, none⟩) : Value) :: (t22 : Value) :: (.pointer (some ⟨w.heap.size + 1 + 1, 0, none⟩) : Value) :: (t24 : Value) :: (.pointer (some ⟨w.heap.size + 1 + 1, 2, none⟩) : Value) :: (t26 : Value) :: (t27 : Value) :: (.bool ([tc, gc, want, wc].all rightM) : Value) :: (.bool ![tc, gc, want, wc].all rightM : Value) :: (.bool ![tc, gc, want, wc].all rightM : Value) :: (t31 : Value) :: (t32 : Value) :: (t33 : Value) :: (t34 : Value) :: (.bool (![tc, gc, want, wc].all rightM || !plainS t.fst t.snd) : Value) :: (.bool (![tc, gc, want, wc].all rightM || !plainS t.fst t.snd) : Value) :: (t37 : Value) :: (t38 : Value) :: (t39 : Value) :: (t40 : Value) :: (.bool false : Value) :: (.pointer (some ⟨w.heap.size, 0, none⟩) : Value) :: (t43 : Value) :: (.pointer (some ⟨w.heap.size, 2, none⟩) : Value) :: (t45 : Value) :: (.pointer (some ⟨w.heap.size + 1, 0, none⟩) : Value) :: (t47 : Value) :: (.pointer (some ⟨w.heap.size + 1, 2, none⟩) : Value) :: (t49 : Value) :: (.pointer (some ⟨w.heap.size + 1 + 1, 0, none⟩) : Value) :: (t51 : Value) :: (.pointer (some ⟨w.heap.size + 1 + 1, 2, none⟩) : Value) :: (t53 : Value) :: (.int .i64 xe : Value) :: (.pointer (some ⟨w.heap.size, 0, none⟩) : Value) :: (t56 : Value) :: (.pointer (some ⟨w.heap.size, 2, none⟩) : Value) :: (t58 : Value) :: (.pointer (some ⟨w.heap.size + 1 + 1, 0, none⟩) : Value) :: (t60 : Value) :: (.int .i64 xf : Value) :: (tm.getD 62 undef : Value) :: (tm.getD 63 undef : Value) :: (tm.getD 64 undef : Value) :: (tm.getD 65 undef : Value) :: (tm.getD 66 undef : Value) :: (tm.getD 67 undef : Value) :: (tm.getD 68 undef : Value) :: (tm.getD 69 undef : Value) :: (tm.getD 70 undef : Value) :: (tm.getD 71 undef : Value) :: (undef : Value) :: (undef : Value) :: (undef : Value) :: (undef : Value) :: (undef : Value) :: (undef : Value) :: (undef : Value) :: (undef : Value) :: (undef : Value) :: (undef : Value) :: (undef : Value) :: (undef : Value) :: (undef : Value) :: (undef : Value) :: (undef : Value) :: (undef : Value) :: (undef : Value) :: (undef : Value) :: (undef : Value) :: (undef : Value) :: (undef : Value) :: (undef : Value) :: (undef : Value) :: (undef : Value) :: (undef : Value) :: (undef : Value) :: (undef : Value) :: (undef : Value) :: (undef : Value) :: (undef : Value) :: (undef : Value) :: (undef : Value) :: (undef : Value) :: (undef : Value) :: (undef : Value) :: (undef : Value) :: (undef : Value) :: (undef : Value) :: (undef : Value) :: (undef : Value) :: (undef : Value) :: (undef : Value) :: (undef : Value) :: (undef : Value) :: []) hs (by show (tm.getD 0 undef :: tm.getD 1 undef :: tm.getD 2 undef :: tm.getD 3 undef :: tm.getD 4 undef :: tm.getD 5 undef :: tm.getD 6 undef :: tm.getD 7 undef :: tm.getD 8 undef :: tm.getD 9 undef :: tm.getD 10 undef :: tm.getD 11 undef :: tm.getD 12 undef :: tm.getD 13 undef :: tm.getD 14 undef :: tm.getD 15 undef :: tm.getD 16 undef :: tm.getD 17 undef :: tm.getD 18 undef :: tm.getD 19 undef :: tm.getD 20 undef :: tm.getD 21 undef :: tm.getD 22 undef :: tm.getD 23 undef :: tm.getD 24 undef :: tm.getD 25 undef :: tm.getD 26 undef :: tm.getD 27 undef :: tm.getD 28 undef :: tm.getD 29 undef :: tm.getD 30 undef :: tm.getD 31 undef :: tm.getD 32 undef :: tm.getD 33 undef :: tm.getD 34 undef :: tm.getD 35 undef :: tm.getD 36 undef :: tm.getD 37 undef :: tm.getD 38 undef :: tm.getD 39 undef :: tm.getD 40 undef :: tm.getD 41 undef :: tm.getD 42 undef :: tm.getD 43 undef :: tm.getD 44 undef :: tm.getD 45 undef :: tm.getD 46 undef :: tm.getD 47 undef :: tm.getD 48 undef :: tm.getD 49 undef :: tm.getD 50 undef :: tm.getD 51 undef :: tm.getD 52 undef :: tm.getD 53 undef :: tm.getD 54 undef :: tm.getD 55 undef :: tm.getD 56 undef :: tm.getD 57 undef :: tm.getD 58 undef :: tm.getD 59 undef :: tm.getD 60 undef :: tm.getD 61 undef :: tm.getD 62 undef :: tm.getD 63 undef :: tm.getD 64 undef :: tm.getD 65 undef :: tm.getD 66 undef :: tm.getD 67 undef :: tm.getD 68 undef :: tm.getD 69 undef :: tm.getD 70 undef :: tm.getD 71 undef :: tm.getD 72 undef :: tm.getD 73 undef :: tm.getD 74 undef :: tm.getD 75 undef :: tm.getD 76 undef :: tm.getD 77 undef :: tm.getD 78 undef :: tm.getD 79 undef :: tm.getD 80 undef :: tm.getD 81 undef :: tm.getD 82 undef :: tm.getD 83 undef :: tm.getD 84 undef :: tm.getD 85 undef :: tm.getD 86 undef :: tm.getD 87 undef :: tm.getD 88 undef :: tm.getD 89 undef :: tm.getD 90 undef :: tm.getD 91 undef :: tm.getD 92 undef :: tm.getD 93 undef :: tm.getD 94 undef :: tm.getD 95 undef :: tm.getD 96 undef :: tm.getD 97 undef :: tm.getD 98 undef :: tm.getD 99 undef :: tm.getD 100 undef :: tm.getD 101 undef :: tm.getD 102 undef :: tm.getD 103 undef :: tm.getD 104 undef :: tm.getD 105 undef :: tm.getD 106 undef :: tm.getD 107 undef :: tm.getD 108 undef :: tm.getD 109 undef :: tm.getD 110 undef :: tm.getD 111 undef :: tm.getD 112 undef :: tm.getD 113 undef :: tm.getD 114 undef :: tm.getD 115 undef :: []) = _; rw [e0, e1, e2, e3, e4, e5, e6, e7, e8, e9, e10, e11, e12, e13, e14, e15, e16, e17, e18, e19, e20, e21, e22, e23, e24, e25, e26, e27, e28, e29, e30, e31, e32, e33, e34, e35, e36, e37, e38, e39, e40, e41, e42, e43, e44, e45, e46, e47, e48, e49, e50, e51, e52, e53, e54, e55, e56, e57, e58, e59, e60, e61, e72, e73, e74, e75, e76, e77, e78, e79, e80, e81, e82, e83, e84, e85, e86, e87, e88, e89, e90, e91, e92, e93, e94, e95, e96, e97, e98, e99, e100, e101, e102, e103, e104, e105, e106, e107, e108, e109, e110, e111, e112, e113, e114, e115]; try rfl)
            clear hs hk hG e0 e1 e2 e3 e4 e5 e6 e7 e8 e9 e10 e11 e12 e13 e14 e15 e16 e17 e18 e19 e20 e21 e22 e23 e24 e25 e26 e27 e28 e29 e30 e31 e32 e33 e34 e35 e36 e37 e38 e39 e40 e41 e42 e43 e44 e45 e46 e47 e48 e49 e50 e51 e52 e53 e54 e55 e56 e57 e58 e59 e60 e61 e72 e73 e74 e75 e76 e77 e78 e79 e80 e81 e82 e83 e84 e85 e86 e87 e88 e89 e90 e91 e92 e93 e94 e95 e96 e97 e98 e99 e100 e101 e102 e103 e104 e105 e106 e107 e108 e109 e110 e111 e112 e113 e114 e115
            generalize tm.getD 62 undef = t62 at htm g62
            generalize tm.getD 63 undef = t63 at htm g63
            generalize tm.getD 64 undef = t64 at htm g64
            generalize tm.getD 65 undef = t65 at htm g65
            generalize tm.getD 66 undef = t66 at htm g66
            generalize tm.getD 67 undef = t67 at htm g67
            generalize tm.getD 68 undef = t68 at htm g68
            generalize tm.getD 69 undef = t69 at htm g69
            generalize tm.getD 70 undef = t70 at htm g70
            generalize tm.getD 71 undef = t71 at htm g71
            subst htm
            subst g62
            subst g64
            subst g66
            subst g70
            simp only [List.drop_succ_cons, List.drop_zero]
            have hlen := nmM_len g68
            obtain ⟨gq, cz, rfl, hown⟩ := g69
            obtain ⟨gi, rfl, hgi, hgc⟩ := g71
            clear g63 g65 g67 g68
            obtain ⟨i0, hi, hz0, hz1, hz2⟩ := info_parts info3
            have h63 : (nmM [t, g, want]).length + 1 ≤ maxLen := by unfold maxLen; simp at hlen; omega
            have hby : ((nmM [t, g, want]).length + 1) * 8 ≤ 140737488355328 := by simp at hlen; omega
            have HO : Hid (∀ i u, [Value.int .i64 cat][i]? = some u → W.cell? ((⟨gi, 0, none⟩ : Addr).add i) = some u) := fun i u hu => by
              match i, hu with
              | 0, hu => simp at hu; subst hu; simpa [Addr.add] using hgc
            have hWs : W1.heap.size ≤ W.heap.size := hB.size
            obtain ⟨T, hT⟩ : ∃ T, nmM [t, g, want] = T := ⟨_, rfl⟩
            rw [hT] at hown h63 hby
            simp only [hT]
            have HLT := Lib.hid hown.lt
            have hTl : T.length ≤ 100 := by rw [← hT]; simp at hlen; omega
            clear hT hlen
            go_wp2_with (at_builtin; refine wpList_append_own _ rfl _ _ 43 rfl W1.heap.size 3 i0 (.int .i64 0) 1 8 Try.underlying43 hi hz0 hz1 hz2 rfl (by decide) _ _ _ rfl hown ⟨gi, 0, none⟩ 1 1 [.int .i64 cat] rfl rfl HO.out (fun x hx => by simp at hx; subst hx; rfl) h63 hby hWs ?_; intro v5 w5 hown5 hgrow5 hnil5; refine Hid.out ?_)
            refine Lib.hid ?_
            have hb5 : Below W1.heap.size W1 w5 := Below.grown hB hgrow5 hWs (fun j hj => (HLT.out _ hj).1)
            have hI : IV (T ++ [cat]) v5 w5 := by
              rw [show [Value.int .i64 cat] = icells [cat] from rfl, ← icells_append] at hown5
              exact ⟨W1.heap.size, by simpa using hown5⟩
            obtain ⟨cs, hcs⟩ : ∃ cs, T ++ [cat] = cs := ⟨_, rfl⟩
            rw [hcs] at hI
            have hlc : cs.length ≤ 200 := by rw [← hcs]; simp; omega
            obtain ⟨p, cz2, rfl⟩ := hI.form
            have HI := Lib.hid hI
            have hA5 : Below w.heap.size w w5 := hA4.trans (hb5.mono hA4.size)
            have hqt := hgt.below hb5
            have hqtc := hgtc.below hb5
            have hqg := hgg.below hb5
            have hqgc := hggc.below hb5
            have hqwant := hgwant.below hb5
            have hqwc := hgwc.below hb5
            clear hcs hI hown5 hgrow5 hnil5 hown HLT HO hgc hgi hA4 hb5 hB hgt hgtc hgg hggc hgwant hgwc hi hz0 hz1 hz2 h63 hby hTl
            go_wp2_with fail
            go_loopw [75] (fun i wr => ∃ k : Nat, k ≤ cs.length ∧ i = .int .i64 k ∧ Below w5.heap.size w5 wr) (fun i _ => cs.length - (intOf i).toNat)
            case atStart => exact ⟨0, Nat.zero_le _, rfl, Below.refl _ _⟩
            case round =>
              obtain ⟨k, hk, rfl, hbw⟩ := hrel
              have hBw : Below w.heap.size w wr := hA5.trans (hbw.mono hA5.size)
              by_cases hlt : k < cs.length
              · obtain ⟨gz, rfl, hgz, c0w⟩ := iv_cell HI.out k hlt
                have c0 := (hbw.cell (p := ⟨gz, k, none⟩) hgz).trans c0w
                have hki : (k : Int) < (cs.length : Int) := by omega
                have HF1 : Hid (xf = 0 → aM t cs[k] ≤ aM want cs[k]) := fun h => HKF.out h cs[k]
                have HE1 : Hid (xe = 0 → aM t cs[k] ≠ 0 → aM g cs[k] ≠ 0 → aM t cs[k] ≤ aM want cs[k]) := fun h => HKE.out h cs[k]
                have hrt := hqt.below hbw
                have hrtc := hqtc.below hbw
                have hrg := hqg.below hbw
                have hrgc := hqgc.below hbw
                have hrwant := hqwant.below hbw
                have hrwc := hqwc.below hbw
                clear c0w HI HKF HKE hqt hqtc hqg hqgc hqwant hqwc
                go_wp2_with fail
                refine wp_region_mono 15 (fun kq v W => match kq with | 79 => v = .pointer (some ⟨w.heap.size, 0, none⟩) | 80 => LV t v W | 81 => v = .int .i64 cs[k] | 82 => v = .int .i64 (aM t cs[k]) | 83 => v = .pointer (some ⟨w.heap.size + 1, 0, none⟩) | 84 => LV g v W | 85 => v = .int .i64 cs[k] | 86 => v = .int .i64 (aM g cs[k]) | 87 => v = .pointer (some ⟨w.heap.size + 1 + 1, 0, none⟩) | 88 => LV want v W | 89 => v = .int .i64 cs[k] | 90 => v = .int .i64 (aM want cs[k]) | 14 => v = .int .i64 (aM t cs[k]) | 15 => v = .int .i64 (aM g cs[k]) | 16 => v = .int .i64 (aM want cs[k]) | _ => True) (by kernel_rfl) (by kernel_rfl) (by kernel_rfl) (by kernel_rfl) (by simp) (by kernel_rfl) ?_ ?_ ?_
                · intro kq v W W' h hb
                  revert h
                  try dsimp only
                  split
                  · intro h; exact h
                  · intro h; exact LV.below h hb
                  · intro h; exact h
                  · intro h; exact h
                  · intro h; exact h
                  · intro h; exact LV.below h hb
                  · intro h; exact h
                  · intro h; exact h
                  · intro h; exact h
                  · intro h; exact LV.below h hb
                  · intro h; exact h
                  · intro h; exact h
                  · intro h; exact h
                  · intro h; exact h
                  · intro h; exact h
                  · intro h; trivial
                · intro a' W hB hs hk i o d ho hd hG
                  match i, ho with
                  | 0, ho =>
                    obtain rfl : _ = o := Option.some.inj ho
                    obtain rfl : 79 = d := Option.some.inj hd
                    exact .inr ⟨rfl, .inl ⟨_, W, run_fa0 (hk 4 (by kernel_rfl)), Below.refl _ _, rfl⟩⟩
                  | 1, ho =>
                    obtain rfl : _ = o := Option.some.inj ho
                    obtain rfl : 80 = d := Option.some.inj hd
                    have g79 : (a'.eval (.tmp 79)) = .pointer (some ⟨w.heap.size, 0, none⟩) := hG ⟨0, .data⟩ (by simp) rfl 79 rfl
                    obtain ⟨v, hr, hv⟩ := run_loadL (ev := a'.eval) (W := W) g79 (hrt.below hB)
                    exact .inr ⟨rfl, .inl ⟨v, W, hr, Below.refl _ _, hv⟩⟩
                  | 2, ho =>
                    obtain rfl : _ = o := Option.some.inj ho
                    obtain rfl : 81 = d := Option.some.inj hd
                    exact .inr ⟨rfl, .inl ⟨_, W, run_move (hk 13 (by kernel_rfl)), Below.refl _ _, rfl⟩⟩
                  | 3, ho =>
                    obtain rfl : _ = o := Option.some.inj ho
                    obtain rfl : 82 = d := Option.some.inj hd
                    have g80 : LV t (a'.eval (.tmp 80)) W := hG ⟨1, .data⟩ (by simp) rfl 80 rfl
                    have g81 : (a'.eval (.tmp 81)) = .int .i64 cs[k] := hG ⟨2, .data⟩ (by simp) rfl 81 rfl
                    exact .inr ⟨rfl, .inr ⟨_, _, run_call rfl map_2 ent_gatehouseref01_At, rAt_c' g80 g81⟩⟩
                  | 4, ho =>
                    obtain rfl : _ = o := Option.some.inj ho
                    obtain rfl : 83 = d := Option.some.inj hd
                    exact .inr ⟨rfl, .inl ⟨_, W, run_fa0 (hk 5 (by kernel_rfl)), Below.refl _ _, rfl⟩⟩
                  | 5, ho =>
                    obtain rfl : _ = o := Option.some.inj ho
                    obtain rfl : 84 = d := Option.some.inj hd
                    have g83 : (a'.eval (.tmp 83)) = .pointer (some ⟨w.heap.size + 1, 0, none⟩) := hG ⟨4, .data⟩ (by simp) rfl 83 rfl
                    obtain ⟨v, hr, hv⟩ := run_loadL (ev := a'.eval) (W := W) g83 (hrg.below hB)
                    exact .inr ⟨rfl, .inl ⟨v, W, hr, Below.refl _ _, hv⟩⟩
                  | 6, ho =>
                    obtain rfl : _ = o := Option.some.inj ho
                    obtain rfl : 85 = d := Option.some.inj hd
                    exact .inr ⟨rfl, .inl ⟨_, W, run_move (hk 13 (by kernel_rfl)), Below.refl _ _, rfl⟩⟩
                  | 7, ho =>
                    obtain rfl : _ = o := Option.some.inj ho
                    obtain rfl : 86 = d := Option.some.inj hd
                    have g84 : LV g (a'.eval (.tmp 84)) W := hG ⟨5, .data⟩ (by simp) rfl 84 rfl
                    have g85 : (a'.eval (.tmp 85)) = .int .i64 cs[k] := hG ⟨6, .data⟩ (by simp) rfl 85 rfl
                    exact .inr ⟨rfl, .inr ⟨_, _, run_call rfl map_2 ent_gatehouseref01_At, rAt_c' g84 g85⟩⟩
                  | 8, ho =>
                    obtain rfl : _ = o := Option.some.inj ho
                    obtain rfl : 87 = d := Option.some.inj hd
                    exact .inr ⟨rfl, .inl ⟨_, W, run_fa0 (hk 6 (by kernel_rfl)), Below.refl _ _, rfl⟩⟩
                  | 9, ho =>
                    obtain rfl : _ = o := Option.some.inj ho
                    obtain rfl : 88 = d := Option.some.inj hd
                    have g87 : (a'.eval (.tmp 87)) = .pointer (some ⟨w.heap.size + 1 + 1, 0, none⟩) := hG ⟨8, .data⟩ (by simp) rfl 87 rfl
                    obtain ⟨v, hr, hv⟩ := run_loadL (ev := a'.eval) (W := W) g87 (hrwant.below hB)
                    exact .inr ⟨rfl, .inl ⟨v, W, hr, Below.refl _ _, hv⟩⟩
                  | 10, ho =>
                    obtain rfl : _ = o := Option.some.inj ho
                    obtain rfl : 89 = d := Option.some.inj hd
                    exact .inr ⟨rfl, .inl ⟨_, W, run_move (hk 13 (by kernel_rfl)), Below.refl _ _, rfl⟩⟩
                  | 11, ho =>
                    obtain rfl : _ = o := Option.some.inj ho
                    obtain rfl : 90 = d := Option.some.inj hd
                    have g88 : LV want (a'.eval (.tmp 88)) W := hG ⟨9, .data⟩ (by simp) rfl 88 rfl
                    have g89 : (a'.eval (.tmp 89)) = .int .i64 cs[k] := hG ⟨10, .data⟩ (by simp) rfl 89 rfl
                    exact .inr ⟨rfl, .inr ⟨_, _, run_call rfl map_2 ent_gatehouseref01_At, rAt_c' g88 g89⟩⟩
                  | 12, ho =>
                    obtain rfl : _ = o := Option.some.inj ho
                    obtain rfl : 14 = d := Option.some.inj hd
                    have g82 : (a'.eval (.tmp 82)) = .int .i64 (aM t cs[k]) := hG ⟨3, .data⟩ (by simp) rfl 82 rfl
                    exact .inr ⟨rfl, .inl ⟨_, W, run_assign rfl, Below.refl _ _, g82⟩⟩
                  | 13, ho =>
                    obtain rfl : _ = o := Option.some.inj ho
                    obtain rfl : 15 = d := Option.some.inj hd
                    have g86 : (a'.eval (.tmp 86)) = .int .i64 (aM g cs[k]) := hG ⟨7, .data⟩ (by simp) rfl 86 rfl
                    exact .inr ⟨rfl, .inl ⟨_, W, run_assign rfl, Below.refl _ _, g86⟩⟩
                  | 14, ho =>
                    obtain rfl : _ = o := Option.some.inj ho
                    obtain rfl : 16 = d := Option.some.inj hd
                    have g90 : (a'.eval (.tmp 90)) = .int .i64 (aM want cs[k]) := hG ⟨11, .data⟩ (by simp) rfl 90 rfl
                    exact .inr ⟨rfl, .inl ⟨_, W, run_assign rfl, Below.refl _ _, g90⟩⟩
                  | j + 15, ho => simp at ho
                · intro a' W hB hs hdf hk hG
                  obtain ⟨tm, df⟩ := a'
                  obtain rfl : df = [] := hdf
                  have e0 : tm.getD 0 undef = .agg #[.int .i64 t.fst, .slice pt t.snd.length ct, .int .i64 tc.fst, .slice ptc tc.snd.length ctc] := hk 0 (by kernel_rfl)
                  have e1 : tm.getD 1 undef = .agg #[.int .i64 g.fst, .slice pg g.snd.length cg, .int .i64 gc.fst, .slice pgc gc.snd.length cgc] := hk 1 (by kernel_rfl)
                  have e2 : tm.getD 2 undef = .agg #[.int .i64 want.fst, .slice pwant want.snd.length cwant, .int .i64 wc.fst, .slice pwc wc.snd.length cwc] := hk 2 (by kernel_rfl)
                  have e3 : tm.getD 3 undef = .int .i64 cat := hk 3 (by kernel_rfl)
                  have e4 : tm.getD 4 undef = .pointer (some ⟨w.heap.size, 0, none⟩) := hk 4 (by kernel_rfl)
                  have e5 : tm.getD 5 undef = .pointer (some ⟨w.heap.size + 1, 0, none⟩) := hk 5 (by kernel_rfl)
                  have e6 : tm.getD 6 undef = .pointer (some ⟨w.heap.size + 1 + 1, 0, none⟩) := hk 6 (by kernel_rfl)
                  have e7 : tm.getD 7 undef = undef := hk 7 (by kernel_rfl)
                  have e8 : tm.getD 8 undef = u8 := hk 8 (by kernel_rfl)
                  have e9 : tm.getD 9 undef = .int .i64 xe := hk 9 (by kernel_rfl)
                  have e10 : tm.getD 10 undef = .int .i64 xf := hk 10 (by kernel_rfl)
                  have e11 : tm.getD 11 undef = .slice (some ⟨gz, 0, none⟩) cs.length cz2 := hk 11 (by kernel_rfl)
                  have e12 : tm.getD 12 undef = undef := hk 12 (by kernel_rfl)
                  have e13 : tm.getD 13 undef = .int .i64 cs[k] := hk 13 (by kernel_rfl)
                  have e17 : tm.getD 17 undef = .bool true := hk 17 (by kernel_rfl)
                  have e18 : tm.getD 18 undef = .bool false := hk 18 (by kernel_rfl)
                  have e19 : tm.getD 19 undef = .pointer (some ⟨w.heap.size, 2, none⟩) := hk 19 (by kernel_rfl)
                  have e20 : tm.getD 20 undef = t20 := hk 20 (by kernel_rfl)
                  have e21 : tm.getD 21 undef = .pointer (some ⟨w.heap.size + 1, 2, none⟩) := hk 21 (by kernel_rfl)
                  have e22 : tm.getD 22 undef = t22 := hk 22 (by kernel_rfl)
                  have e23 : tm.getD 23 undef = .pointer (some ⟨w.heap.size + 1 + 1, 0, none⟩) := hk 23 (by kernel_rfl)
                  have e24 : tm.getD 24 undef = t24 := hk 24 (by kernel_rfl)
                  have e25 : tm.getD 25 undef = .pointer (some ⟨w.heap.size + 1 + 1, 2, none⟩) := hk 25 (by kernel_rfl)
                  have e26 : tm.getD 26 undef = t26 := hk 26 (by kernel_rfl)
                  have e27 : tm.getD 27 undef = t27 := hk 27 (by kernel_rfl)
                  have e28 : tm.getD 28 undef = .bool (rightM tc && (rightM gc && (rightM want && rightM wc))) := hk 28 (by kernel_rfl)
                  have e29 : tm.getD 29 undef = .bool (!rightM tc || (!rightM gc || (!rightM want || !rightM wc))) := hk 29 (by kernel_rfl)
                  have e30 : tm.getD 30 undef = .bool (!rightM tc || (!rightM gc || (!rightM want || !rightM wc))) := hk 30 (by kernel_rfl)
                  have e31 : tm.getD 31 undef = t31 := hk 31 (by kernel_rfl)
                  have e32 : tm.getD 32 undef = t32 := hk 32 (by kernel_rfl)
                  have e33 : tm.getD 33 undef = t33 := hk 33 (by kernel_rfl)
                  have e34 : tm.getD 34 undef = t34 := hk 34 (by kernel_rfl)
                  have e35 : tm.getD 35 undef = .bool (!rightM tc || (!rightM gc || (!rightM want || !rightM wc)) || !plainS t.fst t.snd) := hk 35 (by kernel_rfl)
                  have e36 : tm.getD 36 undef = .bool (!rightM tc || (!rightM gc || (!rightM want || !rightM wc)) || !plainS t.fst t.snd) := hk 36 (by kernel_rfl)
                  have e37 : tm.getD 37 undef = t37 := hk 37 (by kernel_rfl)
                  have e38 : tm.getD 38 undef = t38 := hk 38 (by kernel_rfl)
                  have e39 : tm.getD 39 undef = t39 := hk 39 (by kernel_rfl)
                  have e40 : tm.getD 40 undef = t40 := hk 40 (by kernel_rfl)
                  have e41 : tm.getD 41 undef = .bool false := hk 41 (by kernel_rfl)
                  have e42 : tm.getD 42 undef = .pointer (some ⟨w.heap.size, 0, none⟩) := hk 42 (by kernel_rfl)
                  have e43 : tm.getD 43 undef = t43 := hk 43 (by kernel_rfl)
                  have e44 : tm.getD 44 undef = .pointer (some ⟨w.heap.size, 2, none⟩) := hk 44 (by kernel_rfl)
                  have e45 : tm.getD 45 undef = t45 := hk 45 (by kernel_rfl)
                  have e46 : tm.getD 46 undef = .pointer (some ⟨w.heap.size + 1, 0, none⟩) := hk 46 (by kernel_rfl)
                  have e47 : tm.getD 47 undef = t47 := hk 47 (by kernel_rfl)
                  have e48 : tm.getD 48 undef = .pointer (some ⟨w.heap.size + 1, 2, none⟩) := hk 48 (by kernel_rfl)
                  have e49 : tm.getD 49 undef = t49 := hk 49 (by kernel_rfl)
                  have e50 : tm.getD 50 undef = .pointer (some ⟨w.heap.size + 1 + 1, 0, none⟩) := hk 50 (by kernel_rfl)
                  have e51 : tm.getD 51 undef = t51 := hk 51 (by kernel_rfl)
                  have e52 : tm.getD 52 undef = .pointer (some ⟨w.heap.size + 1 + 1, 2, none⟩) := hk 52 (by kernel_rfl)
                  have e53 : tm.getD 53 undef = t53 := hk 53 (by kernel_rfl)
                  have e54 : tm.getD 54 undef = .int .i64 xe := hk 54 (by kernel_rfl)
                  have e55 : tm.getD 55 undef = .pointer (some ⟨w.heap.size, 0, none⟩) := hk 55 (by kernel_rfl)
                  have e56 : tm.getD 56 undef = t56 := hk 56 (by kernel_rfl)
                  have e57 : tm.getD 57 undef = .pointer (some ⟨w.heap.size, 2, none⟩) := hk 57 (by kernel_rfl)
                  have e58 : tm.getD 58 undef = t58 := hk 58 (by kernel_rfl)
                  have e59 : tm.getD 59 undef = .pointer (some ⟨w.heap.size + 1 + 1, 0, none⟩) := hk 59 (by kernel_rfl)
                  have e60 : tm.getD 60 undef = t60 := hk 60 (by kernel_rfl)
                  have e61 : tm.getD 61 undef = .int .i64 xf := hk 61 (by kernel_rfl)
                  have e62 : tm.getD 62 undef = .pointer (some ⟨w.heap.size, 0, none⟩) := hk 62 (by kernel_rfl)
                  have e63 : tm.getD 63 undef = t63 := hk 63 (by kernel_rfl)
                  have e64 : tm.getD 64 undef = .pointer (some ⟨w.heap.size + 1, 0, none⟩) := hk 64 (by kernel_rfl)
                  have e65 : tm.getD 65 undef = t65 := hk 65 (by kernel_rfl)
                  have e66 : tm.getD 66 undef = .pointer (some ⟨w.heap.size + 1 + 1, 0, none⟩) := hk 66 (by kernel_rfl)
                  have e67 : tm.getD 67 undef = t67 := hk 67 (by kernel_rfl)
                  have e68 : tm.getD 68 undef = t68 := hk 68 (by kernel_rfl)
                  have e69 : tm.getD 69 undef = .slice (some ⟨gq, 0, none⟩) T.length cz := hk 69 (by kernel_rfl)
                  have e70 : tm.getD 70 undef = .int .i64 cat := hk 70 (by kernel_rfl)
                  have e71 : tm.getD 71 undef = .slice (some ⟨gi, 0, none⟩) 1 1 := hk 71 (by kernel_rfl)
                  have e72 : tm.getD 72 undef = .slice (some ⟨gz, 0, none⟩) cs.length cz2 := hk 72 (by kernel_rfl)
                  have e73 : tm.getD 73 undef = .slice (some ⟨gz, 0, none⟩) cs.length cz2 := hk 73 (by kernel_rfl)
                  have e74 : tm.getD 74 undef = .int .i64 cs.length := hk 74 (by kernel_rfl)
                  have e75 : tm.getD 75 undef = .int .i64 k := hk 75 (by kernel_rfl)
                  have e76 : tm.getD 76 undef = .bool true := hk 76 (by kernel_rfl)
                  have e77 : tm.getD 77 undef = .pointer (some { block := gz, off := k }) := hk 77 (by kernel_rfl)
                  have e78 : tm.getD 78 undef = .int .i64 cs[k] := hk 78 (by kernel_rfl)
                  have e91 : tm.getD 91 undef = u91 := hk 91 (by kernel_rfl)
                  have e92 : tm.getD 92 undef = u92 := hk 92 (by kernel_rfl)
                  have e93 : tm.getD 93 undef = u93 := hk 93 (by kernel_rfl)
                  have e94 : tm.getD 94 undef = u94 := hk 94 (by kernel_rfl)
                  have e95 : tm.getD 95 undef = u95 := hk 95 (by kernel_rfl)
                  have e96 : tm.getD 96 undef = u96 := hk 96 (by kernel_rfl)
                  have e97 : tm.getD 97 undef = u97 := hk 97 (by kernel_rfl)
                  have e98 : tm.getD 98 undef = u98 := hk 98 (by kernel_rfl)
                  have e99 : tm.getD 99 undef = u99 := hk 99 (by kernel_rfl)
                  have e100 : tm.getD 100 undef = u100 := hk 100 (by kernel_rfl)
                  have e101 : tm.getD 101 undef = u101 := hk 101 (by kernel_rfl)
                  have e102 : tm.getD 102 undef = u102 := hk 102 (by kernel_rfl)
                  have e103 : tm.getD 103 undef = u103 := hk 103 (by kernel_rfl)
                  have e104 : tm.getD 104 undef = u104 := hk 104 (by kernel_rfl)
                  have e105 : tm.getD 105 undef = u105 := hk 105 (by kernel_rfl)
                  have e106 : tm.getD 106 undef = u106 := hk 106 (by kernel_rfl)
                  have e107 : tm.getD 107 undef = u107 := hk 107 (by kernel_rfl)
                  have e108 : tm.getD 108 undef = u108 := hk 108 (by kernel_rfl)
                  have e109 : tm.getD 109 undef = u109 := hk 109 (by kernel_rfl)
                  have e110 : tm.getD 110 undef = u110 := hk 110 (by kernel_rfl)
                  have e111 : tm.getD 111 undef = u111 := hk 111 (by kernel_rfl)
                  have e112 : tm.getD 112 undef = u112 := hk 112 (by kernel_rfl)
                  have e113 : tm.getD 113 undef = u113 := hk 113 (by kernel_rfl)
                  have e114 : tm.getD 114 undef = u114 := hk 114 (by kernel_rfl)
                  have e115 : tm.getD 115 undef = u115 := hk 115 (by kernel_rfl)
                  have g79 : (tm.getD 79 undef) = .pointer (some ⟨w.heap.size, 0, none⟩) := hG 0 79 (by decide) rfl
                  have g80 : LV t (tm.getD 80 undef) W := hG 1 80 (by decide) rfl
                  have g81 : (tm.getD 81 undef) = .int .i64 cs[k] := hG 2 81 (by decide) rfl
                  have g82 : (tm.getD 82 undef) = .int .i64 (aM t cs[k]) := hG 3 82 (by decide) rfl
                  have g83 : (tm.getD 83 undef) = .pointer (some ⟨w.heap.size + 1, 0, none⟩) := hG 4 83 (by decide) rfl
                  have g84 : LV g (tm.getD 84 undef) W := hG 5 84 (by decide) rfl
                  have g85 : (tm.getD 85 undef) = .int .i64 cs[k] := hG 6 85 (by decide) rfl
                  have g86 : (tm.getD 86 undef) = .int .i64 (aM g cs[k]) := hG 7 86 (by decide) rfl
                  have g87 : (tm.getD 87 undef) = .pointer (some ⟨w.heap.size + 1 + 1, 0, none⟩) := hG 8 87 (by decide) rfl
                  have g88 : LV want (tm.getD 88 undef) W := hG 9 88 (by decide) rfl
                  have g89 : (tm.getD 89 undef) = .int .i64 cs[k] := hG 10 89 (by decide) rfl
                  have g90 : (tm.getD 90 undef) = .int .i64 (aM want cs[k]) := hG 11 90 (by decide) rfl
                  have g14 : (tm.getD 14 undef) = .int .i64 (aM t cs[k]) := hG 12 14 (by decide) rfl
                  have g15 : (tm.getD 15 undef) = .int .i64 (aM g cs[k]) := hG 13 15 (by decide) rfl
                  have g16 : (tm.getD 16 undef) = .int .i64 (aM want cs[k]) := hG 14 16 (by decide) rfl
                  have htm := arr_of tm ((.agg #[.int .i64 t.fst, .slice pt t.snd.length ct, .int .i64 tc.fst, .slice ptc tc.snd.length ctc] : Value) :: (.agg #[.int .i64 g.fst, .slice pg g.snd.length cg, .int .i64 gc.fst, .slice pgc gc.snd.length cgc] : Value) :: (.agg #[.int .i64 want.fst, .slice pwant want.snd.length cwant, .int .i64 wc.fst, .slice pwc wc.snd.length cwc] : Value) :: (.int .i64 cat : Value) :: (.pointer (some ⟨w.heap.size, 0, none⟩) : Value) :: (.pointer (some ⟨w.heap.size + 1, 0, none⟩) : Value) :: (.pointer (some ⟨w.heap.size + 1 + 1, 0, none⟩) : Value) :: (undef : Value) :: (u8 : Value) :: (.int .i64 xe : Value) :: (.int .i64 xf : Value) :: (.slice (some ⟨gz, 0, none⟩) cs.length cz2 : Value) :: (undef : Value) :: (.int .i64 cs[k] : Value) :: (tm.getD 14 undef : Value) :: (tm.getD 15 undef : Value) :: (tm.getD 16 undef : Value) :: (.bool true : Value) :: (.bool false : Value) :: (.pointer (some ⟨w.heap.size, 2, none⟩) : Value) :: (t20 : Value) :: (.pointer (some ⟨w.heap.size + 1, 2, none⟩) : Value) :: (t22 : Value) :: (.pointer (some ⟨w.heap.size + 1 + 1, 0, none⟩) : Value) :: (t24 : Value) :: (.pointer (some ⟨w.heap.size + 1 + 1, 2, none⟩) : Value) :: (t26 : Value) :: (t27 : Value) :: (.bool (rightM tc && (rightM gc && (rightM want && rightM wc))) : Value) :: (.bool (!rightM tc || (!rightM gc || (!rightM want || !rightM wc))) : Value) :: (.bool (!rightM tc || (!rightM gc || (!rightM want || !rightM wc))) : Value) :: (t31 : Value) :: (t32 : Value) :: (t33 : Value) :: (t34 : Value) :: (.bool (!rightM tc || (!rightM gc || (!rightM want || !rightM wc)) || !plainS t.fst t.snd) : Value) :: (.bool (!rightM tc || (!rightM gc || (!rightM want || !rightM wc)) || !plainS t.fst t.snd) : Value) :: (t37 : Value) :: (t38 : Value) :: (t39 : Value) :: (t40 : Value) :: (.bool false : Value) :: (.pointer (some ⟨w.heap.size, 0, none⟩) : Value) :: (t43 : Value) :: (.pointer (some ⟨w.heap.size, 2, none⟩) : Value) :: (t45 : Value) :: (.pointer (some ⟨w.heap.size + 1, 0, none⟩) : Value) :: (t47 : Value) :: (.pointer (some ⟨w.heap.size + 1, 2, none⟩) : Value) :: (t49 : Value) :: (.pointer (some ⟨w.heap.size + 1 + 1, 0, none⟩) : Value) :: (t51 : Value) :: (.pointer (some ⟨w.heap.size + 1 + 1, 2, none⟩) : Value) :: (t53 : Value) :: (.int .i64 xe : Value) :: (.pointer (some ⟨w.heap.size, 0, none⟩) : Value) :: (t56 : Value) :: (.pointer (some ⟨w.heap.size, 2, none⟩) : Value) :: (t58 : Value) :: (.pointer (some ⟨w.heap.size + 1 + 1, 0, none⟩) : Value) :: (t60 : Value) :: (.int .i64 xf : Value) :: (.pointer (some ⟨w.heap.size, 0, none⟩) : Value) :: (t63 : Value) :: (.pointer (some ⟨w.heap.size + 1, 0, none⟩) : Value) :: (t65 : Value) :: (.pointer (some ⟨w.heap.size + 1 + 1, 0, none⟩) : Value) :: (t67 : Value) :: (t68 : Value) :: (.slice (some ⟨gq, 0, none⟩) T.length cz : Value) :: (.int .i64 cat : Value) :: (.slice (some ⟨gi, 0, none⟩) 1 1 : Value) :: (.slice (some ⟨gz, 0, none⟩) cs.length cz2 : Value) :: (.slice (some ⟨gz, 0, none⟩) cs.length cz2 : Value) :: (.int .i64 cs.length : Value) :: (.int .i64 k : Value) :: (.bool true : Value) :: (.pointer (some { block := gz, off := k }) : Value) :: (.int .i64 cs[k] : Value) :: (tm.getD 79 undef : Value) :: (tm.getD 80 undef : Value) :: (tm.getD 81 undef : Value) :: (tm.getD 82 undef : Value) :: (tm.getD 83 undef : Value) :: (tm.getD 84 undef : Value) :: (tm.getD 85 undef : Value) :: (tm.getD 86 undef : Value) :: (tm.getD 87 undef : Value) :: (tm.getD 88 undef : Value) :: (tm.getD 89 undef : Value) :: (tm.getD 90 undef : Value) :: (u91 : Value) :: (u92 : Value) :: (u93 : Value) :: (u94 : Value) :: (u95 : Value) :: (u96 : Value) :: (u97 : Value) :: (u98 : Value) :: (u99 : Value) :: (u100 : Value) :: (u101 : Value) :: (u102 : Value) :: (u103 : Value) :: (u104 : Value) :: (u105 : Value) :: (u106 : Value) :: (u107 : Value) :: (u108 : Value) :: (u109 : Value) :: (u110 : Value) :: (u111 : Value) :: (u112 : Value) :: (u113 : Value) :: (u114 : Value) :: (u115 : Value) :: []) hs (by show (tm.getD 0 undef :: tm.getD 1 undef :: tm.getD 2 undef :: tm.getD 3 undef :: tm.getD 4 undef :: tm.getD 5 undef :: tm.getD 6 undef :: tm.getD 7 undef :: tm.getD 8 undef :: tm.getD 9 undef :: tm.getD 10 undef :: tm.getD 11 undef :: tm.getD 12 undef :: tm.getD 13 undef :: tm.getD 14 undef :: tm.getD 15 undef :: tm.getD 16 undef :: tm.getD 17 undef :: tm.getD 18 undef :: tm.getD 19 undef :: tm.getD 20 undef :: tm.getD 21 undef :: tm.getD 22 undef :: tm.getD 23 undef :: tm.getD 24 undef :: tm.getD 25 undef :: tm.getD 26 undef :: tm.getD 27 undef :: tm.getD 28 undef :: tm.getD 29 undef :: tm.getD 30 undef :: tm.getD 31 undef :: tm.getD 32 undef :: tm.getD 33 undef :: tm.getD 34 undef :: tm.getD 35 undef :: tm.getD 36 undef :: tm.getD 37 undef :: tm.getD 38 undef :: tm.getD 39 undef :: tm.getD 40 undef :: tm.getD 41 undef :: tm.getD 42 undef :: tm.getD 43 undef :: tm.getD 44 undef :: tm.getD 45 undef :: tm.getD 46 undef :: tm.getD 47 undef :: tm.getD 48 undef :: tm.getD 49 undef :: tm.getD 50 undef :: tm.getD 51 undef :: tm.getD 52 undef :: tm.getD 53 undef :: tm.getD 54 undef :: tm.getD 55 undef :: tm.getD 56 undef :: tm.getD 57 undef :: tm.getD 58 undef :: tm.getD 59 undef :: tm.getD 60 undef :: tm.getD 61 undef :: tm.getD 62 undef :: tm.getD 63 undef :: tm.getD 64 undef :: tm.getD 65 undef :: tm.getD 66 undef :: tm.getD 67 undef :: tm.getD 68 undef :: tm.getD 69 undef :: tm.getD 70 undef :: tm.getD 71 undef :: tm.getD 72 undef :: tm.getD 73 undef :: tm.getD 74 undef :: tm.getD 75 undef :: tm.getD 76 undef :: tm.getD 77 undef :: tm.getD 78 undef :: tm.getD 79 undef :: tm.getD 80 undef :: tm.getD 81 undef :: tm.getD 82 undef :: tm.getD 83 undef :: tm.getD 84 undef :: tm.getD 85 undef :: tm.getD 86 undef :: tm.getD 87 undef :: tm.getD 88 undef :: tm.getD 89 undef :: tm.getD 90 undef :: tm.getD 91 undef :: tm.getD 92 undef :: tm.getD 93 undef :: tm.getD 94 undef :: tm.getD 95 undef :: tm.getD 96 undef :: tm.getD 97 undef :: tm.getD 98 undef :: tm.getD 99 undef :: tm.getD 100 undef :: tm.getD 101 undef :: tm.getD 102 undef :: tm.getD 103 undef :: tm.getD 104 undef :: tm.getD 105 undef :: tm.getD 106 undef :: tm.getD 107 undef :: tm.getD 108 undef :: tm.getD 109 undef :: tm.getD 110 undef :: tm.getD 111 undef :: tm.getD 112 undef :: tm.getD 113 undef :: tm.getD 114 undef :: tm.getD 115 undef :: []) = _; rw [e0, e1, e2, e3, e4, e5, e6, e7, e8, e9, e10, e11, e12, e13, e17, e18, e19, e20, e21, e22, e23, e24, e25, e26, e27, e28, e29, e30, e31, e32, e33, e34, e35, e36, e37, e38, e39, e40, e41, e42, e43, e44, e45, e46, e47, e48, e49, e50, e51, e52, e53, e54, e55, e56, e57, e58, e59, e60, e61, e62, e63, e64, e65, e66, e67, e68, e69, e70, e71, e72, e73, e74, e75, e76, e77, e78, e91, e92, e93, e94, e95, e96, e97, e98, e99, e100, e101, e102, e103, e104, e105, e106, e107, e108, e109, e110, e111, e112, e113, e114, e115]; try rfl)
                  clear hs hk hG e0 e1 e2 e3 e4 e5 e6 e7 e8 e9 e10 e11 e12 e13 e17 e18 e19 e20 e21 e22 e23 e24 e25 e26 e27 e28 e29 e30 e31 e32 e33 e34 e35 e36 e37 e38 e39 e40 e41 e42 e43 e44 e45 e46 e47 e48 e49 e50 e51 e52 e53 e54 e55 e56 e57 e58 e59 e60 e61 e62 e63 e64 e65 e66 e67 e68 e69 e70 e71 e72 e73 e74 e75 e76 e77 e78 e91 e92 e93 e94 e95 e96 e97 e98 e99 e100 e101 e102 e103 e104 e105 e106 e107 e108 e109 e110 e111 e112 e113 e114 e115
                  generalize tm.getD 79 undef = t79 at htm g79
                  generalize tm.getD 80 undef = t80 at htm g80
                  generalize tm.getD 81 undef = t81 at htm g81
                  generalize tm.getD 82 undef = t82 at htm g82
                  generalize tm.getD 83 undef = t83 at htm g83
                  generalize tm.getD 84 undef = t84 at htm g84
                  generalize tm.getD 85 undef = t85 at htm g85
                  generalize tm.getD 86 undef = t86 at htm g86
                  generalize tm.getD 87 undef = t87 at htm g87
                  generalize tm.getD 88 undef = t88 at htm g88
                  generalize tm.getD 89 undef = t89 at htm g89
                  generalize tm.getD 90 undef = t90 at htm g90
                  generalize tm.getD 14 undef = t14 at htm g14
                  generalize tm.getD 15 undef = t15 at htm g15
                  generalize tm.getD 16 undef = t16 at htm g16
                  subst htm
                  subst g79
                  subst g81
                  subst g82
                  subst g83
                  subst g85
                  subst g86
                  subst g87
                  subst g89
                  subst g90
                  subst g14
                  subst g15
                  subst g16
                  simp only [List.drop_succ_cons, List.drop_zero]
                  have HB : Hid (Below w5.heap.size w5 W) := hbw.trans (hB.mono hbw.size)
                  have k1 := HF1.out
                  have k2 := HE1.out
                  obtain ⟨x, hx⟩ : ∃ x, aM t cs[k] = x := ⟨_, rfl⟩
                  obtain ⟨y, hy⟩ : ∃ y, aM g cs[k] = y := ⟨_, rfl⟩
                  obtain ⟨z, hz⟩ : ∃ z, aM want cs[k] = z := ⟨_, rfl⟩
                  rw [hx, hz] at k1
                  rw [hx, hy, hz] at k2
                  simp only [hx, hy, hz]
                  clear hx hy hz hB hbw hBw HF1 HE1 hA5 hrt hrtc hrg hrgc hrwant hrwc g80 g84 g88
                  by_cases q1 : xf = 0
                  · have d1 : (xf == 0) = true := by simp [q1]
                    have d5 : decide (z < x) = false := by have := k1 q1; simp; omega
                    clear q1
                    by_cases q2 : xe = 0
                    · have d2 : (xe == 0) = true := by simp [q2]
                      have k3 := k2 q2
                      clear k2 q2
                      by_cases q3 : x = 0
                      · have d3 : (x == 0) = true := by simp [q3]
                        have d3' : (x != 0) = false := by simp [q3]
                        clear k3 q3 k1
                        go_wp2
                        go_roundw
                        case rel => exact ⟨k + 1, by omega, by go_num, HB.out⟩
                        case measure => simp [intOf]; omega
                      · have d3 : (x == 0) = false := by simp [q3]
                        have d3' : (x != 0) = true := by simp [q3]
                        have k4 := k3 q3
                        clear k3 q3
                        by_cases q4 : y = 0
                        · have d4 : (y == 0) = true := by simp [q4]
                          have d4' : (y != 0) = false := by simp [q4]
                          clear k4 q4 k1
                          go_wp2
                          go_roundw
                          case rel => exact ⟨k + 1, by omega, by go_num, HB.out⟩
                          case measure => simp [intOf]; omega
                        · have d4 : (y == 0) = false := by simp [q4]
                          have d4' : (y != 0) = true := by simp [q4]
                          clear k4 q4 k1
                          go_wp2
                          go_roundw
                          case rel => exact ⟨k + 1, by omega, by go_num, HB.out⟩
                          case measure => simp [intOf]; omega
                    · have d2 : (xe == 0) = false := by simp [q2]
                      clear k2 q2 k1
                      go_wp2
                      go_roundw
                      case rel => exact ⟨k + 1, by omega, by go_num, HB.out⟩
                      case measure => simp [intOf]; omega
                  · have d1 : (xf == 0) = false := by simp [q1]
                    clear q1
                    by_cases q2 : xe = 0
                    · have d2 : (xe == 0) = true := by simp [q2]
                      have k3 := k2 q2
                      clear k2 q2
                      by_cases q3 : x = 0
                      · have d3 : (x == 0) = true := by simp [q3]
                        have d3' : (x != 0) = false := by simp [q3]
                        clear k3 q3 k1
                        go_wp2
                        go_roundw
                        case rel => exact ⟨k + 1, by omega, by go_num, HB.out⟩
                        case measure => simp [intOf]; omega
                      · have d3 : (x == 0) = false := by simp [q3]
                        have d3' : (x != 0) = true := by simp [q3]
                        have k4 := k3 q3
                        clear k3 q3
                        by_cases q4 : y = 0
                        · have d4 : (y == 0) = true := by simp [q4]
                          have d4' : (y != 0) = false := by simp [q4]
                          clear k4 q4 k1
                          go_wp2
                          go_roundw
                          case rel => exact ⟨k + 1, by omega, by go_num, HB.out⟩
                          case measure => simp [intOf]; omega
                        · have d4 : (y == 0) = false := by simp [q4]
                          have d4' : (y != 0) = true := by simp [q4]
                          have k5 := k4 q4
                          have d5 : decide (z < x) = false := by simp; omega
                          clear k4 q4 k5 k1
                          go_wp2
                          go_roundw
                          case rel => exact ⟨k + 1, by omega, by go_num, HB.out⟩
                          case measure => simp [intOf]; omega
                    · have d2 : (xe == 0) = false := by simp [q2]
                      clear k2 q2 k1
                      go_wp2
                      go_roundw
                      case rel => exact ⟨k + 1, by omega, by go_num, HB.out⟩
                      case measure => simp [intOf]; omega
              · obtain rfl : k = cs.length := by omega
                have hkk : ¬ (cs.length : Int) < (cs.length : Int) := by omega
                clear HI HKF HKE
                go_wp2
                go_ret
                exact ⟨rfl, hBw⟩
end Go.Proofs.Ytnjmgholoigpkaa
