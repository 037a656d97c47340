/- PassageTaints: the walk of the statement. -/
import Derived.Test.YtnjmgholoigpkaaGen2
namespace Go.Proofs.Ytnjmgholoigpkaa
open Go.RowKit Go.Sort
set_option maxRecDepth 100000 in
set_option maxHeartbeats 2000000 in
theorem PassageTaints_any (t tc box l : ML) (cat : Int) (pt ptc pbox pl : Option Addr) (ct ctc cbox cl : Nat) (w : World) (ht : CatsAt w pt t.2) (lt : t.2.length ≤ ct) (mt : t.2.length ≤ maxLen) (htc : CatsAt w ptc tc.2) (ltc : tc.2.length ≤ ctc) (mtc : tc.2.length ≤ maxLen) (hbox : CatsAt w pbox box.2) (lbox : box.2.length ≤ cbox) (mbox : box.2.length ≤ maxLen) (hl : CatsAt w pl l.2) (ll : l.2.length ≤ cl) (ml : l.2.length ≤ maxLen) :
    Calls Try.prog 8 #[.agg #[.int .i64 t.1, .slice pt t.2.length ct, .int .i64 tc.1, .slice ptc tc.2.length ctc], .agg #[.int .i64 box.1, .slice pbox box.2.length cbox], .agg #[.int .i64 l.1, .slice pl l.2.length cl], .int .i64 cat] w fun e w' => e = .returned (.bool true) ∧ Below w.heap.size w w' := by
  obtain ⟨W0, hW0⟩ : ∃ W0, W0 = (((w.alloc (.cells #[.int .i64 t.1, .slice pt t.2.length ct, .int .i64 tc.1, .slice ptc tc.2.length ctc] 26)).alloc (.cells #[.int .i64 box.1, .slice pbox box.2.length cbox] 24)).alloc (.cells #[.int .i64 l.1, .slice pl l.2.length cl] 24)) := ⟨_, rfl⟩
  have hA : Below w.heap.size w W0 := by rw [hW0]; go_grown
  have hbt : LBg t W0 (w.heap.size) 0 := ⟨pt, ct, by rw [hW0]; simp <;> omega, by rw [hW0]; simp [go_sem], by rw [hW0]; simp [go_sem], ht.below hA, lt, mt⟩
  have hbtc : LBg tc W0 (w.heap.size) 2 := ⟨ptc, ctc, by rw [hW0]; simp <;> omega, by rw [hW0]; simp [go_sem], by rw [hW0]; simp [go_sem], htc.below hA, ltc, mtc⟩
  have hbbox : LBg box W0 (w.heap.size + 1) 0 := ⟨pbox, cbox, by rw [hW0]; simp <;> omega, by rw [hW0]; simp [go_sem], by rw [hW0]; simp [go_sem], hbox.below hA, lbox, mbox⟩
  have hbl : LBg l W0 (w.heap.size + 1 + 1) 0 := ⟨pl, cl, by rw [hW0]; simp <;> omega, by rw [hW0]; simp [go_sem], by rw [hW0]; simp [go_sem], hl.below hA, ll, ml⟩
  go_enter Try.func8, Try.ntmps8
  go_upto_region 3 with (go_at_call 9; rw [← hW0]; refine (lives_c _).mono ?_; rintro e w1 ⟨rfl, hb1⟩)
  have hct := hbt.below hb1
  have hctc := hbtc.below hb1
  have hcbox := hbbox.below hb1
  have hcl := hbl.below hb1
  have hA1 : Below w.heap.size w w1 := hA.trans (hb1.mono hA.size)
  refine wp_region_monoF 17 (fun kq v W => match kq with | 16 => v = .pointer (some ⟨w.heap.size, 2, none⟩) | 17 => LVg tc v W | 18 => LVg box v W | 19 => LsVg [tc, box] v W | 20 => v = .bool ([tc, box].all rightM) | 21 => v = .bool (!([tc, box].all rightM)) | 22 => v = .bool (!([tc, box].all rightM)) | 23 => ((!([tc, box].all rightM)) = false → v = .pointer (some ⟨w.heap.size, 0, none⟩)) | 24 => ((!([tc, box].all rightM)) = false → LVg t v W) | 25 => ((!([tc, box].all rightM)) = false → v = .bool (plainS t.1 t.2)) | 26 => ((!([tc, box].all rightM)) = false → v = .bool (!(plainS t.1 t.2))) | 27 => v = .bool ((!([tc, box].all rightM)) || (!(plainS t.1 t.2))) | 28 => v = .bool ((!([tc, box].all rightM)) || (!(plainS t.1 t.2))) | 29 => (((!([tc, box].all rightM)) || (!(plainS t.1 t.2))) = false → LVg l v W) | 30 => (((!([tc, box].all rightM)) || (!(plainS t.1 t.2))) = false → v = .bool (freeS l.1 l.2)) | 31 => (((!([tc, box].all rightM)) || (!(plainS t.1 t.2))) = false → v = .bool (!(freeS l.1 l.2))) | 32 => v = .bool (((!([tc, box].all rightM)) || (!(plainS t.1 t.2))) || (!(freeS l.1 l.2))) | _ => True) (by kernel_rfl) (by kernel_rfl) (by simp) ?_ ?_ ?_
  · intro kq v W W' h hb
    revert h
    try dsimp only
    split
    · intro h; exact h
    · intro h; exact LVg.below h hb
    · intro h; exact LVg.below h hb
    · intro h; exact LsVg.below h hb
    · intro h; exact h
    · intro h; exact h
    · intro h; exact h
    · intro h' e; have h := h' e; exact h
    · intro h' e; have h := h' e; exact LVg.below h hb
    · intro h' e; have h := h' e; exact h
    · intro h' e; have h := h' e; exact h
    · intro h; exact h
    · intro h; exact h
    · intro h' e; have h := h' e; exact LVg.below h hb
    · intro h' e; have h := h' e; exact h
    · intro h' e; have h := h' e; exact h
    · intro h; exact h
    · intro h; trivial
  · intro a' W hB hs hk i o d ho hd hG
    match i, ho with
    | 0, ho =>
      obtain rfl : _ = o := Option.some.inj ho
      obtain rfl : 16 = d := Option.some.inj hd
      exact .inr ⟨rfl, .inl ⟨_, W, run_fa1 (hk 4 (by kernel_rfl)), Below.refl _ _, rfl⟩⟩
    | 1, ho =>
      obtain rfl : _ = o := Option.some.inj ho
      obtain rfl : 17 = d := Option.some.inj hd
      have g16 : (a'.eval (.tmp 16)) = .pointer (some ⟨w.heap.size, 2, none⟩) := hG ⟨0, .data⟩ (by simp) rfl 16 rfl
      obtain ⟨v, hr, hv⟩ := run_loadLg (ev := a'.eval) (W := W) g16 (hctc.below hB)
      exact .inr ⟨rfl, .inl ⟨v, W, hr, Below.refl _ _, hv⟩⟩
    | 2, ho =>
      obtain rfl : _ = o := Option.some.inj ho
      obtain rfl : 18 = d := Option.some.inj hd
      obtain ⟨v, hr, hv⟩ := run_loadLg (ev := a'.eval) (W := W) (hk 5 (by kernel_rfl)) (hcbox.below hB)
      exact .inr ⟨rfl, .inl ⟨v, W, hr, Below.refl _ _, hv⟩⟩
    | 3, ho =>
      obtain rfl : _ = o := Option.some.inj ho
      obtain rfl : 19 = d := Option.some.inj hd
      have g17 : LVg tc (a'.eval (.tmp 17)) W := hG ⟨1, .data⟩ (by simp) rfl 17 rfl
      have g18 : LVg box (a'.eval (.tmp 18)) W := hG ⟨2, .data⟩ (by simp) rfl 18 rfl
      obtain ⟨v, W', hr, hb, hv⟩ := run_slice2g (ev := a'.eval) (W := W) rfl rfl g17 g18
      exact .inr ⟨rfl, .inl ⟨v, W', hr, hb, hv⟩⟩
    | 4, ho =>
      obtain rfl : _ = o := Option.some.inj ho
      obtain rfl : 20 = d := Option.some.inj hd
      have g19 : LsVg [tc, box] (a'.eval (.tmp 19)) W := hG ⟨3, .data⟩ (by simp) rfl 19 rfl
      exact .inr ⟨rfl, .inr ⟨_, _, run_call rfl map_1 ent_gatehouselaw07_right, right_c g19 (by simp)⟩⟩
    | 5, ho =>
      obtain rfl : _ = o := Option.some.inj ho
      obtain rfl : 21 = d := Option.some.inj hd
      have g20 : (a'.eval (.tmp 20)) = .bool ([tc, box].all rightM) := hG ⟨4, .data⟩ (by simp) rfl 20 rfl
      exact .inr ⟨rfl, .inl ⟨_, W, run_not g20, Below.refl _ _, rfl⟩⟩
    | 6, ho =>
      obtain rfl : _ = o := Option.some.inj ho
      obtain rfl : 22 = d := Option.some.inj hd
      have g21 : (a'.eval (.tmp 21)) = .bool (!([tc, box].all rightM)) := hG ⟨5, .data⟩ (by simp) rfl 21 rfl
      exact .inr ⟨rfl, .inl ⟨_, W, run_move rfl, Below.refl _ _, g21⟩⟩
    | 7, ho =>
      obtain rfl : _ = o := Option.some.inj ho
      obtain rfl : 23 = d := Option.some.inj hd
      have gg : a'.eval (.tmp 22) = .bool (!([tc, box].all rightM)) := hG ⟨6, .guard⟩ (by simp) rfl 22 rfl
      by_cases hgc_ : (!([tc, box].all rightM)) = false
      · exact .inr ⟨want_yes (n := 87) (d := 22) rfl hs (by decide) rfl (gg.trans (by rw [hgc_])), .inl ⟨_, W, run_fa0 (hk 4 (by kernel_rfl)), Below.refl _ _, fun _ => rfl⟩⟩
      · exact .inl ⟨want_no (n := 87) (d := 22) rfl hs (by decide) rfl gg hgc_, fun e => absurd e hgc_⟩
    | 8, ho =>
      obtain rfl : _ = o := Option.some.inj ho
      obtain rfl : 24 = d := Option.some.inj hd
      have gg : a'.eval (.tmp 22) = .bool (!([tc, box].all rightM)) := hG ⟨6, .guard⟩ (by simp) rfl 22 rfl
      by_cases hgc_ : (!([tc, box].all rightM)) = false
      · have g23 : (a'.eval (.tmp 23)) = .pointer (some ⟨w.heap.size, 0, none⟩) := hG ⟨7, .data⟩ (by simp) rfl 23 rfl hgc_
        obtain ⟨v, hr, hv⟩ := run_loadLg (ev := a'.eval) (W := W) g23 (hct.below hB)
        exact .inr ⟨want_yes (n := 87) (d := 22) rfl hs (by decide) rfl (gg.trans (by rw [hgc_])), .inl ⟨v, W, hr, Below.refl _ _, fun _ => hv⟩⟩
      · exact .inl ⟨want_no (n := 87) (d := 22) rfl hs (by decide) rfl gg hgc_, fun e => absurd e hgc_⟩
    | 9, ho =>
      obtain rfl : _ = o := Option.some.inj ho
      obtain rfl : 25 = d := Option.some.inj hd
      have gg : a'.eval (.tmp 22) = .bool (!([tc, box].all rightM)) := hG ⟨6, .guard⟩ (by simp) rfl 22 rfl
      by_cases hgc_ : (!([tc, box].all rightM)) = false
      · have g24 : LVg t (a'.eval (.tmp 24)) W := hG ⟨8, .data⟩ (by simp) rfl 24 rfl hgc_
        exact .inr ⟨want_yes (n := 87) (d := 22) rfl hs (by decide) rfl (gg.trans (by rw [hgc_])), .inr ⟨_, _, run_call rfl map_1 ent_gatehouseref01_Plain, (gPlain_c g24).mono (fun e W' ⟨v, he, hb, hv⟩ => ⟨v, he, hb, fun _ => hv⟩)⟩⟩
      · exact .inl ⟨want_no (n := 87) (d := 22) rfl hs (by decide) rfl gg hgc_, fun e => absurd e hgc_⟩
    | 10, ho =>
      obtain rfl : _ = o := Option.some.inj ho
      obtain rfl : 26 = d := Option.some.inj hd
      have gg : a'.eval (.tmp 22) = .bool (!([tc, box].all rightM)) := hG ⟨6, .guard⟩ (by simp) rfl 22 rfl
      by_cases hgc_ : (!([tc, box].all rightM)) = false
      · have g25 : (a'.eval (.tmp 25)) = .bool (plainS t.1 t.2) := hG ⟨9, .data⟩ (by simp) rfl 25 rfl hgc_
        exact .inr ⟨want_yes (n := 87) (d := 22) rfl hs (by decide) rfl (gg.trans (by rw [hgc_])), .inl ⟨_, W, run_not g25, Below.refl _ _, fun _ => rfl⟩⟩
      · exact .inl ⟨want_no (n := 87) (d := 22) rfl hs (by decide) rfl gg hgc_, fun e => absurd e hgc_⟩
    | 11, ho =>
      obtain rfl : _ = o := Option.some.inj ho
      obtain rfl : 27 = d := Option.some.inj hd
      have g22 : (a'.eval (.tmp 22)) = .bool (!([tc, box].all rightM)) := hG ⟨6, .data⟩ (by simp) rfl 22 rfl
      by_cases hq : (!([tc, box].all rightM)) = true
      · exact .inr ⟨rfl, .inl ⟨_, W, run_pick_yes (g22.trans (by rw [hq])) rfl, Below.refl _ _, by rw [hq]; rfl⟩⟩
      · have hq' : (!([tc, box].all rightM)) = false := by simpa using hq
        exact .inr ⟨rfl, .inl ⟨_, W, run_pick_no (g22.trans (by rw [hq'])) (hG ⟨10, .data⟩ (by simp) rfl 26 rfl hq'), Below.refl _ _, by rw [hq']; rfl⟩⟩
    | 12, ho =>
      obtain rfl : _ = o := Option.some.inj ho
      obtain rfl : 28 = d := Option.some.inj hd
      have g27 : (a'.eval (.tmp 27)) = .bool ((!([tc, box].all rightM)) || (!(plainS t.1 t.2))) := hG ⟨11, .data⟩ (by simp) rfl 27 rfl
      exact .inr ⟨rfl, .inl ⟨_, W, run_move rfl, Below.refl _ _, g27⟩⟩
    | 13, ho =>
      obtain rfl : _ = o := Option.some.inj ho
      obtain rfl : 29 = d := Option.some.inj hd
      have gg : a'.eval (.tmp 28) = .bool ((!([tc, box].all rightM)) || (!(plainS t.1 t.2))) := hG ⟨12, .guard⟩ (by simp) rfl 28 rfl
      by_cases hgc_ : ((!([tc, box].all rightM)) || (!(plainS t.1 t.2))) = false
      · obtain ⟨v, hr, hv⟩ := run_loadLg (ev := a'.eval) (W := W) (hk 6 (by kernel_rfl)) (hcl.below hB)
        exact .inr ⟨want_yes (n := 87) (d := 28) rfl hs (by decide) rfl (gg.trans (by rw [hgc_])), .inl ⟨v, W, hr, Below.refl _ _, fun _ => hv⟩⟩
      · exact .inl ⟨want_no (n := 87) (d := 28) rfl hs (by decide) rfl gg hgc_, fun e => absurd e hgc_⟩
    | 14, ho =>
      obtain rfl : _ = o := Option.some.inj ho
      obtain rfl : 30 = d := Option.some.inj hd
      have gg : a'.eval (.tmp 28) = .bool ((!([tc, box].all rightM)) || (!(plainS t.1 t.2))) := hG ⟨12, .guard⟩ (by simp) rfl 28 rfl
      by_cases hgc_ : ((!([tc, box].all rightM)) || (!(plainS t.1 t.2))) = false
      · have g29 : LVg l (a'.eval (.tmp 29)) W := hG ⟨13, .data⟩ (by simp) rfl 29 rfl hgc_
        exact .inr ⟨want_yes (n := 87) (d := 28) rfl hs (by decide) rfl (gg.trans (by rw [hgc_])), .inr ⟨_, _, run_call rfl map_1 ent_gatehouseref01_Free, (gFree_c g29).mono (fun e W' ⟨v, he, hb, hv⟩ => ⟨v, he, hb, fun _ => hv⟩)⟩⟩
      · exact .inl ⟨want_no (n := 87) (d := 28) rfl hs (by decide) rfl gg hgc_, fun e => absurd e hgc_⟩
    | 15, ho =>
      obtain rfl : _ = o := Option.some.inj ho
      obtain rfl : 31 = d := Option.some.inj hd
      have gg : a'.eval (.tmp 28) = .bool ((!([tc, box].all rightM)) || (!(plainS t.1 t.2))) := hG ⟨12, .guard⟩ (by simp) rfl 28 rfl
      by_cases hgc_ : ((!([tc, box].all rightM)) || (!(plainS t.1 t.2))) = false
      · have g30 : (a'.eval (.tmp 30)) = .bool (freeS l.1 l.2) := hG ⟨14, .data⟩ (by simp) rfl 30 rfl hgc_
        exact .inr ⟨want_yes (n := 87) (d := 28) rfl hs (by decide) rfl (gg.trans (by rw [hgc_])), .inl ⟨_, W, run_not g30, Below.refl _ _, fun _ => rfl⟩⟩
      · exact .inl ⟨want_no (n := 87) (d := 28) rfl hs (by decide) rfl gg hgc_, fun e => absurd e hgc_⟩
    | 16, ho =>
      obtain rfl : _ = o := Option.some.inj ho
      obtain rfl : 32 = d := Option.some.inj hd
      have g28 : (a'.eval (.tmp 28)) = .bool ((!([tc, box].all rightM)) || (!(plainS t.1 t.2))) := hG ⟨12, .data⟩ (by simp) rfl 28 rfl
      by_cases hq : ((!([tc, box].all rightM)) || (!(plainS t.1 t.2))) = true
      · exact .inr ⟨rfl, .inl ⟨_, W, run_pick_yes (g28.trans (by rw [hq])) rfl, Below.refl _ _, by rw [hq]; rfl⟩⟩
      · have hq' : ((!([tc, box].all rightM)) || (!(plainS t.1 t.2))) = false := by simpa using hq
        exact .inr ⟨rfl, .inl ⟨_, W, run_pick_no (g28.trans (by rw [hq'])) (hG ⟨15, .data⟩ (by simp) rfl 31 rfl hq'), Below.refl _ _, by rw [hq']; rfl⟩⟩
    | j + 17, ho => simp at ho
  · intro a' W hB hs hdf hk hG
    obtain ⟨tm, df⟩ := a'
    obtain rfl : df = [] := hdf
    have e0 : tm.getD 0 undef = .agg #[.int .i64 t.fst, .slice pt t.snd.length ct, .int .i64 tc.fst, .slice ptc tc.snd.length ctc] := hk 0 (by kernel_rfl)
    have e1 : tm.getD 1 undef = .agg #[.int .i64 box.fst, .slice pbox box.snd.length cbox] := hk 1 (by kernel_rfl)
    have e2 : tm.getD 2 undef = .agg #[.int .i64 l.fst, .slice pl l.snd.length cl] := hk 2 (by kernel_rfl)
    have e3 : tm.getD 3 undef = .int .i64 cat := hk 3 (by kernel_rfl)
    have e4 : tm.getD 4 undef = .pointer (some ⟨w.heap.size, 0, none⟩) := hk 4 (by kernel_rfl)
    have e5 : tm.getD 5 undef = .pointer (some ⟨w.heap.size + 1, 0, none⟩) := hk 5 (by kernel_rfl)
    have e6 : tm.getD 6 undef = .pointer (some ⟨w.heap.size + 1 + 1, 0, none⟩) := hk 6 (by kernel_rfl)
    have e7 : tm.getD 7 undef = undef := hk 7 (by kernel_rfl)
    have e8 : tm.getD 8 undef = .bool false := hk 8 (by kernel_rfl)
    have e9 : tm.getD 9 undef = undef := hk 9 (by kernel_rfl)
    have e10 : tm.getD 10 undef = undef := hk 10 (by kernel_rfl)
    have e11 : tm.getD 11 undef = undef := hk 11 (by kernel_rfl)
    have e12 : tm.getD 12 undef = undef := hk 12 (by kernel_rfl)
    have e13 : tm.getD 13 undef = undef := hk 13 (by kernel_rfl)
    have e14 : tm.getD 14 undef = .bool true := hk 14 (by kernel_rfl)
    have e15 : tm.getD 15 undef = .bool false := hk 15 (by kernel_rfl)
    have e33 : tm.getD 33 undef = undef := hk 33 (by kernel_rfl)
    have e34 : tm.getD 34 undef = undef := hk 34 (by kernel_rfl)
    have e35 : tm.getD 35 undef = undef := hk 35 (by kernel_rfl)
    have e36 : tm.getD 36 undef = undef := hk 36 (by kernel_rfl)
    have e37 : tm.getD 37 undef = undef := hk 37 (by kernel_rfl)
    have e38 : tm.getD 38 undef = undef := hk 38 (by kernel_rfl)
    have e39 : tm.getD 39 undef = undef := hk 39 (by kernel_rfl)
    have e40 : tm.getD 40 undef = undef := hk 40 (by kernel_rfl)
    have e41 : tm.getD 41 undef = undef := hk 41 (by kernel_rfl)
    have e42 : tm.getD 42 undef = undef := hk 42 (by kernel_rfl)
    have e43 : tm.getD 43 undef = undef := hk 43 (by kernel_rfl)
    have e44 : tm.getD 44 undef = undef := hk 44 (by kernel_rfl)
    have e45 : tm.getD 45 undef = undef := hk 45 (by kernel_rfl)
    have e46 : tm.getD 46 undef = undef := hk 46 (by kernel_rfl)
    have e47 : tm.getD 47 undef = undef := hk 47 (by kernel_rfl)
    have e48 : tm.getD 48 undef = undef := hk 48 (by kernel_rfl)
    have e49 : tm.getD 49 undef = undef := hk 49 (by kernel_rfl)
    have e50 : tm.getD 50 undef = undef := hk 50 (by kernel_rfl)
    have e51 : tm.getD 51 undef = undef := hk 51 (by kernel_rfl)
    have e52 : tm.getD 52 undef = undef := hk 52 (by kernel_rfl)
    have e53 : tm.getD 53 undef = undef := hk 53 (by kernel_rfl)
    have e54 : tm.getD 54 undef = undef := hk 54 (by kernel_rfl)
    have e55 : tm.getD 55 undef = undef := hk 55 (by kernel_rfl)
    have e56 : tm.getD 56 undef = undef := hk 56 (by kernel_rfl)
    have e57 : tm.getD 57 undef = undef := hk 57 (by kernel_rfl)
    have e58 : tm.getD 58 undef = undef := hk 58 (by kernel_rfl)
    have e59 : tm.getD 59 undef = undef := hk 59 (by kernel_rfl)
    have e60 : tm.getD 60 undef = undef := hk 60 (by kernel_rfl)
    have e61 : tm.getD 61 undef = undef := hk 61 (by kernel_rfl)
    have e62 : tm.getD 62 undef = undef := hk 62 (by kernel_rfl)
    have e63 : tm.getD 63 undef = undef := hk 63 (by kernel_rfl)
    have e64 : tm.getD 64 undef = undef := hk 64 (by kernel_rfl)
    have e65 : tm.getD 65 undef = undef := hk 65 (by kernel_rfl)
    have e66 : tm.getD 66 undef = undef := hk 66 (by kernel_rfl)
    have e67 : tm.getD 67 undef = undef := hk 67 (by kernel_rfl)
    have e68 : tm.getD 68 undef = undef := hk 68 (by kernel_rfl)
    have e69 : tm.getD 69 undef = undef := hk 69 (by kernel_rfl)
    have e70 : tm.getD 70 undef = undef := hk 70 (by kernel_rfl)
    have e71 : tm.getD 71 undef = undef := hk 71 (by kernel_rfl)
    have e72 : tm.getD 72 undef = undef := hk 72 (by kernel_rfl)
    have e73 : tm.getD 73 undef = undef := hk 73 (by kernel_rfl)
    have e74 : tm.getD 74 undef = undef := hk 74 (by kernel_rfl)
    have e75 : tm.getD 75 undef = undef := hk 75 (by kernel_rfl)
    have e76 : tm.getD 76 undef = undef := hk 76 (by kernel_rfl)
    have e77 : tm.getD 77 undef = undef := hk 77 (by kernel_rfl)
    have e78 : tm.getD 78 undef = undef := hk 78 (by kernel_rfl)
    have e79 : tm.getD 79 undef = undef := hk 79 (by kernel_rfl)
    have e80 : tm.getD 80 undef = undef := hk 80 (by kernel_rfl)
    have e81 : tm.getD 81 undef = undef := hk 81 (by kernel_rfl)
    have e82 : tm.getD 82 undef = undef := hk 82 (by kernel_rfl)
    have e83 : tm.getD 83 undef = undef := hk 83 (by kernel_rfl)
    have e84 : tm.getD 84 undef = undef := hk 84 (by kernel_rfl)
    have e85 : tm.getD 85 undef = undef := hk 85 (by kernel_rfl)
    have e86 : tm.getD 86 undef = undef := hk 86 (by kernel_rfl)
    have g16 : (tm.getD 16 undef) = .pointer (some ⟨w.heap.size, 2, none⟩) := hG 0 16 (by decide) rfl
    have g17 : LVg tc (tm.getD 17 undef) W := hG 1 17 (by decide) rfl
    have g18 : LVg box (tm.getD 18 undef) W := hG 2 18 (by decide) rfl
    have g19 : LsVg [tc, box] (tm.getD 19 undef) W := hG 3 19 (by decide) rfl
    have g20 : (tm.getD 20 undef) = .bool ([tc, box].all rightM) := hG 4 20 (by decide) rfl
    have g21 : (tm.getD 21 undef) = .bool (!([tc, box].all rightM)) := hG 5 21 (by decide) rfl
    have g22 : (tm.getD 22 undef) = .bool (!([tc, box].all rightM)) := hG 6 22 (by decide) rfl
    have g23 : (!([tc, box].all rightM)) = false → (tm.getD 23 undef) = .pointer (some ⟨w.heap.size, 0, none⟩) := hG 7 23 (by decide) rfl
    have g24 : (!([tc, box].all rightM)) = false → LVg t (tm.getD 24 undef) W := hG 8 24 (by decide) rfl
    have g25 : (!([tc, box].all rightM)) = false → (tm.getD 25 undef) = .bool (plainS t.1 t.2) := hG 9 25 (by decide) rfl
    have g26 : (!([tc, box].all rightM)) = false → (tm.getD 26 undef) = .bool (!(plainS t.1 t.2)) := hG 10 26 (by decide) rfl
    have g27 : (tm.getD 27 undef) = .bool ((!([tc, box].all rightM)) || (!(plainS t.1 t.2))) := hG 11 27 (by decide) rfl
    have g28 : (tm.getD 28 undef) = .bool ((!([tc, box].all rightM)) || (!(plainS t.1 t.2))) := hG 12 28 (by decide) rfl
    have g29 : ((!([tc, box].all rightM)) || (!(plainS t.1 t.2))) = false → LVg l (tm.getD 29 undef) W := hG 13 29 (by decide) rfl
    have g30 : ((!([tc, box].all rightM)) || (!(plainS t.1 t.2))) = false → (tm.getD 30 undef) = .bool (freeS l.1 l.2) := hG 14 30 (by decide) rfl
    have g31 : ((!([tc, box].all rightM)) || (!(plainS t.1 t.2))) = false → (tm.getD 31 undef) = .bool (!(freeS l.1 l.2)) := hG 15 31 (by decide) rfl
    have g32 : (tm.getD 32 undef) = .bool (((!([tc, box].all rightM)) || (!(plainS t.1 t.2))) || (!(freeS l.1 l.2))) := hG 16 32 (by decide) rfl
    have htm := arr_of tm ((.agg #[.int .i64 t.fst, .slice pt t.snd.length ct, .int .i64 tc.fst, .slice ptc tc.snd.length ctc] : Value) :: (.agg #[.int .i64 box.fst, .slice pbox box.snd.length cbox] : Value) :: (.agg #[.int .i64 l.fst, .slice pl l.snd.length cl] : Value) :: (.int .i64 cat : Value) :: (.pointer (some ⟨w.heap.size, 0, none⟩) : Value) :: (.pointer (some ⟨w.heap.size + 1, 0, none⟩) : Value) :: (.pointer (some ⟨w.heap.size + 1 + 1, 0, none⟩) : Value) :: (undef : Value) :: (.bool false : Value) :: (undef : Value) :: (undef : Value) :: (undef : Value) :: (undef : Value) :: (undef : Value) :: (.bool true : Value) :: (.bool false : Value) :: (tm.getD 16 undef : Value) :: (tm.getD 17 undef : Value) :: (tm.getD 18 undef : Value) :: (tm.getD 19 undef : Value) :: (tm.getD 20 undef : Value) :: (tm.getD 21 undef : Value) :: (tm.getD 22 undef : Value) :: (tm.getD 23 undef : Value) :: (tm.getD 24 undef : Value) :: (tm.getD 25 undef : Value) :: (tm.getD 26 undef : Value) :: (tm.getD 27 undef : Value) :: (tm.getD 28 undef : Value) :: (tm.getD 29 undef : Value) :: (tm.getD 30 undef : Value) :: (tm.getD 31 undef : Value) :: (tm.getD 32 undef : Value) :: (undef : Value) :: (undef : Value) :: (undef : Value) :: (undef : Value) :: (undef : Value) :: (undef : Value) :: (undef : Value) :: (undef : Value) :: (undef : Value) :: (undef : Value) :: (undef : Value) :: (undef : Value) :: (undef : Value) :: (undef : Value) :: (undef : Value) :: (undef : Value) :: (undef : Value) :: (undef : Value) :: (undef : Value) :: (undef : Value) :: (undef : Value) :: (undef : Value) :: (undef : Value) :: (undef : Value) :: (undef : Value) :: (undef : Value) :: (undef : Value) :: (undef : Value) :: (undef : Value) :: (undef : Value) :: (undef : Value) :: (undef : Value) :: (undef : Value) :: (undef : Value) :: (undef : Value) :: (undef : Value) :: (undef : Value) :: (undef : Value) :: (undef : Value) :: (undef : Value) :: (undef : Value) :: (undef : Value) :: (undef : Value) :: (undef : Value) :: (undef : Value) :: (undef : Value) :: (undef : Value) :: (undef : Value) :: (undef : Value) :: (undef : Value) :: (undef : Value) :: (undef : Value) :: (undef : Value) :: (undef : Value) :: []) hs (by show (tm.getD 0 undef :: tm.getD 1 undef :: tm.getD 2 undef :: tm.getD 3 undef :: tm.getD 4 undef :: tm.getD 5 undef :: tm.getD 6 undef :: tm.getD 7 undef :: tm.getD 8 undef :: tm.getD 9 undef :: tm.getD 10 undef :: tm.getD 11 undef :: tm.getD 12 undef :: tm.getD 13 undef :: tm.getD 14 undef :: tm.getD 15 undef :: tm.getD 16 undef :: tm.getD 17 undef :: tm.getD 18 undef :: tm.getD 19 undef :: tm.getD 20 undef :: tm.getD 21 undef :: tm.getD 22 undef :: tm.getD 23 undef :: tm.getD 24 undef :: tm.getD 25 undef :: tm.getD 26 undef :: tm.getD 27 undef :: tm.getD 28 undef :: tm.getD 29 undef :: tm.getD 30 undef :: tm.getD 31 undef :: tm.getD 32 undef :: tm.getD 33 undef :: tm.getD 34 undef :: tm.getD 35 undef :: tm.getD 36 undef :: tm.getD 37 undef :: tm.getD 38 undef :: tm.getD 39 undef :: tm.getD 40 undef :: tm.getD 41 undef :: tm.getD 42 undef :: tm.getD 43 undef :: tm.getD 44 undef :: tm.getD 45 undef :: tm.getD 46 undef :: tm.getD 47 undef :: tm.getD 48 undef :: tm.getD 49 undef :: tm.getD 50 undef :: tm.getD 51 undef :: tm.getD 52 undef :: tm.getD 53 undef :: tm.getD 54 undef :: tm.getD 55 undef :: tm.getD 56 undef :: tm.getD 57 undef :: tm.getD 58 undef :: tm.getD 59 undef :: tm.getD 60 undef :: tm.getD 61 undef :: tm.getD 62 undef :: tm.getD 63 undef :: tm.getD 64 undef :: tm.getD 65 undef :: tm.getD 66 undef :: tm.getD 67 undef :: tm.getD 68 undef :: tm.getD 69 undef :: tm.getD 70 undef :: tm.getD 71 undef :: tm.getD 72 undef :: tm.getD 73 undef :: tm.getD 74 undef :: tm.getD 75 undef :: tm.getD 76 undef :: tm.getD 77 undef :: tm.getD 78 undef :: tm.getD 79 undef :: tm.getD 80 undef :: tm.getD 81 undef :: tm.getD 82 undef :: tm.getD 83 undef :: tm.getD 84 undef :: tm.getD 85 undef :: tm.getD 86 undef :: []) = _; rw [e0, e1, e2, e3, e4, e5, e6, e7, e8, e9, e10, e11, e12, e13, e14, e15, e33, e34, e35, e36, e37, e38, e39, e40, e41, e42, e43, e44, e45, e46, e47, e48, e49, e50, e51, e52, e53, e54, e55, e56, e57, e58, e59, e60, e61, e62, e63, e64, e65, e66, e67, e68, e69, e70, e71, e72, e73, e74, e75, e76, e77, e78, e79, e80, e81, e82, e83, e84, e85, e86]; try rfl)
    clear hs hk hG e0 e1 e2 e3 e4 e5 e6 e7 e8 e9 e10 e11 e12 e13 e14 e15 e33 e34 e35 e36 e37 e38 e39 e40 e41 e42 e43 e44 e45 e46 e47 e48 e49 e50 e51 e52 e53 e54 e55 e56 e57 e58 e59 e60 e61 e62 e63 e64 e65 e66 e67 e68 e69 e70 e71 e72 e73 e74 e75 e76 e77 e78 e79 e80 e81 e82 e83 e84 e85 e86
    generalize tm.getD 16 undef = t16 at htm g16
    generalize tm.getD 17 undef = t17 at htm g17
    generalize tm.getD 18 undef = t18 at htm g18
    generalize tm.getD 19 undef = t19 at htm g19
    generalize tm.getD 20 undef = t20 at htm g20
    generalize tm.getD 21 undef = t21 at htm g21
    generalize tm.getD 22 undef = t22 at htm g22
    generalize tm.getD 23 undef = t23 at htm g23
    generalize tm.getD 24 undef = t24 at htm g24
    generalize tm.getD 25 undef = t25 at htm g25
    generalize tm.getD 26 undef = t26 at htm g26
    generalize tm.getD 27 undef = t27 at htm g27
    generalize tm.getD 28 undef = t28 at htm g28
    generalize tm.getD 29 undef = t29 at htm g29
    generalize tm.getD 30 undef = t30 at htm g30
    generalize tm.getD 31 undef = t31 at htm g31
    generalize tm.getD 32 undef = t32 at htm g32
    subst htm
    subst g16
    subst g20
    subst g21
    subst g22
    subst g27
    subst g28
    subst g32
    simp only [List.drop_succ_cons, List.drop_zero]
    have hA2 : Below w.heap.size w W := hA1.trans (hB.mono hA1.size)
    have hdt := hct.below hB
    have hdtc := hctc.below hB
    have hdbox := hcbox.below hB
    have hdl := hcl.below hB
    clear g17 g18 g19 g24 g29
    obtain ⟨x0, hx⟩ : ∃ x0, (((!([tc, box].all rightM)) || (!(plainS t.1 t.2))) || (!(freeS l.1 l.2))) = x0 := ⟨_, rfl⟩
    simp only [hx]
    cases x0 with
    | true =>
      clear hx
      go_wp2
      go_ret
      exact ⟨rfl, hA2⟩
    | false =>
      have hR : (rightM tc = true ∧ rightM box = true) ∧ plainS t.1 t.2 = true ∧ freeS l.1 l.2 = true := by
        simp only [Bool.or_eq_false_iff, Bool.not_eq_false'] at hx
        refine ⟨by simpa using hx.1.1, hx.1.2, hx.2⟩
      obtain ⟨⟨rtc, rbox⟩, pt', fl'⟩ := hR
      have rt := plain_right pt'
      have rl := plain_right (free_plain fl')
      have HE : Hid (makeI t tc box l = 0 → ∀ k, aM t k ≤ aM l k ∧ (aM box k ≤ aM l k ∨ aM box k ≤ 2) ∧ (aM t k = 0 ∨ aM box k = aM t k)) := fun h k => make_keeps (okL rt) (okL rbox) (okL rl) fl' h k
      have het := hdt.ok (right16 rt)
      have hetc := hdtc.ok (right16 rtc)
      have hebox := hdbox.ok (right16 rbox)
      have hel := hdl.ok (right16 rl)
      clear hx rt rtc rbox rl pt' fl'
      go_upto_region 5 with fail
      refine wp_region_monoF 8 (fun kq v W => match kq with | 33 => v = .pointer (some ⟨w.heap.size, 0, none⟩) | 34 => LV t v W | 35 => v = .pointer (some ⟨w.heap.size, 2, none⟩) | 36 => LV tc v W | 37 => LV box v W | 38 => LV l v W | 39 => v = .int .i64 (makeI t tc box l) | 40 => v = .bool ((makeI t tc box l) != 0) | _ => True) (by kernel_rfl) (by kernel_rfl) (by simp) ?_ ?_ ?_
      · intro kq v W W' h hb
        revert h
        try dsimp only
        split
        · intro h; exact h
        · intro h; exact LV.below h hb
        · intro h; exact h
        · intro h; exact LV.below h hb
        · intro h; exact LV.below h hb
        · intro h; exact LV.below h hb
        · intro h; exact h
        · intro h; exact h
        · intro h; trivial
      · intro a' W hB hs hk i o d ho hd hG
        match i, ho with
        | 0, ho =>
          obtain rfl : _ = o := Option.some.inj ho
          obtain rfl : 33 = d := Option.some.inj hd
          exact .inr ⟨rfl, .inl ⟨_, W, run_fa0 (hk 4 (by kernel_rfl)), Below.refl _ _, rfl⟩⟩
        | 1, ho =>
          obtain rfl : _ = o := Option.some.inj ho
          obtain rfl : 34 = d := Option.some.inj hd
          have g33 : (a'.eval (.tmp 33)) = .pointer (some ⟨w.heap.size, 0, none⟩) := hG ⟨0, .data⟩ (by simp) rfl 33 rfl
          obtain ⟨v, hr, hv⟩ := run_loadL (ev := a'.eval) (W := W) g33 (het.below hB)
          exact .inr ⟨rfl, .inl ⟨v, W, hr, Below.refl _ _, hv⟩⟩
        | 2, ho =>
          obtain rfl : _ = o := Option.some.inj ho
          obtain rfl : 35 = d := Option.some.inj hd
          exact .inr ⟨rfl, .inl ⟨_, W, run_fa1 (hk 4 (by kernel_rfl)), Below.refl _ _, rfl⟩⟩
        | 3, ho =>
          obtain rfl : _ = o := Option.some.inj ho
          obtain rfl : 36 = d := Option.some.inj hd
          have g35 : (a'.eval (.tmp 35)) = .pointer (some ⟨w.heap.size, 2, none⟩) := hG ⟨2, .data⟩ (by simp) rfl 35 rfl
          obtain ⟨v, hr, hv⟩ := run_loadL (ev := a'.eval) (W := W) g35 (hetc.below hB)
          exact .inr ⟨rfl, .inl ⟨v, W, hr, Below.refl _ _, hv⟩⟩
        | 4, ho =>
          obtain rfl : _ = o := Option.some.inj ho
          obtain rfl : 37 = d := Option.some.inj hd
          obtain ⟨v, hr, hv⟩ := run_loadL (ev := a'.eval) (W := W) (hk 5 (by kernel_rfl)) (hebox.below hB)
          exact .inr ⟨rfl, .inl ⟨v, W, hr, Below.refl _ _, hv⟩⟩
        | 5, ho =>
          obtain rfl : _ = o := Option.some.inj ho
          obtain rfl : 38 = d := Option.some.inj hd
          obtain ⟨v, hr, hv⟩ := run_loadL (ev := a'.eval) (W := W) (hk 6 (by kernel_rfl)) (hel.below hB)
          exact .inr ⟨rfl, .inl ⟨v, W, hr, Below.refl _ _, hv⟩⟩
        | 6, ho =>
          obtain rfl : _ = o := Option.some.inj ho
          obtain rfl : 39 = d := Option.some.inj hd
          have g34 : LV t (a'.eval (.tmp 34)) W := hG ⟨1, .data⟩ (by simp) rfl 34 rfl
          have g36 : LV tc (a'.eval (.tmp 36)) W := hG ⟨3, .data⟩ (by simp) rfl 36 rfl
          have g37 : LV box (a'.eval (.tmp 37)) W := hG ⟨4, .data⟩ (by simp) rfl 37 rfl
          have g38 : LV l (a'.eval (.tmp 38)) W := hG ⟨5, .data⟩ (by simp) rfl 38 rfl
          exact .inr ⟨rfl, .inr ⟨_, _, run_call rfl map_4 ent_passage_Make, Make_c g34 g36 g37 g38⟩⟩
        | 7, ho =>
          obtain rfl : _ = o := Option.some.inj ho
          obtain rfl : 40 = d := Option.some.inj hd
          have g39 : (a'.eval (.tmp 39)) = .int .i64 (makeI t tc box l) := hG ⟨6, .data⟩ (by simp) rfl 39 rfl
          exact .inr ⟨rfl, .inl ⟨_, W, run_neE g39 rfl, Below.refl _ _, rfl⟩⟩
        | j + 8, ho => simp at ho
      · intro a' W hB hs hdf hk hG
        obtain ⟨tm, df⟩ := a'
        obtain rfl : df = [] := hdf
        have e0 : tm.getD 0 undef = .agg #[.int .i64 t.fst, .slice pt t.snd.length ct, .int .i64 tc.fst, .slice ptc tc.snd.length ctc] := hk 0 (by kernel_rfl)
        have e1 : tm.getD 1 undef = .agg #[.int .i64 box.fst, .slice pbox box.snd.length cbox] := hk 1 (by kernel_rfl)
        have e2 : tm.getD 2 undef = .agg #[.int .i64 l.fst, .slice pl l.snd.length cl] := hk 2 (by kernel_rfl)
        have e3 : tm.getD 3 undef = .int .i64 cat := hk 3 (by kernel_rfl)
        have e4 : tm.getD 4 undef = .pointer (some ⟨w.heap.size, 0, none⟩) := hk 4 (by kernel_rfl)
        have e5 : tm.getD 5 undef = .pointer (some ⟨w.heap.size + 1, 0, none⟩) := hk 5 (by kernel_rfl)
        have e6 : tm.getD 6 undef = .pointer (some ⟨w.heap.size + 1 + 1, 0, none⟩) := hk 6 (by kernel_rfl)
        have e7 : tm.getD 7 undef = undef := hk 7 (by kernel_rfl)
        have e8 : tm.getD 8 undef = .bool false := hk 8 (by kernel_rfl)
        have e9 : tm.getD 9 undef = undef := hk 9 (by kernel_rfl)
        have e10 : tm.getD 10 undef = undef := hk 10 (by kernel_rfl)
        have e11 : tm.getD 11 undef = undef := hk 11 (by kernel_rfl)
        have e12 : tm.getD 12 undef = undef := hk 12 (by kernel_rfl)
        have e13 : tm.getD 13 undef = undef := hk 13 (by kernel_rfl)
        have e14 : tm.getD 14 undef = .bool true := hk 14 (by kernel_rfl)
        have e15 : tm.getD 15 undef = .bool false := hk 15 (by kernel_rfl)
        have e16 : tm.getD 16 undef = .pointer (some ⟨w.heap.size, 2, none⟩) := hk 16 (by kernel_rfl)
        have e17 : tm.getD 17 undef = t17 := hk 17 (by kernel_rfl)
        have e18 : tm.getD 18 undef = t18 := hk 18 (by kernel_rfl)
        have e19 : tm.getD 19 undef = t19 := hk 19 (by kernel_rfl)
        have e20 : tm.getD 20 undef = .bool ([tc, box].all rightM) := hk 20 (by kernel_rfl)
        have e21 : tm.getD 21 undef = .bool ![tc, box].all rightM := hk 21 (by kernel_rfl)
        have e22 : tm.getD 22 undef = .bool ![tc, box].all rightM := hk 22 (by kernel_rfl)
        have e23 : tm.getD 23 undef = t23 := hk 23 (by kernel_rfl)
        have e24 : tm.getD 24 undef = t24 := hk 24 (by kernel_rfl)
        have e25 : tm.getD 25 undef = t25 := hk 25 (by kernel_rfl)
        have e26 : tm.getD 26 undef = t26 := hk 26 (by kernel_rfl)
        have e27 : tm.getD 27 undef = .bool (![tc, box].all rightM || !plainS t.fst t.snd) := hk 27 (by kernel_rfl)
        have e28 : tm.getD 28 undef = .bool (![tc, box].all rightM || !plainS t.fst t.snd) := hk 28 (by kernel_rfl)
        have e29 : tm.getD 29 undef = t29 := hk 29 (by kernel_rfl)
        have e30 : tm.getD 30 undef = t30 := hk 30 (by kernel_rfl)
        have e31 : tm.getD 31 undef = t31 := hk 31 (by kernel_rfl)
        have e32 : tm.getD 32 undef = .bool false := hk 32 (by kernel_rfl)
        have e41 : tm.getD 41 undef = undef := hk 41 (by kernel_rfl)
        have e42 : tm.getD 42 undef = undef := hk 42 (by kernel_rfl)
        have e43 : tm.getD 43 undef = undef := hk 43 (by kernel_rfl)
        have e44 : tm.getD 44 undef = undef := hk 44 (by kernel_rfl)
        have e45 : tm.getD 45 undef = undef := hk 45 (by kernel_rfl)
        have e46 : tm.getD 46 undef = undef := hk 46 (by kernel_rfl)
        have e47 : tm.getD 47 undef = undef := hk 47 (by kernel_rfl)
        have e48 : tm.getD 48 undef = undef := hk 48 (by kernel_rfl)
        have e49 : tm.getD 49 undef = undef := hk 49 (by kernel_rfl)
        have e50 : tm.getD 50 undef = undef := hk 50 (by kernel_rfl)
        have e51 : tm.getD 51 undef = undef := hk 51 (by kernel_rfl)
        have e52 : tm.getD 52 undef = undef := hk 52 (by kernel_rfl)
        have e53 : tm.getD 53 undef = undef := hk 53 (by kernel_rfl)
        have e54 : tm.getD 54 undef = undef := hk 54 (by kernel_rfl)
        have e55 : tm.getD 55 undef = undef := hk 55 (by kernel_rfl)
        have e56 : tm.getD 56 undef = undef := hk 56 (by kernel_rfl)
        have e57 : tm.getD 57 undef = undef := hk 57 (by kernel_rfl)
        have e58 : tm.getD 58 undef = undef := hk 58 (by kernel_rfl)
        have e59 : tm.getD 59 undef = undef := hk 59 (by kernel_rfl)
        have e60 : tm.getD 60 undef = undef := hk 60 (by kernel_rfl)
        have e61 : tm.getD 61 undef = undef := hk 61 (by kernel_rfl)
        have e62 : tm.getD 62 undef = undef := hk 62 (by kernel_rfl)
        have e63 : tm.getD 63 undef = undef := hk 63 (by kernel_rfl)
        have e64 : tm.getD 64 undef = undef := hk 64 (by kernel_rfl)
        have e65 : tm.getD 65 undef = undef := hk 65 (by kernel_rfl)
        have e66 : tm.getD 66 undef = undef := hk 66 (by kernel_rfl)
        have e67 : tm.getD 67 undef = undef := hk 67 (by kernel_rfl)
        have e68 : tm.getD 68 undef = undef := hk 68 (by kernel_rfl)
        have e69 : tm.getD 69 undef = undef := hk 69 (by kernel_rfl)
        have e70 : tm.getD 70 undef = undef := hk 70 (by kernel_rfl)
        have e71 : tm.getD 71 undef = undef := hk 71 (by kernel_rfl)
        have e72 : tm.getD 72 undef = undef := hk 72 (by kernel_rfl)
        have e73 : tm.getD 73 undef = undef := hk 73 (by kernel_rfl)
        have e74 : tm.getD 74 undef = undef := hk 74 (by kernel_rfl)
        have e75 : tm.getD 75 undef = undef := hk 75 (by kernel_rfl)
        have e76 : tm.getD 76 undef = undef := hk 76 (by kernel_rfl)
        have e77 : tm.getD 77 undef = undef := hk 77 (by kernel_rfl)
        have e78 : tm.getD 78 undef = undef := hk 78 (by kernel_rfl)
        have e79 : tm.getD 79 undef = undef := hk 79 (by kernel_rfl)
        have e80 : tm.getD 80 undef = undef := hk 80 (by kernel_rfl)
        have e81 : tm.getD 81 undef = undef := hk 81 (by kernel_rfl)
        have e82 : tm.getD 82 undef = undef := hk 82 (by kernel_rfl)
        have e83 : tm.getD 83 undef = undef := hk 83 (by kernel_rfl)
        have e84 : tm.getD 84 undef = undef := hk 84 (by kernel_rfl)
        have e85 : tm.getD 85 undef = undef := hk 85 (by kernel_rfl)
        have e86 : tm.getD 86 undef = undef := hk 86 (by kernel_rfl)
        have g33 : (tm.getD 33 undef) = .pointer (some ⟨w.heap.size, 0, none⟩) := hG 0 33 (by decide) rfl
        have g34 : LV t (tm.getD 34 undef) W := hG 1 34 (by decide) rfl
        have g35 : (tm.getD 35 undef) = .pointer (some ⟨w.heap.size, 2, none⟩) := hG 2 35 (by decide) rfl
        have g36 : LV tc (tm.getD 36 undef) W := hG 3 36 (by decide) rfl
        have g37 : LV box (tm.getD 37 undef) W := hG 4 37 (by decide) rfl
        have g38 : LV l (tm.getD 38 undef) W := hG 5 38 (by decide) rfl
        have g39 : (tm.getD 39 undef) = .int .i64 (makeI t tc box l) := hG 6 39 (by decide) rfl
        have g40 : (tm.getD 40 undef) = .bool ((makeI t tc box l) != 0) := hG 7 40 (by decide) rfl
        have htm := arr_of tm ((.agg #[.int .i64 t.fst, .slice pt t.snd.length ct, .int .i64 tc.fst, .slice ptc tc.snd.length ctc] : Value) :: (.agg #[.int .i64 box.fst, .slice pbox box.snd.length cbox] : Value) :: (.agg #[.int .i64 l.fst, .slice pl l.snd.length cl] : Value) :: (.int .i64 cat : Value) :: (.pointer (some ⟨w.heap.size, 0, none⟩) : Value) :: (.pointer (some ⟨w.heap.size + 1, 0, none⟩) : Value) :: (.pointer (some ⟨w.heap.size + 1 + 1, 0, none⟩) : Value) :: (undef : Value) :: (.bool false : Value) :: (undef : Value) :: (undef : Value) :: (undef : Value) :: (undef : Value) :: (undef : Value) :: (.bool true : Value) :: (.bool false : Value) :: (.pointer (some ⟨w.heap.size, 2, none⟩) : Value) :: (t17 : Value) :: (t18 : Value) :: (t19 : Value) :: (.bool ([tc, box].all rightM) : Value) :: (.bool ![tc, box].all rightM : Value) :: (.bool ![tc, box].all rightM : Value) :: (t23 : Value) :: (t24 : Value) :: (t25 : Value) :: (t26 : Value) :: (.bool (![tc, box].all rightM || !plainS t.fst t.snd) : Value) :: (.bool (![tc, box].all rightM || !plainS t.fst t.snd) : Value) :: (t29 : Value) :: (t30 : Value) :: (t31 : Value) :: (.bool false : Value) :: (tm.getD 33 undef : Value) :: (tm.getD 34 undef : Value) :: (tm.getD 35 undef : Value) :: (tm.getD 36 undef : Value) :: (tm.getD 37 undef : Value) :: (tm.getD 38 undef : Value) :: (tm.getD 39 undef : Value) :: (tm.getD 40 undef : Value) :: (undef : Value) :: (undef : Value) :: (undef : Value) :: (undef : Value) :: (undef : Value) :: (undef : Value) :: (undef : Value) :: (undef : Value) :: (undef : Value) :: (undef : Value) :: (undef : Value) :: (undef : Value) :: (undef : Value) :: (undef : Value) :: (undef : Value) :: (undef : Value) :: (undef : Value) :: (undef : Value) :: (undef : Value) :: (undef : Value) :: (undef : Value) :: (undef : Value) :: (undef : Value) :: (undef : Value) :: (undef : Value) :: (undef : Value) :: (undef : Value) :: (undef : Value) :: (undef : Value) :: (undef : Value) :: (undef : Value) :: (undef : Value) :: (undef : Value) :: (undef : Value) :: (undef : Value) :: (undef : Value) :: (undef : Value) :: (undef : Value) :: (undef : Value) :: (undef : Value) :: (undef : Value) :: (undef : Value) :: (undef : Value) :: (undef : Value) :: (undef : Value) :: (undef : Value) :: []) hs (by show (tm.getD 0 undef :: tm.getD 1 undef :: tm.getD 2 undef :: tm.getD 3 undef :: tm.getD 4 undef :: tm.getD 5 undef :: tm.getD 6 undef :: tm.getD 7 undef :: tm.getD 8 undef :: tm.getD 9 undef :: tm.getD 10 undef :: tm.getD 11 undef :: tm.getD 12 undef :: tm.getD 13 undef :: tm.getD 14 undef :: tm.getD 15 undef :: tm.getD 16 undef :: tm.getD 17 undef :: tm.getD 18 undef :: tm.getD 19 undef :: tm.getD 20 undef :: tm.getD 21 undef :: tm.getD 22 undef :: tm.getD 23 undef :: tm.getD 24 undef :: tm.getD 25 undef :: tm.getD 26 undef :: tm.getD 27 undef :: tm.getD 28 undef :: tm.getD 29 undef :: tm.getD 30 undef :: tm.getD 31 undef :: tm.getD 32 undef :: tm.getD 33 undef :: tm.getD 34 undef :: tm.getD 35 undef :: tm.getD 36 undef :: tm.getD 37 undef :: tm.getD 38 undef :: tm.getD 39 undef :: tm.getD 40 undef :: tm.getD 41 undef :: tm.getD 42 undef :: tm.getD 43 undef :: tm.getD 44 undef :: tm.getD 45 undef :: tm.getD 46 undef :: tm.getD 47 undef :: tm.getD 48 undef :: tm.getD 49 undef :: tm.getD 50 undef :: tm.getD 51 undef :: tm.getD 52 undef :: tm.getD 53 undef :: tm.getD 54 undef :: tm.getD 55 undef :: tm.getD 56 undef :: tm.getD 57 undef :: tm.getD 58 undef :: tm.getD 59 undef :: tm.getD 60 undef :: tm.getD 61 undef :: tm.getD 62 undef :: tm.getD 63 undef :: tm.getD 64 undef :: tm.getD 65 undef :: tm.getD 66 undef :: tm.getD 67 undef :: tm.getD 68 undef :: tm.getD 69 undef :: tm.getD 70 undef :: tm.getD 71 undef :: tm.getD 72 undef :: tm.getD 73 undef :: tm.getD 74 undef :: tm.getD 75 undef :: tm.getD 76 undef :: tm.getD 77 undef :: tm.getD 78 undef :: tm.getD 79 undef :: tm.getD 80 undef :: tm.getD 81 undef :: tm.getD 82 undef :: tm.getD 83 undef :: tm.getD 84 undef :: tm.getD 85 undef :: tm.getD 86 undef :: []) = _; rw [e0, e1, e2, e3, e4, e5, e6, e7, e8, e9, e10, e11, e12, e13, e14, e15, e16, e17, e18, e19, e20, e21, e22, e23, e24, e25, e26, e27, e28, e29, e30, e31, e32, e41, e42, e43, e44, e45, e46, e47, e48, e49, e50, e51, e52, e53, e54, e55, e56, e57, e58, e59, e60, e61, e62, e63, e64, e65, e66, e67, e68, e69, e70, e71, e72, e73, e74, e75, e76, e77, e78, e79, e80, e81, e82, e83, e84, e85, e86]; try rfl)
        clear hs hk hG e0 e1 e2 e3 e4 e5 e6 e7 e8 e9 e10 e11 e12 e13 e14 e15 e16 e17 e18 e19 e20 e21 e22 e23 e24 e25 e26 e27 e28 e29 e30 e31 e32 e41 e42 e43 e44 e45 e46 e47 e48 e49 e50 e51 e52 e53 e54 e55 e56 e57 e58 e59 e60 e61 e62 e63 e64 e65 e66 e67 e68 e69 e70 e71 e72 e73 e74 e75 e76 e77 e78 e79 e80 e81 e82 e83 e84 e85 e86
        generalize tm.getD 33 undef = t33 at htm g33
        generalize tm.getD 34 undef = t34 at htm g34
        generalize tm.getD 35 undef = t35 at htm g35
        generalize tm.getD 36 undef = t36 at htm g36
        generalize tm.getD 37 undef = t37 at htm g37
        generalize tm.getD 38 undef = t38 at htm g38
        generalize tm.getD 39 undef = t39 at htm g39
        generalize tm.getD 40 undef = t40 at htm g40
        subst htm
        subst g33
        subst g35
        subst g39
        subst g40
        simp only [List.drop_succ_cons, List.drop_zero]
        have hA3 : Below w.heap.size w W := hA2.trans (hB.mono hA2.size)
        have hft := het.below hB
        have hftc := hetc.below hB
        have hfbox := hebox.below hB
        have hfl := hel.below hB
        clear g34 g36 g37 g38
        obtain ⟨y0, hy⟩ : ∃ y0, (makeI t tc box l != 0) = y0 := ⟨_, rfl⟩
        simp only [hy]
        cases y0 with
        | true =>
          clear hy
          go_wp2
          go_ret
          exact ⟨rfl, hA3⟩
        | false =>
          have HK := Lib.hid (HE.out (by simpa using hy))
          clear hy HE
          go_upto_region 7 with fail
          obtain ⟨W1, hW1⟩ : ∃ W1, W1 = W := ⟨_, rfl⟩
          rw [← hW1] at hA3 hft hftc hfbox hfl ⊢
          clear hW1
          refine wp_region_monoF 8 (fun kq v W => match kq with | 41 => v = .pointer (some ⟨w.heap.size, 0, none⟩) | 42 => LV t v W | 43 => LV box v W | 44 => LV l v W | 45 => LsV [t, box, l] v W | 46 => (OwnI W1.heap.size (nmM [t, box, l])) v W | 47 => v = .int .i64 cat | 48 => (I1V cat) v W | _ => True) (by kernel_rfl) (by kernel_rfl) (by simp) ?_ ?_ ?_
          · intro kq v W W' h hb
            revert h
            try dsimp only
            split
            · intro h; exact h
            · intro h; exact LV.below h hb
            · intro h; exact LV.below h hb
            · intro h; exact LV.below h hb
            · intro h; exact LsV.below h hb
            · intro h; exact OwnI.below h hb
            · intro h; exact h
            · intro h; exact I1V.below h hb
            · intro h; trivial
          · intro a' W hB hs hk i o d ho hd hG
            match i, ho with
            | 0, ho =>
              obtain rfl : _ = o := Option.some.inj ho
              obtain rfl : 41 = d := Option.some.inj hd
              exact .inr ⟨rfl, .inl ⟨_, W, run_fa0 (hk 4 (by kernel_rfl)), Below.refl _ _, rfl⟩⟩
            | 1, ho =>
              obtain rfl : _ = o := Option.some.inj ho
              obtain rfl : 42 = d := Option.some.inj hd
              have g41 : (a'.eval (.tmp 41)) = .pointer (some ⟨w.heap.size, 0, none⟩) := hG ⟨0, .data⟩ (by simp) rfl 41 rfl
              obtain ⟨v, hr, hv⟩ := run_loadL (ev := a'.eval) (W := W) g41 (hft.below hB)
              exact .inr ⟨rfl, .inl ⟨v, W, hr, Below.refl _ _, hv⟩⟩
            | 2, ho =>
              obtain rfl : _ = o := Option.some.inj ho
              obtain rfl : 43 = d := Option.some.inj hd
              obtain ⟨v, hr, hv⟩ := run_loadL (ev := a'.eval) (W := W) (hk 5 (by kernel_rfl)) (hfbox.below hB)
              exact .inr ⟨rfl, .inl ⟨v, W, hr, Below.refl _ _, hv⟩⟩
            | 3, ho =>
              obtain rfl : _ = o := Option.some.inj ho
              obtain rfl : 44 = d := Option.some.inj hd
              obtain ⟨v, hr, hv⟩ := run_loadL (ev := a'.eval) (W := W) (hk 6 (by kernel_rfl)) (hfl.below hB)
              exact .inr ⟨rfl, .inl ⟨v, W, hr, Below.refl _ _, hv⟩⟩
            | 4, ho =>
              obtain rfl : _ = o := Option.some.inj ho
              obtain rfl : 45 = d := Option.some.inj hd
              have g42 : LV t (a'.eval (.tmp 42)) W := hG ⟨1, .data⟩ (by simp) rfl 42 rfl
              have g43 : LV box (a'.eval (.tmp 43)) W := hG ⟨2, .data⟩ (by simp) rfl 43 rfl
              have g44 : LV l (a'.eval (.tmp 44)) W := hG ⟨3, .data⟩ (by simp) rfl 44 rfl
              obtain ⟨v, W', hr, hb, hv⟩ := run_slice3 (ev := a'.eval) (W := W) rfl rfl rfl g42 g43 g44
              exact .inr ⟨rfl, .inl ⟨v, W', hr, hb, hv⟩⟩
            | 5, ho =>
              obtain rfl : _ = o := Option.some.inj ho
              obtain rfl : 46 = d := Option.some.inj hd
              have g45 : LsV [t, box, l] (a'.eval (.tmp 45)) W := hG ⟨4, .data⟩ (by simp) rfl 45 rfl
              exact .inr ⟨rfl, .inr ⟨_, _, run_call rfl map_1 ent_gatehouseref01_Named, rNamed_o g45 (by simp) hB.size⟩⟩
            | 6, ho =>
              obtain rfl : _ = o := Option.some.inj ho
              obtain rfl : 47 = d := Option.some.inj hd
              exact .inr ⟨rfl, .inl ⟨_, W, run_move (hk 3 (by kernel_rfl)), Below.refl _ _, rfl⟩⟩
            | 7, ho =>
              obtain rfl : _ = o := Option.some.inj ho
              obtain rfl : 48 = d := Option.some.inj hd
              have g47 : (a'.eval (.tmp 47)) = .int .i64 cat := hG ⟨6, .data⟩ (by simp) rfl 47 rfl
              obtain ⟨v, W', hr, hb, hv⟩ := run_int1 (ev := a'.eval) (W := W) g47
              exact .inr ⟨rfl, .inl ⟨v, W', hr, hb, hv⟩⟩
            | j + 8, ho => simp at ho
          · intro a' W hB hs hdf hk hG
            obtain ⟨tm, df⟩ := a'
            obtain rfl : df = [] := hdf
            have e0 : tm.getD 0 undef = .agg #[.int .i64 t.fst, .slice pt t.snd.length ct, .int .i64 tc.fst, .slice ptc tc.snd.length ctc] := hk 0 (by kernel_rfl)
            have e1 : tm.getD 1 undef = .agg #[.int .i64 box.fst, .slice pbox box.snd.length cbox] := hk 1 (by kernel_rfl)
            have e2 : tm.getD 2 undef = .agg #[.int .i64 l.fst, .slice pl l.snd.length cl] := hk 2 (by kernel_rfl)
            have e3 : tm.getD 3 undef = .int .i64 cat := hk 3 (by kernel_rfl)
            have e4 : tm.getD 4 undef = .pointer (some ⟨w.heap.size, 0, none⟩) := hk 4 (by kernel_rfl)
            have e5 : tm.getD 5 undef = .pointer (some ⟨w.heap.size + 1, 0, none⟩) := hk 5 (by kernel_rfl)
            have e6 : tm.getD 6 undef = .pointer (some ⟨w.heap.size + 1 + 1, 0, none⟩) := hk 6 (by kernel_rfl)
            have e7 : tm.getD 7 undef = undef := hk 7 (by kernel_rfl)
            have e8 : tm.getD 8 undef = .bool false := hk 8 (by kernel_rfl)
            have e9 : tm.getD 9 undef = undef := hk 9 (by kernel_rfl)
            have e10 : tm.getD 10 undef = undef := hk 10 (by kernel_rfl)
            have e11 : tm.getD 11 undef = undef := hk 11 (by kernel_rfl)
            have e12 : tm.getD 12 undef = undef := hk 12 (by kernel_rfl)
            have e13 : tm.getD 13 undef = undef := hk 13 (by kernel_rfl)
            have e14 : tm.getD 14 undef = .bool true := hk 14 (by kernel_rfl)
            have e15 : tm.getD 15 undef = .bool false := hk 15 (by kernel_rfl)
            have e16 : tm.getD 16 undef = .pointer (some ⟨w.heap.size, 2, none⟩) := hk 16 (by kernel_rfl)
            have e17 : tm.getD 17 undef = t17 := hk 17 (by kernel_rfl)
            have e18 : tm.getD 18 undef = t18 := hk 18 (by kernel_rfl)
            have e19 : tm.getD 19 undef = t19 := hk 19 (by kernel_rfl)
            have e20 : tm.getD 20 undef = .bool ([tc, box].all rightM) := hk 20 (by kernel_rfl)
            have e21 : tm.getD 21 undef = .bool ![tc, box].all rightM := hk 21 (by kernel_rfl)
            have e22 : tm.getD 22 undef = .bool ![tc, box].all rightM := hk 22 (by kernel_rfl)
            have e23 : tm.getD 23 undef = t23 := hk 23 (by kernel_rfl)
            have e24 : tm.getD 24 undef = t24 := hk 24 (by kernel_rfl)
            have e25 : tm.getD 25 undef = t25 := hk 25 (by kernel_rfl)
            have e26 : tm.getD 26 undef = t26 := hk 26 (by kernel_rfl)
            have e27 : tm.getD 27 undef = .bool (![tc, box].all rightM || !plainS t.fst t.snd) := hk 27 (by kernel_rfl)
            have e28 : tm.getD 28 undef = .bool (![tc, box].all rightM || !plainS t.fst t.snd) := hk 28 (by kernel_rfl)
            have e29 : tm.getD 29 undef = t29 := hk 29 (by kernel_rfl)
            have e30 : tm.getD 30 undef = t30 := hk 30 (by kernel_rfl)
            have e31 : tm.getD 31 undef = t31 := hk 31 (by kernel_rfl)
            have e32 : tm.getD 32 undef = .bool false := hk 32 (by kernel_rfl)
            have e33 : tm.getD 33 undef = .pointer (some ⟨w.heap.size, 0, none⟩) := hk 33 (by kernel_rfl)
            have e34 : tm.getD 34 undef = t34 := hk 34 (by kernel_rfl)
            have e35 : tm.getD 35 undef = .pointer (some ⟨w.heap.size, 2, none⟩) := hk 35 (by kernel_rfl)
            have e36 : tm.getD 36 undef = t36 := hk 36 (by kernel_rfl)
            have e37 : tm.getD 37 undef = t37 := hk 37 (by kernel_rfl)
            have e38 : tm.getD 38 undef = t38 := hk 38 (by kernel_rfl)
            have e39 : tm.getD 39 undef = .int .i64 (makeI t tc box l) := hk 39 (by kernel_rfl)
            have e40 : tm.getD 40 undef = .bool false := hk 40 (by kernel_rfl)
            have e49 : tm.getD 49 undef = undef := hk 49 (by kernel_rfl)
            have e50 : tm.getD 50 undef = undef := hk 50 (by kernel_rfl)
            have e51 : tm.getD 51 undef = undef := hk 51 (by kernel_rfl)
            have e52 : tm.getD 52 undef = undef := hk 52 (by kernel_rfl)
            have e53 : tm.getD 53 undef = undef := hk 53 (by kernel_rfl)
            have e54 : tm.getD 54 undef = undef := hk 54 (by kernel_rfl)
            have e55 : tm.getD 55 undef = undef := hk 55 (by kernel_rfl)
            have e56 : tm.getD 56 undef = undef := hk 56 (by kernel_rfl)
            have e57 : tm.getD 57 undef = undef := hk 57 (by kernel_rfl)
            have e58 : tm.getD 58 undef = undef := hk 58 (by kernel_rfl)
            have e59 : tm.getD 59 undef = undef := hk 59 (by kernel_rfl)
            have e60 : tm.getD 60 undef = undef := hk 60 (by kernel_rfl)
            have e61 : tm.getD 61 undef = undef := hk 61 (by kernel_rfl)
            have e62 : tm.getD 62 undef = undef := hk 62 (by kernel_rfl)
            have e63 : tm.getD 63 undef = undef := hk 63 (by kernel_rfl)
            have e64 : tm.getD 64 undef = undef := hk 64 (by kernel_rfl)
            have e65 : tm.getD 65 undef = undef := hk 65 (by kernel_rfl)
            have e66 : tm.getD 66 undef = undef := hk 66 (by kernel_rfl)
            have e67 : tm.getD 67 undef = undef := hk 67 (by kernel_rfl)
            have e68 : tm.getD 68 undef = undef := hk 68 (by kernel_rfl)
            have e69 : tm.getD 69 undef = undef := hk 69 (by kernel_rfl)
            have e70 : tm.getD 70 undef = undef := hk 70 (by kernel_rfl)
            have e71 : tm.getD 71 undef = undef := hk 71 (by kernel_rfl)
            have e72 : tm.getD 72 undef = undef := hk 72 (by kernel_rfl)
            have e73 : tm.getD 73 undef = undef := hk 73 (by kernel_rfl)
            have e74 : tm.getD 74 undef = undef := hk 74 (by kernel_rfl)
            have e75 : tm.getD 75 undef = undef := hk 75 (by kernel_rfl)
            have e76 : tm.getD 76 undef = undef := hk 76 (by kernel_rfl)
            have e77 : tm.getD 77 undef = undef := hk 77 (by kernel_rfl)
            have e78 : tm.getD 78 undef = undef := hk 78 (by kernel_rfl)
            have e79 : tm.getD 79 undef = undef := hk 79 (by kernel_rfl)
            have e80 : tm.getD 80 undef = undef := hk 80 (by kernel_rfl)
            have e81 : tm.getD 81 undef = undef := hk 81 (by kernel_rfl)
            have e82 : tm.getD 82 undef = undef := hk 82 (by kernel_rfl)
            have e83 : tm.getD 83 undef = undef := hk 83 (by kernel_rfl)
            have e84 : tm.getD 84 undef = undef := hk 84 (by kernel_rfl)
            have e85 : tm.getD 85 undef = undef := hk 85 (by kernel_rfl)
            have e86 : tm.getD 86 undef = undef := hk 86 (by kernel_rfl)
            have g41 : (tm.getD 41 undef) = .pointer (some ⟨w.heap.size, 0, none⟩) := hG 0 41 (by decide) rfl
            have g42 : LV t (tm.getD 42 undef) W := hG 1 42 (by decide) rfl
            have g43 : LV box (tm.getD 43 undef) W := hG 2 43 (by decide) rfl
            have g44 : LV l (tm.getD 44 undef) W := hG 3 44 (by decide) rfl
            have g45 : LsV [t, box, l] (tm.getD 45 undef) W := hG 4 45 (by decide) rfl
            have g46 : (OwnI W1.heap.size (nmM [t, box, l])) (tm.getD 46 undef) W := hG 5 46 (by decide) rfl
            have g47 : (tm.getD 47 undef) = .int .i64 cat := hG 6 47 (by decide) rfl
            have g48 : (I1V cat) (tm.getD 48 undef) W := hG 7 48 (by decide) rfl
            have htm := arr_of tm ((.agg #[.int .i64 t.fst, .slice pt t.snd.length ct, .int .i64 tc.fst, .slice ptc tc.snd.length ctc] : Value) :: (.agg #[.int .i64 box.fst, .slice pbox box.snd.length cbox] : Value) :: (.agg #[.int .i64 l.fst, .slice pl l.snd.length cl] : Value) :: (.int .i64 cat : Value) :: (.pointer (some ⟨w.heap.size, 0, none⟩) : Value) :: (.pointer (some ⟨w.heap.size + 1, 0, none⟩) : Value) :: (.pointer (some ⟨w.heap.size + 1 + 1, 0, none⟩) : Value) :: (undef : Value) :: (.bool false : Value) :: (undef : Value) :: (undef : Value) :: (undef : Value) :: (undef : Value) :: (undef : Value) :: (.bool true : Value) :: (.bool false : Value) :: (.pointer (some ⟨w.heap.size, 2, none⟩) : Value) :: (t17 : Value) :: (t18 : Value) :: (t19 : Value) :: (.bool ([tc, box].all rightM) : Value) :: (.bool ![tc, box].all rightM : Value) :: (.bool ![tc, box].all rightM : Value) :: (t23 : Value) :: (t24 : Value) :: (t25 : Value) :: (t26 : Value) :: (.bool (![tc, box].all rightM || !plainS t.fst t.snd) : Value) :: (.bool (![tc, box].all rightM || !plainS t.fst t.snd) : Value) :: (t29 : Value) :: (t30 : Value) :: (t31 : Value) :: (.bool false : Value) :: (.pointer (some ⟨w.heap.size, 0, none⟩) : Value) :: (t34 : Value) :: (.pointer (some ⟨w.heap.size, 2, none⟩) : Value) :: (t36 : Value) :: (t37 : Value) :: (t38 : Value) :: (.int .i64 (makeI t tc box l) : Value) :: (.bool false : Value) :: (tm.getD 41 undef : Value) :: (tm.getD 42 undef : Value) :: (tm.getD 43 undef : Value) :: (tm.getD 44 undef : Value) :: (tm.getD 45 undef : Value) :: (tm.getD 46 undef : Value) :: (tm.getD 47 undef : Value) :: (tm.getD 48 undef : Value) :: (undef : Value) :: (undef : Value) :: (undef : Value) :: (undef : Value) :: (undef : Value) :: (undef : Value) :: (undef : Value) :: (undef : Value) :: (undef : Value) :: (undef : Value) :: (undef : Value) :: (undef : Value) :: (undef : Value) :: (undef : Value) :: (undef : Value) :: (undef : Value) :: (undef : Value) :: (undef : Value) :: (undef : Value) :: (undef : Value) :: (undef : Value) :: (undef : Value) :: (undef : Value) :: (undef : Value) :: (undef : Value) :: (undef : Value) :: (undef : Value) :: (undef : Value) :: (undef : Value) :: (undef : Value) :: (undef : Value) :: (undef : Value) :: (undef : Value) :: (undef : Value) :: (undef : Value) :: (undef : Value) :: (undef : Value) :: (undef : Value) :: []) hs (by show (tm.getD 0 undef :: tm.getD 1 undef :: tm.getD 2 undef :: tm.getD 3 undef :: tm.getD 4 undef :: tm.getD 5 undef :: tm.getD 6 undef :: tm.getD 7 undef :: tm.getD 8 undef :: tm.getD 9 undef :: tm.getD 10 undef :: tm.getD 11 undef :: tm.getD 12 undef :: tm.getD 13 undef :: tm.getD 14 undef :: tm.getD 15 undef :: tm.getD 16 undef :: tm.getD 17 undef :: tm.getD 18 undef :: tm.getD 19 undef :: tm.getD 20 undef :: tm.getD 21 undef :: tm.getD 22 undef :: tm.getD 23 undef :: tm.getD 24 undef :: tm.getD 25 undef :: tm.getD 26 undef :: tm.getD 27 undef :: tm.getD 28 undef :: tm.getD 29 undef :: tm.getD 30 undef :: tm.getD 31 undef :: tm.getD 32 undef :: tm.getD 33 undef :: tm.getD 34 undef :: tm.getD 35 undef :: tm.getD 36 undef :: tm.getD 37 undef :: tm.getD 38 undef :: tm.getD 39 undef :: tm.getD 40 undef :: tm.getD 41 undef :: tm.getD 42 undef :: tm.getD 43 undef :: tm.getD 44 undef :: tm.getD 45 undef :: tm.getD 46 undef :: tm.getD 47 undef :: tm.getD 48 undef :: tm.getD 49 undef :: tm.getD 50 undef :: tm.getD 51 undef :: tm.getD 52 undef :: tm.getD 53 undef :: tm.getD 54 undef :: tm.getD 55 undef :: tm.getD 56 undef :: tm.getD 57 undef :: tm.getD 58 undef :: tm.getD 59 undef :: tm.getD 60 undef :: tm.getD 61 undef :: tm.getD 62 undef :: tm.getD 63 undef :: tm.getD 64 undef :: tm.getD 65 undef :: tm.getD 66 undef :: tm.getD 67 undef :: tm.getD 68 undef :: tm.getD 69 undef :: tm.getD 70 undef :: tm.getD 71 undef :: tm.getD 72 undef :: tm.getD 73 undef :: tm.getD 74 undef :: tm.getD 75 undef :: tm.getD 76 undef :: tm.getD 77 undef :: tm.getD 78 undef :: tm.getD 79 undef :: tm.getD 80 undef :: tm.getD 81 undef :: tm.getD 82 undef :: tm.getD 83 undef :: tm.getD 84 undef :: tm.getD 85 undef :: tm.getD 86 undef :: []) = _; rw [e0, e1, e2, e3, e4, e5, e6, e7, e8, e9, e10, e11, e12, e13, e14, e15, e16, e17, e18, e19, e20, e21, e22, e23, e24, e25, e26, e27, e28, e29, e30, e31, e32, e33, e34, e35, e36, e37, e38, e39, e40, e49, e50, e51, e52, e53, e54, e55, e56, e57, e58, e59, e60, e61, e62, e63, e64, e65, e66, e67, e68, e69, e70, e71, e72, e73, e74, e75, e76, e77, e78, e79, e80, e81, e82, e83, e84, e85, e86]; try rfl)
            clear hs hk hG e0 e1 e2 e3 e4 e5 e6 e7 e8 e9 e10 e11 e12 e13 e14 e15 e16 e17 e18 e19 e20 e21 e22 e23 e24 e25 e26 e27 e28 e29 e30 e31 e32 e33 e34 e35 e36 e37 e38 e39 e40 e49 e50 e51 e52 e53 e54 e55 e56 e57 e58 e59 e60 e61 e62 e63 e64 e65 e66 e67 e68 e69 e70 e71 e72 e73 e74 e75 e76 e77 e78 e79 e80 e81 e82 e83 e84 e85 e86
            generalize tm.getD 41 undef = t41 at htm g41
            generalize tm.getD 42 undef = t42 at htm g42
            generalize tm.getD 43 undef = t43 at htm g43
            generalize tm.getD 44 undef = t44 at htm g44
            generalize tm.getD 45 undef = t45 at htm g45
            generalize tm.getD 46 undef = t46 at htm g46
            generalize tm.getD 47 undef = t47 at htm g47
            generalize tm.getD 48 undef = t48 at htm g48
            subst htm
            subst g41
            subst g47
            simp only [List.drop_succ_cons, List.drop_zero]
            have hA4 : Below w.heap.size w W := hA3.trans (hB.mono hA3.size)
            have hlen := nmM_len g45
            obtain ⟨gq, cz, rfl, hown⟩ := g46
            obtain ⟨gi, rfl, hgi, hgc⟩ := g48
            have hgt := hft.below hB
            have hgtc := hftc.below hB
            have hgbox := hfbox.below hB
            have hgl := hfl.below hB
            clear g42 g43 g44 g45
            obtain ⟨i0, hi, hz0, hz1, hz2⟩ := info_parts info3
            have h63 : (nmM [t, box, l]).length + 1 ≤ maxLen := by unfold maxLen; simp at hlen; omega
            have hby : ((nmM [t, box, l]).length + 1) * 8 ≤ 140737488355328 := by simp at hlen; omega
            have HO : Hid (∀ i u, [Value.int .i64 cat][i]? = some u → W.cell? ((⟨gi, 0, none⟩ : Addr).add i) = some u) := fun i u hu => by
              match i, hu with
              | 0, hu => simp at hu; subst hu; simpa [Addr.add] using hgc
            have hWs : W1.heap.size ≤ W.heap.size := hB.size
            obtain ⟨T, hT⟩ : ∃ T, nmM [t, box, l] = T := ⟨_, rfl⟩
            rw [hT] at hown h63 hby
            simp only [hT]
            have HLT := Lib.hid hown.lt
            have hTl : T.length ≤ 100 := by rw [← hT]; simp at hlen; omega
            clear hT hlen
            go_wp2_with (at_builtin; refine wpList_append_own _ rfl _ _ 43 rfl W1.heap.size 3 i0 (.int .i64 0) 1 8 Try.underlying43 hi hz0 hz1 hz2 rfl (by decide) _ _ _ rfl hown ⟨gi, 0, none⟩ 1 1 [.int .i64 cat] rfl rfl HO.out (fun x hx => by simp at hx; subst hx; rfl) h63 hby hWs ?_; intro v5 w5 hown5 hgrow5 hnil5; refine Hid.out ?_)
            refine Lib.hid ?_
            have hb5 : Below W1.heap.size W1 w5 := Below.grown hB hgrow5 hWs (fun j hj => (HLT.out _ hj).1)
            have hI : IV (T ++ [cat]) v5 w5 := by
              rw [show [Value.int .i64 cat] = icells [cat] from rfl, ← icells_append] at hown5
              exact ⟨W1.heap.size, by simpa using hown5⟩
            obtain ⟨cs, hcs⟩ : ∃ cs, T ++ [cat] = cs := ⟨_, rfl⟩
            rw [hcs] at hI
            have hlc : cs.length ≤ 200 := by rw [← hcs]; simp; omega
            obtain ⟨p, cz2, rfl⟩ := hI.form
            have HI := Lib.hid hI
            have hA5 : Below w.heap.size w w5 := hA3.trans (hb5.mono hA3.size)
            have hqt := hft.below hb5
            have hqtc := hftc.below hb5
            have hqbox := hfbox.below hb5
            have hql := hfl.below hb5
            clear hcs hI hown5 hgrow5 hnil5 hown HLT HO hgc hgi hA4 hb5 hB hft hftc hfbox hfl hgt hgtc hgbox hgl hA3 hi hz0 hz1 hz2 h63 hby hTl
            go_wp2_with fail
            go_loopw [51] (fun i wr => ∃ k : Nat, k ≤ cs.length ∧ i = .int .i64 k ∧ Below w5.heap.size w5 wr) (fun i _ => cs.length - (intOf i).toNat)
            case atStart => exact ⟨0, Nat.zero_le _, rfl, Below.refl _ _⟩
            case round =>
              obtain ⟨k, hk, rfl, hbw⟩ := hrel
              have hBw : Below w.heap.size w wr := hA5.trans (hbw.mono hA5.size)
              by_cases hlt : k < cs.length
              · obtain ⟨gz, rfl, hgz, c0w⟩ := iv_cell HI.out k hlt
                have c0 := (hbw.cell (p := ⟨gz, k, none⟩) hgz).trans c0w
                have hki : (k : Int) < (cs.length : Int) := by omega
                have HKk := Lib.hid (HK.out cs[k])
                have hrt := hqt.below hbw
                have hrtc := hqtc.below hbw
                have hrbox := hqbox.below hbw
                have hrl := hql.below hbw
                clear c0w HI hqt hqtc hqbox hql
                go_wp2_with fail
                refine wp_region_mono 13 (fun kq v W => match kq with | 55 => v = .pointer (some ⟨w.heap.size, 0, none⟩) | 56 => LV t v W | 57 => v = .int .i64 cs[k] | 58 => v = .int .i64 (aM t cs[k]) | 59 => LV box v W | 60 => v = .int .i64 cs[k] | 61 => v = .int .i64 (aM box cs[k]) | 62 => LV l v W | 63 => v = .int .i64 cs[k] | 64 => v = .int .i64 (aM l cs[k]) | 11 => v = .int .i64 (aM t cs[k]) | 12 => v = .int .i64 (aM box cs[k]) | 13 => v = .int .i64 (aM l cs[k]) | _ => True) (by kernel_rfl) (by kernel_rfl) (by kernel_rfl) (by kernel_rfl) (by simp) (by kernel_rfl) ?_ ?_ ?_
                · intro kq v W W' h hb
                  revert h
                  try dsimp only
                  split
                  · intro h; exact h
                  · intro h; exact LV.below h hb
                  · intro h; exact h
                  · intro h; exact h
                  · intro h; exact LV.below h hb
                  · intro h; exact h
                  · intro h; exact h
                  · intro h; exact LV.below h hb
                  · intro h; exact h
                  · intro h; exact h
                  · intro h; exact h
                  · intro h; exact h
                  · intro h; exact h
                  · intro h; trivial
                · intro a' W hB hs hk i o d ho hd hG
                  match i, ho with
                  | 0, ho =>
                    obtain rfl : _ = o := Option.some.inj ho
                    obtain rfl : 55 = d := Option.some.inj hd
                    exact .inr ⟨rfl, .inl ⟨_, W, run_fa0 (hk 4 (by kernel_rfl)), Below.refl _ _, rfl⟩⟩
                  | 1, ho =>
                    obtain rfl : _ = o := Option.some.inj ho
                    obtain rfl : 56 = d := Option.some.inj hd
                    have g55 : (a'.eval (.tmp 55)) = .pointer (some ⟨w.heap.size, 0, none⟩) := hG ⟨0, .data⟩ (by simp) rfl 55 rfl
                    obtain ⟨v, hr, hv⟩ := run_loadL (ev := a'.eval) (W := W) g55 (hrt.below hB)
                    exact .inr ⟨rfl, .inl ⟨v, W, hr, Below.refl _ _, hv⟩⟩
                  | 2, ho =>
                    obtain rfl : _ = o := Option.some.inj ho
                    obtain rfl : 57 = d := Option.some.inj hd
                    exact .inr ⟨rfl, .inl ⟨_, W, run_move (hk 10 (by kernel_rfl)), Below.refl _ _, rfl⟩⟩
                  | 3, ho =>
                    obtain rfl : _ = o := Option.some.inj ho
                    obtain rfl : 58 = d := Option.some.inj hd
                    have g56 : LV t (a'.eval (.tmp 56)) W := hG ⟨1, .data⟩ (by simp) rfl 56 rfl
                    have g57 : (a'.eval (.tmp 57)) = .int .i64 cs[k] := hG ⟨2, .data⟩ (by simp) rfl 57 rfl
                    exact .inr ⟨rfl, .inr ⟨_, _, run_call rfl map_2 ent_gatehouseref01_At, rAt_c' g56 g57⟩⟩
                  | 4, ho =>
                    obtain rfl : _ = o := Option.some.inj ho
                    obtain rfl : 59 = d := Option.some.inj hd
                    obtain ⟨v, hr, hv⟩ := run_loadL (ev := a'.eval) (W := W) (hk 5 (by kernel_rfl)) (hrbox.below hB)
                    exact .inr ⟨rfl, .inl ⟨v, W, hr, Below.refl _ _, hv⟩⟩
                  | 5, ho =>
                    obtain rfl : _ = o := Option.some.inj ho
                    obtain rfl : 60 = d := Option.some.inj hd
                    exact .inr ⟨rfl, .inl ⟨_, W, run_move (hk 10 (by kernel_rfl)), Below.refl _ _, rfl⟩⟩
                  | 6, ho =>
                    obtain rfl : _ = o := Option.some.inj ho
                    obtain rfl : 61 = d := Option.some.inj hd
                    have g59 : LV box (a'.eval (.tmp 59)) W := hG ⟨4, .data⟩ (by simp) rfl 59 rfl
                    have g60 : (a'.eval (.tmp 60)) = .int .i64 cs[k] := hG ⟨5, .data⟩ (by simp) rfl 60 rfl
                    exact .inr ⟨rfl, .inr ⟨_, _, run_call rfl map_2 ent_gatehouseref01_At, rAt_c' g59 g60⟩⟩
                  | 7, ho =>
                    obtain rfl : _ = o := Option.some.inj ho
                    obtain rfl : 62 = d := Option.some.inj hd
                    obtain ⟨v, hr, hv⟩ := run_loadL (ev := a'.eval) (W := W) (hk 6 (by kernel_rfl)) (hrl.below hB)
                    exact .inr ⟨rfl, .inl ⟨v, W, hr, Below.refl _ _, hv⟩⟩
                  | 8, ho =>
                    obtain rfl : _ = o := Option.some.inj ho
                    obtain rfl : 63 = d := Option.some.inj hd
                    exact .inr ⟨rfl, .inl ⟨_, W, run_move (hk 10 (by kernel_rfl)), Below.refl _ _, rfl⟩⟩
                  | 9, ho =>
                    obtain rfl : _ = o := Option.some.inj ho
                    obtain rfl : 64 = d := Option.some.inj hd
                    have g62 : LV l (a'.eval (.tmp 62)) W := hG ⟨7, .data⟩ (by simp) rfl 62 rfl
                    have g63 : (a'.eval (.tmp 63)) = .int .i64 cs[k] := hG ⟨8, .data⟩ (by simp) rfl 63 rfl
                    exact .inr ⟨rfl, .inr ⟨_, _, run_call rfl map_2 ent_gatehouseref01_At, rAt_c' g62 g63⟩⟩
                  | 10, ho =>
                    obtain rfl : _ = o := Option.some.inj ho
                    obtain rfl : 11 = d := Option.some.inj hd
                    have g58 : (a'.eval (.tmp 58)) = .int .i64 (aM t cs[k]) := hG ⟨3, .data⟩ (by simp) rfl 58 rfl
                    exact .inr ⟨rfl, .inl ⟨_, W, run_assign rfl, Below.refl _ _, g58⟩⟩
                  | 11, ho =>
                    obtain rfl : _ = o := Option.some.inj ho
                    obtain rfl : 12 = d := Option.some.inj hd
                    have g61 : (a'.eval (.tmp 61)) = .int .i64 (aM box cs[k]) := hG ⟨6, .data⟩ (by simp) rfl 61 rfl
                    exact .inr ⟨rfl, .inl ⟨_, W, run_assign rfl, Below.refl _ _, g61⟩⟩
                  | 12, ho =>
                    obtain rfl : _ = o := Option.some.inj ho
                    obtain rfl : 13 = d := Option.some.inj hd
                    have g64 : (a'.eval (.tmp 64)) = .int .i64 (aM l cs[k]) := hG ⟨9, .data⟩ (by simp) rfl 64 rfl
                    exact .inr ⟨rfl, .inl ⟨_, W, run_assign rfl, Below.refl _ _, g64⟩⟩
                  | j + 13, ho => simp at ho
                · intro a' W hB hs hdf hk hG
                  obtain ⟨tm, df⟩ := a'
                  obtain rfl : df = [] := hdf
                  have e0 : tm.getD 0 undef = .agg #[.int .i64 t.fst, .slice pt t.snd.length ct, .int .i64 tc.fst, .slice ptc tc.snd.length ctc] := hk 0 (by kernel_rfl)
                  have e1 : tm.getD 1 undef = .agg #[.int .i64 box.fst, .slice pbox box.snd.length cbox] := hk 1 (by kernel_rfl)
                  have e2 : tm.getD 2 undef = .agg #[.int .i64 l.fst, .slice pl l.snd.length cl] := hk 2 (by kernel_rfl)
                  have e3 : tm.getD 3 undef = .int .i64 cat := hk 3 (by kernel_rfl)
                  have e4 : tm.getD 4 undef = .pointer (some ⟨w.heap.size, 0, none⟩) := hk 4 (by kernel_rfl)
                  have e5 : tm.getD 5 undef = .pointer (some ⟨w.heap.size + 1, 0, none⟩) := hk 5 (by kernel_rfl)
                  have e6 : tm.getD 6 undef = .pointer (some ⟨w.heap.size + 1 + 1, 0, none⟩) := hk 6 (by kernel_rfl)
                  have e7 : tm.getD 7 undef = undef := hk 7 (by kernel_rfl)
                  have e8 : tm.getD 8 undef = u8 := hk 8 (by kernel_rfl)
                  have e9 : tm.getD 9 undef = undef := hk 9 (by kernel_rfl)
                  have e10 : tm.getD 10 undef = .int .i64 cs[k] := hk 10 (by kernel_rfl)
                  have e14 : tm.getD 14 undef = .bool true := hk 14 (by kernel_rfl)
                  have e15 : tm.getD 15 undef = .bool false := hk 15 (by kernel_rfl)
                  have e16 : tm.getD 16 undef = .pointer (some ⟨w.heap.size, 2, none⟩) := hk 16 (by kernel_rfl)
                  have e17 : tm.getD 17 undef = t17 := hk 17 (by kernel_rfl)
                  have e18 : tm.getD 18 undef = t18 := hk 18 (by kernel_rfl)
                  have e19 : tm.getD 19 undef = t19 := hk 19 (by kernel_rfl)
                  have e20 : tm.getD 20 undef = .bool (rightM tc && rightM box) := hk 20 (by kernel_rfl)
                  have e21 : tm.getD 21 undef = .bool (!rightM tc || !rightM box) := hk 21 (by kernel_rfl)
                  have e22 : tm.getD 22 undef = .bool (!rightM tc || !rightM box) := hk 22 (by kernel_rfl)
                  have e23 : tm.getD 23 undef = t23 := hk 23 (by kernel_rfl)
                  have e24 : tm.getD 24 undef = t24 := hk 24 (by kernel_rfl)
                  have e25 : tm.getD 25 undef = t25 := hk 25 (by kernel_rfl)
                  have e26 : tm.getD 26 undef = t26 := hk 26 (by kernel_rfl)
                  have e27 : tm.getD 27 undef = .bool (!rightM tc || !rightM box || !plainS t.fst t.snd) := hk 27 (by kernel_rfl)
                  have e28 : tm.getD 28 undef = .bool (!rightM tc || !rightM box || !plainS t.fst t.snd) := hk 28 (by kernel_rfl)
                  have e29 : tm.getD 29 undef = t29 := hk 29 (by kernel_rfl)
                  have e30 : tm.getD 30 undef = t30 := hk 30 (by kernel_rfl)
                  have e31 : tm.getD 31 undef = t31 := hk 31 (by kernel_rfl)
                  have e32 : tm.getD 32 undef = .bool false := hk 32 (by kernel_rfl)
                  have e33 : tm.getD 33 undef = .pointer (some ⟨w.heap.size, 0, none⟩) := hk 33 (by kernel_rfl)
                  have e34 : tm.getD 34 undef = t34 := hk 34 (by kernel_rfl)
                  have e35 : tm.getD 35 undef = .pointer (some ⟨w.heap.size, 2, none⟩) := hk 35 (by kernel_rfl)
                  have e36 : tm.getD 36 undef = t36 := hk 36 (by kernel_rfl)
                  have e37 : tm.getD 37 undef = t37 := hk 37 (by kernel_rfl)
                  have e38 : tm.getD 38 undef = t38 := hk 38 (by kernel_rfl)
                  have e39 : tm.getD 39 undef = .int .i64 (makeI t tc box l) := hk 39 (by kernel_rfl)
                  have e40 : tm.getD 40 undef = .bool false := hk 40 (by kernel_rfl)
                  have e41 : tm.getD 41 undef = .pointer (some ⟨w.heap.size, 0, none⟩) := hk 41 (by kernel_rfl)
                  have e42 : tm.getD 42 undef = t42 := hk 42 (by kernel_rfl)
                  have e43 : tm.getD 43 undef = t43 := hk 43 (by kernel_rfl)
                  have e44 : tm.getD 44 undef = t44 := hk 44 (by kernel_rfl)
                  have e45 : tm.getD 45 undef = t45 := hk 45 (by kernel_rfl)
                  have e46 : tm.getD 46 undef = .slice (some ⟨gq, 0, none⟩) T.length cz := hk 46 (by kernel_rfl)
                  have e47 : tm.getD 47 undef = .int .i64 cat := hk 47 (by kernel_rfl)
                  have e48 : tm.getD 48 undef = .slice (some ⟨gi, 0, none⟩) 1 1 := hk 48 (by kernel_rfl)
                  have e49 : tm.getD 49 undef = .slice (some ⟨gz, 0, none⟩) cs.length cz2 := hk 49 (by kernel_rfl)
                  have e50 : tm.getD 50 undef = .int .i64 cs.length := hk 50 (by kernel_rfl)
                  have e51 : tm.getD 51 undef = .int .i64 k := hk 51 (by kernel_rfl)
                  have e52 : tm.getD 52 undef = .bool true := hk 52 (by kernel_rfl)
                  have e53 : tm.getD 53 undef = .pointer (some { block := gz, off := k }) := hk 53 (by kernel_rfl)
                  have e54 : tm.getD 54 undef = .int .i64 cs[k] := hk 54 (by kernel_rfl)
                  have e65 : tm.getD 65 undef = u65 := hk 65 (by kernel_rfl)
                  have e66 : tm.getD 66 undef = u66 := hk 66 (by kernel_rfl)
                  have e67 : tm.getD 67 undef = u67 := hk 67 (by kernel_rfl)
                  have e68 : tm.getD 68 undef = u68 := hk 68 (by kernel_rfl)
                  have e69 : tm.getD 69 undef = u69 := hk 69 (by kernel_rfl)
                  have e70 : tm.getD 70 undef = u70 := hk 70 (by kernel_rfl)
                  have e71 : tm.getD 71 undef = u71 := hk 71 (by kernel_rfl)
                  have e72 : tm.getD 72 undef = u72 := hk 72 (by kernel_rfl)
                  have e73 : tm.getD 73 undef = u73 := hk 73 (by kernel_rfl)
                  have e74 : tm.getD 74 undef = u74 := hk 74 (by kernel_rfl)
                  have e75 : tm.getD 75 undef = u75 := hk 75 (by kernel_rfl)
                  have e76 : tm.getD 76 undef = u76 := hk 76 (by kernel_rfl)
                  have e77 : tm.getD 77 undef = u77 := hk 77 (by kernel_rfl)
                  have e78 : tm.getD 78 undef = u78 := hk 78 (by kernel_rfl)
                  have e79 : tm.getD 79 undef = u79 := hk 79 (by kernel_rfl)
                  have e80 : tm.getD 80 undef = u80 := hk 80 (by kernel_rfl)
                  have e81 : tm.getD 81 undef = u81 := hk 81 (by kernel_rfl)
                  have e82 : tm.getD 82 undef = u82 := hk 82 (by kernel_rfl)
                  have e83 : tm.getD 83 undef = u83 := hk 83 (by kernel_rfl)
                  have e84 : tm.getD 84 undef = u84 := hk 84 (by kernel_rfl)
                  have e85 : tm.getD 85 undef = u85 := hk 85 (by kernel_rfl)
                  have e86 : tm.getD 86 undef = u86 := hk 86 (by kernel_rfl)
                  have g55 : (tm.getD 55 undef) = .pointer (some ⟨w.heap.size, 0, none⟩) := hG 0 55 (by decide) rfl
                  have g56 : LV t (tm.getD 56 undef) W := hG 1 56 (by decide) rfl
                  have g57 : (tm.getD 57 undef) = .int .i64 cs[k] := hG 2 57 (by decide) rfl
                  have g58 : (tm.getD 58 undef) = .int .i64 (aM t cs[k]) := hG 3 58 (by decide) rfl
                  have g59 : LV box (tm.getD 59 undef) W := hG 4 59 (by decide) rfl
                  have g60 : (tm.getD 60 undef) = .int .i64 cs[k] := hG 5 60 (by decide) rfl
                  have g61 : (tm.getD 61 undef) = .int .i64 (aM box cs[k]) := hG 6 61 (by decide) rfl
                  have g62 : LV l (tm.getD 62 undef) W := hG 7 62 (by decide) rfl
                  have g63 : (tm.getD 63 undef) = .int .i64 cs[k] := hG 8 63 (by decide) rfl
                  have g64 : (tm.getD 64 undef) = .int .i64 (aM l cs[k]) := hG 9 64 (by decide) rfl
                  have g11 : (tm.getD 11 undef) = .int .i64 (aM t cs[k]) := hG 10 11 (by decide) rfl
                  have g12 : (tm.getD 12 undef) = .int .i64 (aM box cs[k]) := hG 11 12 (by decide) rfl
                  have g13 : (tm.getD 13 undef) = .int .i64 (aM l cs[k]) := hG 12 13 (by decide) rfl
                  have htm := arr_of tm ((.agg #[.int .i64 t.fst, .slice pt t.snd.length ct, .int .i64 tc.fst, .slice ptc tc.snd.length ctc] : Value) :: (.agg #[.int .i64 box.fst, .slice pbox box.snd.length cbox] : Value) :: (.agg #[.int .i64 l.fst, .slice pl l.snd.length cl] : Value) :: (.int .i64 cat : Value) :: (.pointer (some ⟨w.heap.size, 0, none⟩) : Value) :: (.pointer (some ⟨w.heap.size + 1, 0, none⟩) : Value) :: (.pointer (some ⟨w.heap.size + 1 + 1, 0, none⟩) : Value) :: (undef : Value) :: (u8 : Value) :: (undef : Value) :: (.int .i64 cs[k] : Value) :: (tm.getD 11 undef : Value) :: (tm.getD 12 undef : Value) :: (tm.getD 13 undef : Value) :: (.bool true : Value) :: (.bool false : Value) :: (.pointer (some ⟨w.heap.size, 2, none⟩) : Value) :: (t17 : Value) :: (t18 : Value) :: (t19 : Value) :: (.bool (rightM tc && rightM box) : Value) :: (.bool (!rightM tc || !rightM box) : Value) :: (.bool (!rightM tc || !rightM box) : Value) :: (t23 : Value) :: (t24 : Value) :: (t25 : Value) :: (t26 : Value) :: (.bool (!rightM tc || !rightM box || !plainS t.fst t.snd) : Value) :: (.bool (!rightM tc || !rightM box || !plainS t.fst t.snd) : Value) :: (t29 : Value) :: (t30 : Value) :: (t31 : Value) :: (.bool false : Value) :: (.pointer (some ⟨w.heap.size, 0, none⟩) : Value) :: (t34 : Value) :: (.pointer (some ⟨w.heap.size, 2, none⟩) : Value) :: (t36 : Value) :: (t37 : Value) :: (t38 : Value) :: (.int .i64 (makeI t tc box l) : Value) :: (.bool false : Value) :: (.pointer (some ⟨w.heap.size, 0, none⟩) : Value) :: (t42 : Value) :: (t43 : Value) :: (t44 : Value) :: (t45 : Value) :: (.slice (some ⟨gq, 0, none⟩) T.length cz : Value) :: (.int .i64 cat : Value) :: (.slice (some ⟨gi, 0, none⟩) 1 1 : Value) :: (.slice (some ⟨gz, 0, none⟩) cs.length cz2 : Value) :: (.int .i64 cs.length : Value) :: (.int .i64 k : Value) :: (.bool true : Value) :: (.pointer (some { block := gz, off := k }) : Value) :: (.int .i64 cs[k] : Value) :: (tm.getD 55 undef : Value) :: (tm.getD 56 undef : Value) :: (tm.getD 57 undef : Value) :: (tm.getD 58 undef : Value) :: (tm.getD 59 undef : Value) :: (tm.getD 60 undef : Value) :: (tm.getD 61 undef : Value) :: (tm.getD 62 undef : Value) :: (tm.getD 63 undef : Value) :: (tm.getD 64 undef : Value) :: (u65 : Value) :: (u66 : Value) :: (u67 : Value) :: (u68 : Value) :: (u69 : Value) :: (u70 : Value) :: (u71 : Value) :: (u72 : Value) :: (u73 : Value) :: (u74 : Value) :: (u75 : Value) :: (u76 : Value) :: (u77 : Value) :: (u78 : Value) :: (u79 : Value) :: (u80 : Value) :: (u81 : Value) :: (u82 : Value) :: (u83 : Value) :: (u84 : Value) :: (u85 : Value) :: (u86 : Value) :: []) hs (by show (tm.getD 0 undef :: tm.getD 1 undef :: tm.getD 2 undef :: tm.getD 3 undef :: tm.getD 4 undef :: tm.getD 5 undef :: tm.getD 6 undef :: tm.getD 7 undef :: tm.getD 8 undef :: tm.getD 9 undef :: tm.getD 10 undef :: tm.getD 11 undef :: tm.getD 12 undef :: tm.getD 13 undef :: tm.getD 14 undef :: tm.getD 15 undef :: tm.getD 16 undef :: tm.getD 17 undef :: tm.getD 18 undef :: tm.getD 19 undef :: tm.getD 20 undef :: tm.getD 21 undef :: tm.getD 22 undef :: tm.getD 23 undef :: tm.getD 24 undef :: tm.getD 25 undef :: tm.getD 26 undef :: tm.getD 27 undef :: tm.getD 28 undef :: tm.getD 29 undef :: tm.getD 30 undef :: tm.getD 31 undef :: tm.getD 32 undef :: tm.getD 33 undef :: tm.getD 34 undef :: tm.getD 35 undef :: tm.getD 36 undef :: tm.getD 37 undef :: tm.getD 38 undef :: tm.getD 39 undef :: tm.getD 40 undef :: tm.getD 41 undef :: tm.getD 42 undef :: tm.getD 43 undef :: tm.getD 44 undef :: tm.getD 45 undef :: tm.getD 46 undef :: tm.getD 47 undef :: tm.getD 48 undef :: tm.getD 49 undef :: tm.getD 50 undef :: tm.getD 51 undef :: tm.getD 52 undef :: tm.getD 53 undef :: tm.getD 54 undef :: tm.getD 55 undef :: tm.getD 56 undef :: tm.getD 57 undef :: tm.getD 58 undef :: tm.getD 59 undef :: tm.getD 60 undef :: tm.getD 61 undef :: tm.getD 62 undef :: tm.getD 63 undef :: tm.getD 64 undef :: tm.getD 65 undef :: tm.getD 66 undef :: tm.getD 67 undef :: tm.getD 68 undef :: tm.getD 69 undef :: tm.getD 70 undef :: tm.getD 71 undef :: tm.getD 72 undef :: tm.getD 73 undef :: tm.getD 74 undef :: tm.getD 75 undef :: tm.getD 76 undef :: tm.getD 77 undef :: tm.getD 78 undef :: tm.getD 79 undef :: tm.getD 80 undef :: tm.getD 81 undef :: tm.getD 82 undef :: tm.getD 83 undef :: tm.getD 84 undef :: tm.getD 85 undef :: tm.getD 86 undef :: []) = _; rw [e0, e1, e2, e3, e4, e5, e6, e7, e8, e9, e10, e14, e15, e16, e17, e18, e19, e20, e21, e22, e23, e24, e25, e26, e27, e28, e29, e30, e31, e32, e33, e34, e35, e36, e37, e38, e39, e40, e41, e42, e43, e44, e45, e46, e47, e48, e49, e50, e51, e52, e53, e54, e65, e66, e67, e68, e69, e70, e71, e72, e73, e74, e75, e76, e77, e78, e79, e80, e81, e82, e83, e84, e85, e86]; try rfl)
                  clear hs hk hG e0 e1 e2 e3 e4 e5 e6 e7 e8 e9 e10 e14 e15 e16 e17 e18 e19 e20 e21 e22 e23 e24 e25 e26 e27 e28 e29 e30 e31 e32 e33 e34 e35 e36 e37 e38 e39 e40 e41 e42 e43 e44 e45 e46 e47 e48 e49 e50 e51 e52 e53 e54 e65 e66 e67 e68 e69 e70 e71 e72 e73 e74 e75 e76 e77 e78 e79 e80 e81 e82 e83 e84 e85 e86
                  generalize tm.getD 55 undef = t55 at htm g55
                  generalize tm.getD 56 undef = t56 at htm g56
                  generalize tm.getD 57 undef = t57 at htm g57
                  generalize tm.getD 58 undef = t58 at htm g58
                  generalize tm.getD 59 undef = t59 at htm g59
                  generalize tm.getD 60 undef = t60 at htm g60
                  generalize tm.getD 61 undef = t61 at htm g61
                  generalize tm.getD 62 undef = t62 at htm g62
                  generalize tm.getD 63 undef = t63 at htm g63
                  generalize tm.getD 64 undef = t64 at htm g64
                  generalize tm.getD 11 undef = t11 at htm g11
                  generalize tm.getD 12 undef = t12 at htm g12
                  generalize tm.getD 13 undef = t13 at htm g13
                  subst htm
                  subst g55
                  subst g57
                  subst g58
                  subst g60
                  subst g61
                  subst g63
                  subst g64
                  subst g11
                  subst g12
                  subst g13
                  simp only [List.drop_succ_cons, List.drop_zero]
                  have HB : Hid (Below w5.heap.size w5 W) := hbw.trans (hB.mono hbw.size)
                  obtain ⟨k1, k2, k3⟩ := HKk.out
                  obtain ⟨x, hx⟩ : ∃ x, aM t cs[k] = x := ⟨_, rfl⟩
                  obtain ⟨y, hy⟩ : ∃ y, aM box cs[k] = y := ⟨_, rfl⟩
                  obtain ⟨z, hz⟩ : ∃ z, aM l cs[k] = z := ⟨_, rfl⟩
                  rw [hx, hz] at k1
                  rw [hy, hz] at k2
                  rw [hx, hy] at k3
                  simp only [hx, hy, hz]
                  clear hx hy hz hB hbw hBw HKk HK hA5 hrt hrtc hrbox hrl g56 g59 g62
                  have d1 : decide (z < x) = false := by simp; omega
                  clear k1
                  by_cases q1 : z < y
                  · have d2 : decide (z < y) = true := by simp [q1]
                    have d3 : decide (2 < y) = false := by simp; omega
                    clear k2 q1
                    by_cases q2 : x = 0
                    · have d4 : (x != 0) = false := by simp [q2]
                      have d4' : (x == 0) = true := by simp [q2]
                      clear k3 q2
                      go_wp2
                      go_roundw
                      case rel => exact ⟨k + 1, by omega, by go_num, HB.out⟩
                      case measure => simp [intOf]; omega
                    · have d4 : (x != 0) = true := by simp [q2]
                      have d4' : (x == 0) = false := by simp [q2]
                      have d5 : (y == x) = true := by simp; omega
                      have d5' : (y != x) = false := by simp; omega
                      clear k3 q2
                      go_wp2
                      go_roundw
                      case rel => exact ⟨k + 1, by omega, by go_num, HB.out⟩
                      case measure => simp [intOf]; omega
                  · have d2 : decide (z < y) = false := by simp; omega
                    clear k2 q1
                    by_cases q2 : x = 0
                    · have d4 : (x != 0) = false := by simp [q2]
                      have d4' : (x == 0) = true := by simp [q2]
                      clear k3 q2
                      go_wp2
                      go_roundw
                      case rel => exact ⟨k + 1, by omega, by go_num, HB.out⟩
                      case measure => simp [intOf]; omega
                    · have d4 : (x != 0) = true := by simp [q2]
                      have d4' : (x == 0) = false := by simp [q2]
                      have d5 : (y == x) = true := by simp; omega
                      have d5' : (y != x) = false := by simp; omega
                      clear k3 q2
                      go_wp2
                      go_roundw
                      case rel => exact ⟨k + 1, by omega, by go_num, HB.out⟩
                      case measure => simp [intOf]; omega
              · obtain rfl : k = cs.length := by omega
                have hkk : ¬ (cs.length : Int) < (cs.length : Int) := by omega
                clear HI HK
                go_wp2
                go_ret
                exact ⟨rfl, hBw⟩
end Go.Proofs.Ytnjmgholoigpkaa
