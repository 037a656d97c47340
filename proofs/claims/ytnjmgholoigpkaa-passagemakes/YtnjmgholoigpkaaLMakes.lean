/- PassageMakes: the walk of the statement. -/
import Derived.Test.YtnjmgholoigpkaaGen
namespace Go.Proofs.Ytnjmgholoigpkaa
open Go.RowKit Go.Sort
set_option maxRecDepth 100000 in
set_option maxHeartbeats 2000000 in
theorem PassageMakes_any (t tc box l : ML) (pt ptc pbox pl : Option Addr) (ct ctc cbox cl : Nat) (w : World) (ht : CatsAt w pt t.2) (lt : t.2.length ≤ ct) (mt : t.2.length ≤ maxLen) (htc : CatsAt w ptc tc.2) (ltc : tc.2.length ≤ ctc) (mtc : tc.2.length ≤ maxLen) (hbox : CatsAt w pbox box.2) (lbox : box.2.length ≤ cbox) (mbox : box.2.length ≤ maxLen) (hl : CatsAt w pl l.2) (ll : l.2.length ≤ cl) (ml : l.2.length ≤ maxLen) :
    Calls Try.prog 3 #[.agg #[.int .i64 t.1, .slice pt t.2.length ct, .int .i64 tc.1, .slice ptc tc.2.length ctc], .agg #[.int .i64 box.1, .slice pbox box.2.length cbox], .agg #[.int .i64 l.1, .slice pl l.2.length cl]] w fun e w' => e = .returned (.bool true) ∧ Below w.heap.size w w' := by
  obtain ⟨W0, hW0⟩ : ∃ W0, W0 = (((w.alloc (.cells #[.int .i64 t.1, .slice pt t.2.length ct, .int .i64 tc.1, .slice ptc tc.2.length ctc] 26)).alloc (.cells #[.int .i64 box.1, .slice pbox box.2.length cbox] 24)).alloc (.cells #[.int .i64 l.1, .slice pl l.2.length cl] 24)) := ⟨_, rfl⟩
  have hA : Below w.heap.size w W0 := by rw [hW0]; go_grown
  have hbt : LBg t W0 (w.heap.size) 0 := ⟨pt, ct, by rw [hW0]; simp <;> omega, by rw [hW0]; simp [go_sem], by rw [hW0]; simp [go_sem], ht.below hA, lt, mt⟩
  have hbtc : LBg tc W0 (w.heap.size) 2 := ⟨ptc, ctc, by rw [hW0]; simp <;> omega, by rw [hW0]; simp [go_sem], by rw [hW0]; simp [go_sem], htc.below hA, ltc, mtc⟩
  have hbbox : LBg box W0 (w.heap.size + 1) 0 := ⟨pbox, cbox, by rw [hW0]; simp <;> omega, by rw [hW0]; simp [go_sem], by rw [hW0]; simp [go_sem], hbox.below hA, lbox, mbox⟩
  have hbl : LBg l W0 (w.heap.size + 1 + 1) 0 := ⟨pl, cl, by rw [hW0]; simp <;> omega, by rw [hW0]; simp [go_sem], by rw [hW0]; simp [go_sem], hl.below hA, ll, ml⟩
  go_enter Try.func3, Try.ntmps3
  go_upto_region 3 with (go_at_call 9; rw [← hW0]; refine (lives_c _).mono ?_; rintro e w1 ⟨rfl, hb1⟩)
  have hct := hbt.below hb1
  have hctc := hbtc.below hb1
  have hcbox := hbbox.below hb1
  have hcl := hbl.below hb1
  have hA1 : Below w.heap.size w w1 := hA.trans (hb1.mono hA.size)
  refine wp_region_monoF 9 (fun kq v W => match kq with | 9 => v = .pointer (some ⟨w.heap.size, 0, none⟩) | 10 => LVg t v W | 11 => v = .pointer (some ⟨w.heap.size, 2, none⟩) | 12 => LVg tc v W | 13 => LVg box v W | 14 => LVg l v W | 15 => LsVg [t, tc, box, l] v W | 16 => v = .bool ([t, tc, box, l].all rightM) | 17 => v = .bool (!([t, tc, box, l].all rightM)) | _ => True) (by kernel_rfl) (by kernel_rfl) (by simp) ?_ ?_ ?_
  · intro kq v W W' h hb
    revert h
    try dsimp only
    split
    · intro h; exact h
    · intro h; exact LVg.below h hb
    · intro h; exact h
    · intro h; exact LVg.below h hb
    · intro h; exact LVg.below h hb
    · intro h; exact LVg.below h hb
    · intro h; exact LsVg.below h hb
    · intro h; exact h
    · intro h; exact h
    · intro h; trivial
  · intro a' W hB hs hk i o d ho hd hG
    match i, ho with
    | 0, ho =>
      obtain rfl : _ = o := Option.some.inj ho
      obtain rfl : 9 = d := Option.some.inj hd
      exact .inr ⟨rfl, .inl ⟨_, W, run_fa0 (hk 3 (by kernel_rfl)), Below.refl _ _, rfl⟩⟩
    | 1, ho =>
      obtain rfl : _ = o := Option.some.inj ho
      obtain rfl : 10 = d := Option.some.inj hd
      have g9 : (a'.eval (.tmp 9)) = .pointer (some ⟨w.heap.size, 0, none⟩) := hG ⟨0, .data⟩ (by simp) rfl 9 rfl
      obtain ⟨v, hr, hv⟩ := run_loadLg (ev := a'.eval) (W := W) g9 (hct.below hB)
      exact .inr ⟨rfl, .inl ⟨v, W, hr, Below.refl _ _, hv⟩⟩
    | 2, ho =>
      obtain rfl : _ = o := Option.some.inj ho
      obtain rfl : 11 = d := Option.some.inj hd
      exact .inr ⟨rfl, .inl ⟨_, W, run_fa1 (hk 3 (by kernel_rfl)), Below.refl _ _, rfl⟩⟩
    | 3, ho =>
      obtain rfl : _ = o := Option.some.inj ho
      obtain rfl : 12 = d := Option.some.inj hd
      have g11 : (a'.eval (.tmp 11)) = .pointer (some ⟨w.heap.size, 2, none⟩) := hG ⟨2, .data⟩ (by simp) rfl 11 rfl
      obtain ⟨v, hr, hv⟩ := run_loadLg (ev := a'.eval) (W := W) g11 (hctc.below hB)
      exact .inr ⟨rfl, .inl ⟨v, W, hr, Below.refl _ _, hv⟩⟩
    | 4, ho =>
      obtain rfl : _ = o := Option.some.inj ho
      obtain rfl : 13 = d := Option.some.inj hd
      obtain ⟨v, hr, hv⟩ := run_loadLg (ev := a'.eval) (W := W) (hk 4 (by kernel_rfl)) (hcbox.below hB)
      exact .inr ⟨rfl, .inl ⟨v, W, hr, Below.refl _ _, hv⟩⟩
    | 5, ho =>
      obtain rfl : _ = o := Option.some.inj ho
      obtain rfl : 14 = d := Option.some.inj hd
      obtain ⟨v, hr, hv⟩ := run_loadLg (ev := a'.eval) (W := W) (hk 5 (by kernel_rfl)) (hcl.below hB)
      exact .inr ⟨rfl, .inl ⟨v, W, hr, Below.refl _ _, hv⟩⟩
    | 6, ho =>
      obtain rfl : _ = o := Option.some.inj ho
      obtain rfl : 15 = d := Option.some.inj hd
      have g10 : LVg t (a'.eval (.tmp 10)) W := hG ⟨1, .data⟩ (by simp) rfl 10 rfl
      have g12 : LVg tc (a'.eval (.tmp 12)) W := hG ⟨3, .data⟩ (by simp) rfl 12 rfl
      have g13 : LVg box (a'.eval (.tmp 13)) W := hG ⟨4, .data⟩ (by simp) rfl 13 rfl
      have g14 : LVg l (a'.eval (.tmp 14)) W := hG ⟨5, .data⟩ (by simp) rfl 14 rfl
      obtain ⟨v, W', hr, hb, hv⟩ := run_slice4g (ev := a'.eval) (W := W) rfl rfl rfl rfl g10 g12 g13 g14
      exact .inr ⟨rfl, .inl ⟨v, W', hr, hb, hv⟩⟩
    | 7, ho =>
      obtain rfl : _ = o := Option.some.inj ho
      obtain rfl : 16 = d := Option.some.inj hd
      have g15 : LsVg [t, tc, box, l] (a'.eval (.tmp 15)) W := hG ⟨6, .data⟩ (by simp) rfl 15 rfl
      exact .inr ⟨rfl, .inr ⟨_, _, run_call rfl map_1 ent_gatehouselaw07_right, right_c g15 (by simp)⟩⟩
    | 8, ho =>
      obtain rfl : _ = o := Option.some.inj ho
      obtain rfl : 17 = d := Option.some.inj hd
      have g16 : (a'.eval (.tmp 16)) = .bool ([t, tc, box, l].all rightM) := hG ⟨7, .data⟩ (by simp) rfl 16 rfl
      exact .inr ⟨rfl, .inl ⟨_, W, run_not g16, Below.refl _ _, rfl⟩⟩
    | j + 9, ho => simp at ho
  · intro a' W hB hs hdf hk hG
    obtain ⟨tm, df⟩ := a'
    obtain rfl : df = [] := hdf
    have e0 : tm.getD 0 undef = .agg #[.int .i64 t.fst, .slice pt t.snd.length ct, .int .i64 tc.fst, .slice ptc tc.snd.length ctc] := hk 0 (by kernel_rfl)
    have e1 : tm.getD 1 undef = .agg #[.int .i64 box.fst, .slice pbox box.snd.length cbox] := hk 1 (by kernel_rfl)
    have e2 : tm.getD 2 undef = .agg #[.int .i64 l.fst, .slice pl l.snd.length cl] := hk 2 (by kernel_rfl)
    have e3 : tm.getD 3 undef = .pointer (some ⟨w.heap.size, 0, none⟩) := hk 3 (by kernel_rfl)
    have e4 : tm.getD 4 undef = .pointer (some ⟨w.heap.size + 1, 0, none⟩) := hk 4 (by kernel_rfl)
    have e5 : tm.getD 5 undef = .pointer (some ⟨w.heap.size + 1 + 1, 0, none⟩) := hk 5 (by kernel_rfl)
    have e6 : tm.getD 6 undef = .bool false := hk 6 (by kernel_rfl)
    have e7 : tm.getD 7 undef = .bool true := hk 7 (by kernel_rfl)
    have e8 : tm.getD 8 undef = .bool false := hk 8 (by kernel_rfl)
    have e18 : tm.getD 18 undef = undef := hk 18 (by kernel_rfl)
    have e19 : tm.getD 19 undef = undef := hk 19 (by kernel_rfl)
    have e20 : tm.getD 20 undef = undef := hk 20 (by kernel_rfl)
    have e21 : tm.getD 21 undef = undef := hk 21 (by kernel_rfl)
    have e22 : tm.getD 22 undef = undef := hk 22 (by kernel_rfl)
    have e23 : tm.getD 23 undef = undef := hk 23 (by kernel_rfl)
    have e24 : tm.getD 24 undef = undef := hk 24 (by kernel_rfl)
    have e25 : tm.getD 25 undef = undef := hk 25 (by kernel_rfl)
    have e26 : tm.getD 26 undef = undef := hk 26 (by kernel_rfl)
    have e27 : tm.getD 27 undef = undef := hk 27 (by kernel_rfl)
    have e28 : tm.getD 28 undef = undef := hk 28 (by kernel_rfl)
    have e29 : tm.getD 29 undef = undef := hk 29 (by kernel_rfl)
    have e30 : tm.getD 30 undef = undef := hk 30 (by kernel_rfl)
    have e31 : tm.getD 31 undef = undef := hk 31 (by kernel_rfl)
    have e32 : tm.getD 32 undef = undef := hk 32 (by kernel_rfl)
    have g9 : (tm.getD 9 undef) = .pointer (some ⟨w.heap.size, 0, none⟩) := hG 0 9 (by decide) rfl
    have g10 : LVg t (tm.getD 10 undef) W := hG 1 10 (by decide) rfl
    have g11 : (tm.getD 11 undef) = .pointer (some ⟨w.heap.size, 2, none⟩) := hG 2 11 (by decide) rfl
    have g12 : LVg tc (tm.getD 12 undef) W := hG 3 12 (by decide) rfl
    have g13 : LVg box (tm.getD 13 undef) W := hG 4 13 (by decide) rfl
    have g14 : LVg l (tm.getD 14 undef) W := hG 5 14 (by decide) rfl
    have g15 : LsVg [t, tc, box, l] (tm.getD 15 undef) W := hG 6 15 (by decide) rfl
    have g16 : (tm.getD 16 undef) = .bool ([t, tc, box, l].all rightM) := hG 7 16 (by decide) rfl
    have g17 : (tm.getD 17 undef) = .bool (!([t, tc, box, l].all rightM)) := hG 8 17 (by decide) rfl
    have htm := arr_of tm [.agg #[.int .i64 t.fst, .slice pt t.snd.length ct, .int .i64 tc.fst, .slice ptc tc.snd.length ctc], .agg #[.int .i64 box.fst, .slice pbox box.snd.length cbox], .agg #[.int .i64 l.fst, .slice pl l.snd.length cl], .pointer (some ⟨w.heap.size, 0, none⟩), .pointer (some ⟨w.heap.size + 1, 0, none⟩), .pointer (some ⟨w.heap.size + 1 + 1, 0, none⟩), .bool false, .bool true, .bool false, tm.getD 9 undef, tm.getD 10 undef, tm.getD 11 undef, tm.getD 12 undef, tm.getD 13 undef, tm.getD 14 undef, tm.getD 15 undef, tm.getD 16 undef, tm.getD 17 undef, undef, undef, undef, undef, undef, undef, undef, undef, undef, undef, undef, undef, undef, undef, undef] hs (by show [tm.getD 0 undef, tm.getD 1 undef, tm.getD 2 undef, tm.getD 3 undef, tm.getD 4 undef, tm.getD 5 undef, tm.getD 6 undef, tm.getD 7 undef, tm.getD 8 undef, tm.getD 9 undef, tm.getD 10 undef, tm.getD 11 undef, tm.getD 12 undef, tm.getD 13 undef, tm.getD 14 undef, tm.getD 15 undef, tm.getD 16 undef, tm.getD 17 undef, tm.getD 18 undef, tm.getD 19 undef, tm.getD 20 undef, tm.getD 21 undef, tm.getD 22 undef, tm.getD 23 undef, tm.getD 24 undef, tm.getD 25 undef, tm.getD 26 undef, tm.getD 27 undef, tm.getD 28 undef, tm.getD 29 undef, tm.getD 30 undef, tm.getD 31 undef, tm.getD 32 undef] = _; rw [e0, e1, e2, e3, e4, e5, e6, e7, e8, e18, e19, e20, e21, e22, e23, e24, e25, e26, e27, e28, e29, e30, e31, e32])
    clear hs hk hG e0 e1 e2 e3 e4 e5 e6 e7 e8 e18 e19 e20 e21 e22 e23 e24 e25 e26 e27 e28 e29 e30 e31 e32
    generalize tm.getD 9 undef = t9 at htm g9
    generalize tm.getD 10 undef = t10 at htm g10
    generalize tm.getD 11 undef = t11 at htm g11
    generalize tm.getD 12 undef = t12 at htm g12
    generalize tm.getD 13 undef = t13 at htm g13
    generalize tm.getD 14 undef = t14 at htm g14
    generalize tm.getD 15 undef = t15 at htm g15
    generalize tm.getD 16 undef = t16 at htm g16
    generalize tm.getD 17 undef = t17 at htm g17
    subst htm
    subst g9
    subst g11
    subst g16
    subst g17
    simp only [List.drop_succ_cons, List.drop_zero]
    have hA2 : Below w.heap.size w W := hA1.trans (hB.mono hA1.size)
    have hdt := hct.below hB
    have hdtc := hctc.below hB
    have hdbox := hcbox.below hB
    have hdl := hcl.below hB
    clear g10 g12 g13 g14 g15
    obtain ⟨x, hx⟩ : ∃ x, ([t, tc, box, l].all rightM) = x := ⟨_, rfl⟩
    simp only [hx]
    cases x with
    | false =>
      clear hx
      go_wp2
      go_ret
      exact ⟨rfl, hA2⟩
    | true =>
      have hR : rightM t = true ∧ rightM tc = true ∧ rightM box = true ∧ rightM l = true := by simpa using hx
      obtain ⟨rt, rtc, rbox, rl⟩ := hR
      have HE := Lib.hid (make_eq (okL rt) (okL rtc) (okL rbox) (okL rl))
      have het := hdt.ok (right16 rt)
      have hetc := hdtc.ok (right16 rtc)
      have hebox := hdbox.ok (right16 rbox)
      have hel := hdl.ok (right16 rl)
      clear hx rt rtc rbox rl
      go_wp2_with fail
      refine wp_region_mono 15 (fun kq v W => match kq with | 18 => v = .pointer (some ⟨w.heap.size, 0, none⟩) | 19 => LV t v W | 20 => v = .pointer (some ⟨w.heap.size, 2, none⟩) | 21 => LV tc v W | 22 => LV box v W | 23 => LV l v W | 24 => v = .int .i64 (makeI t tc box l) | 25 => v = .pointer (some ⟨w.heap.size, 0, none⟩) | 26 => LV t v W | 27 => v = .pointer (some ⟨w.heap.size, 2, none⟩) | 28 => LV tc v W | 29 => LV box v W | 30 => LV l v W | 31 => v = .int .i64 (rmakeI t tc box l) | 32 => v = .bool ((makeI t tc box l) == (rmakeI t tc box l)) | _ => True) (by kernel_rfl) (by kernel_rfl) (by kernel_rfl) (by kernel_rfl) (by simp) (by kernel_rfl) ?_ ?_ ?_
      · intro kq v W W' h hb
        revert h
        try dsimp only
        split
        · intro h; exact h
        · intro h; exact LV.below h hb
        · intro h; exact h
        · intro h; exact LV.below h hb
        · intro h; exact LV.below h hb
        · intro h; exact LV.below h hb
        · intro h; exact h
        · intro h; exact h
        · intro h; exact LV.below h hb
        · intro h; exact h
        · intro h; exact LV.below h hb
        · intro h; exact LV.below h hb
        · intro h; exact LV.below h hb
        · intro h; exact h
        · intro h; exact h
        · intro h; trivial
      · intro a' W hB hs hk i o d ho hd hG
        match i, ho with
        | 0, ho =>
          obtain rfl : _ = o := Option.some.inj ho
          obtain rfl : 18 = d := Option.some.inj hd
          exact .inr ⟨rfl, .inl ⟨_, W, run_fa0 (hk 3 (by kernel_rfl)), Below.refl _ _, rfl⟩⟩
        | 1, ho =>
          obtain rfl : _ = o := Option.some.inj ho
          obtain rfl : 19 = d := Option.some.inj hd
          have g18 : (a'.eval (.tmp 18)) = .pointer (some ⟨w.heap.size, 0, none⟩) := hG ⟨0, .data⟩ (by simp) rfl 18 rfl
          obtain ⟨v, hr, hv⟩ := run_loadL (ev := a'.eval) (W := W) g18 (het.below hB)
          exact .inr ⟨rfl, .inl ⟨v, W, hr, Below.refl _ _, hv⟩⟩
        | 2, ho =>
          obtain rfl : _ = o := Option.some.inj ho
          obtain rfl : 20 = d := Option.some.inj hd
          exact .inr ⟨rfl, .inl ⟨_, W, run_fa1 (hk 3 (by kernel_rfl)), Below.refl _ _, rfl⟩⟩
        | 3, ho =>
          obtain rfl : _ = o := Option.some.inj ho
          obtain rfl : 21 = d := Option.some.inj hd
          have g20 : (a'.eval (.tmp 20)) = .pointer (some ⟨w.heap.size, 2, none⟩) := hG ⟨2, .data⟩ (by simp) rfl 20 rfl
          obtain ⟨v, hr, hv⟩ := run_loadL (ev := a'.eval) (W := W) g20 (hetc.below hB)
          exact .inr ⟨rfl, .inl ⟨v, W, hr, Below.refl _ _, hv⟩⟩
        | 4, ho =>
          obtain rfl : _ = o := Option.some.inj ho
          obtain rfl : 22 = d := Option.some.inj hd
          obtain ⟨v, hr, hv⟩ := run_loadL (ev := a'.eval) (W := W) (hk 4 (by kernel_rfl)) (hebox.below hB)
          exact .inr ⟨rfl, .inl ⟨v, W, hr, Below.refl _ _, hv⟩⟩
        | 5, ho =>
          obtain rfl : _ = o := Option.some.inj ho
          obtain rfl : 23 = d := Option.some.inj hd
          obtain ⟨v, hr, hv⟩ := run_loadL (ev := a'.eval) (W := W) (hk 5 (by kernel_rfl)) (hel.below hB)
          exact .inr ⟨rfl, .inl ⟨v, W, hr, Below.refl _ _, hv⟩⟩
        | 6, ho =>
          obtain rfl : _ = o := Option.some.inj ho
          obtain rfl : 24 = d := Option.some.inj hd
          have g19 : LV t (a'.eval (.tmp 19)) W := hG ⟨1, .data⟩ (by simp) rfl 19 rfl
          have g21 : LV tc (a'.eval (.tmp 21)) W := hG ⟨3, .data⟩ (by simp) rfl 21 rfl
          have g22 : LV box (a'.eval (.tmp 22)) W := hG ⟨4, .data⟩ (by simp) rfl 22 rfl
          have g23 : LV l (a'.eval (.tmp 23)) W := hG ⟨5, .data⟩ (by simp) rfl 23 rfl
          exact .inr ⟨rfl, .inr ⟨_, _, run_call rfl map_4 ent_passage_Make, Make_c g19 g21 g22 g23⟩⟩
        | 7, ho =>
          obtain rfl : _ = o := Option.some.inj ho
          obtain rfl : 25 = d := Option.some.inj hd
          exact .inr ⟨rfl, .inl ⟨_, W, run_fa0 (hk 3 (by kernel_rfl)), Below.refl _ _, rfl⟩⟩
        | 8, ho =>
          obtain rfl : _ = o := Option.some.inj ho
          obtain rfl : 26 = d := Option.some.inj hd
          have g25 : (a'.eval (.tmp 25)) = .pointer (some ⟨w.heap.size, 0, none⟩) := hG ⟨7, .data⟩ (by simp) rfl 25 rfl
          obtain ⟨v, hr, hv⟩ := run_loadL (ev := a'.eval) (W := W) g25 (het.below hB)
          exact .inr ⟨rfl, .inl ⟨v, W, hr, Below.refl _ _, hv⟩⟩
        | 9, ho =>
          obtain rfl : _ = o := Option.some.inj ho
          obtain rfl : 27 = d := Option.some.inj hd
          exact .inr ⟨rfl, .inl ⟨_, W, run_fa1 (hk 3 (by kernel_rfl)), Below.refl _ _, rfl⟩⟩
        | 10, ho =>
          obtain rfl : _ = o := Option.some.inj ho
          obtain rfl : 28 = d := Option.some.inj hd
          have g27 : (a'.eval (.tmp 27)) = .pointer (some ⟨w.heap.size, 2, none⟩) := hG ⟨9, .data⟩ (by simp) rfl 27 rfl
          obtain ⟨v, hr, hv⟩ := run_loadL (ev := a'.eval) (W := W) g27 (hetc.below hB)
          exact .inr ⟨rfl, .inl ⟨v, W, hr, Below.refl _ _, hv⟩⟩
        | 11, ho =>
          obtain rfl : _ = o := Option.some.inj ho
          obtain rfl : 29 = d := Option.some.inj hd
          obtain ⟨v, hr, hv⟩ := run_loadL (ev := a'.eval) (W := W) (hk 4 (by kernel_rfl)) (hebox.below hB)
          exact .inr ⟨rfl, .inl ⟨v, W, hr, Below.refl _ _, hv⟩⟩
        | 12, ho =>
          obtain rfl : _ = o := Option.some.inj ho
          obtain rfl : 30 = d := Option.some.inj hd
          obtain ⟨v, hr, hv⟩ := run_loadL (ev := a'.eval) (W := W) (hk 5 (by kernel_rfl)) (hel.below hB)
          exact .inr ⟨rfl, .inl ⟨v, W, hr, Below.refl _ _, hv⟩⟩
        | 13, ho =>
          obtain rfl : _ = o := Option.some.inj ho
          obtain rfl : 31 = d := Option.some.inj hd
          have g26 : LV t (a'.eval (.tmp 26)) W := hG ⟨8, .data⟩ (by simp) rfl 26 rfl
          have g28 : LV tc (a'.eval (.tmp 28)) W := hG ⟨10, .data⟩ (by simp) rfl 28 rfl
          have g29 : LV box (a'.eval (.tmp 29)) W := hG ⟨11, .data⟩ (by simp) rfl 29 rfl
          have g30 : LV l (a'.eval (.tmp 30)) W := hG ⟨12, .data⟩ (by simp) rfl 30 rfl
          exact .inr ⟨rfl, .inr ⟨_, _, run_call rfl map_4 ent_gatehouseref07_Make, rMake_c g26 g28 g29 g30⟩⟩
        | 14, ho =>
          obtain rfl : _ = o := Option.some.inj ho
          obtain rfl : 32 = d := Option.some.inj hd
          have g24 : (a'.eval (.tmp 24)) = .int .i64 (makeI t tc box l) := hG ⟨6, .data⟩ (by simp) rfl 24 rfl
          have g31 : (a'.eval (.tmp 31)) = .int .i64 (rmakeI t tc box l) := hG ⟨13, .data⟩ (by simp) rfl 31 rfl
          exact .inr ⟨rfl, .inl ⟨_, W, run_eqE g24 g31, Below.refl _ _, rfl⟩⟩
        | j + 15, ho => simp at ho
      · intro a' W hB hs hdf hk hG
        obtain ⟨tm, df⟩ := a'
        obtain rfl : df = [] := hdf
        have e0 : tm.getD 0 undef = .agg #[.int .i64 t.fst, .slice pt t.snd.length ct, .int .i64 tc.fst, .slice ptc tc.snd.length ctc] := hk 0 (by kernel_rfl)
        have e1 : tm.getD 1 undef = .agg #[.int .i64 box.fst, .slice pbox box.snd.length cbox] := hk 1 (by kernel_rfl)
        have e2 : tm.getD 2 undef = .agg #[.int .i64 l.fst, .slice pl l.snd.length cl] := hk 2 (by kernel_rfl)
        have e3 : tm.getD 3 undef = .pointer (some ⟨w.heap.size, 0, none⟩) := hk 3 (by kernel_rfl)
        have e4 : tm.getD 4 undef = .pointer (some ⟨w.heap.size + 1, 0, none⟩) := hk 4 (by kernel_rfl)
        have e5 : tm.getD 5 undef = .pointer (some ⟨w.heap.size + 1 + 1, 0, none⟩) := hk 5 (by kernel_rfl)
        have e6 : tm.getD 6 undef = .bool false := hk 6 (by kernel_rfl)
        have e7 : tm.getD 7 undef = .bool true := hk 7 (by kernel_rfl)
        have e8 : tm.getD 8 undef = .bool false := hk 8 (by kernel_rfl)
        have e9 : tm.getD 9 undef = .pointer (some ⟨w.heap.size, 0, none⟩) := hk 9 (by kernel_rfl)
        have e10 : tm.getD 10 undef = t10 := hk 10 (by kernel_rfl)
        have e11 : tm.getD 11 undef = .pointer (some ⟨w.heap.size, 2, none⟩) := hk 11 (by kernel_rfl)
        have e12 : tm.getD 12 undef = t12 := hk 12 (by kernel_rfl)
        have e13 : tm.getD 13 undef = t13 := hk 13 (by kernel_rfl)
        have e14 : tm.getD 14 undef = t14 := hk 14 (by kernel_rfl)
        have e15 : tm.getD 15 undef = t15 := hk 15 (by kernel_rfl)
        have e16 : tm.getD 16 undef = .bool true := hk 16 (by kernel_rfl)
        have e17 : tm.getD 17 undef = .bool !true := hk 17 (by kernel_rfl)
        have g18 : (tm.getD 18 undef) = .pointer (some ⟨w.heap.size, 0, none⟩) := hG 0 18 (by decide) rfl
        have g19 : LV t (tm.getD 19 undef) W := hG 1 19 (by decide) rfl
        have g20 : (tm.getD 20 undef) = .pointer (some ⟨w.heap.size, 2, none⟩) := hG 2 20 (by decide) rfl
        have g21 : LV tc (tm.getD 21 undef) W := hG 3 21 (by decide) rfl
        have g22 : LV box (tm.getD 22 undef) W := hG 4 22 (by decide) rfl
        have g23 : LV l (tm.getD 23 undef) W := hG 5 23 (by decide) rfl
        have g24 : (tm.getD 24 undef) = .int .i64 (makeI t tc box l) := hG 6 24 (by decide) rfl
        have g25 : (tm.getD 25 undef) = .pointer (some ⟨w.heap.size, 0, none⟩) := hG 7 25 (by decide) rfl
        have g26 : LV t (tm.getD 26 undef) W := hG 8 26 (by decide) rfl
        have g27 : (tm.getD 27 undef) = .pointer (some ⟨w.heap.size, 2, none⟩) := hG 9 27 (by decide) rfl
        have g28 : LV tc (tm.getD 28 undef) W := hG 10 28 (by decide) rfl
        have g29 : LV box (tm.getD 29 undef) W := hG 11 29 (by decide) rfl
        have g30 : LV l (tm.getD 30 undef) W := hG 12 30 (by decide) rfl
        have g31 : (tm.getD 31 undef) = .int .i64 (rmakeI t tc box l) := hG 13 31 (by decide) rfl
        have g32 : (tm.getD 32 undef) = .bool ((makeI t tc box l) == (rmakeI t tc box l)) := hG 14 32 (by decide) rfl
        have htm := arr_of tm [.agg #[.int .i64 t.fst, .slice pt t.snd.length ct, .int .i64 tc.fst, .slice ptc tc.snd.length ctc], .agg #[.int .i64 box.fst, .slice pbox box.snd.length cbox], .agg #[.int .i64 l.fst, .slice pl l.snd.length cl], .pointer (some ⟨w.heap.size, 0, none⟩), .pointer (some ⟨w.heap.size + 1, 0, none⟩), .pointer (some ⟨w.heap.size + 1 + 1, 0, none⟩), .bool false, .bool true, .bool false, .pointer (some ⟨w.heap.size, 0, none⟩), t10, .pointer (some ⟨w.heap.size, 2, none⟩), t12, t13, t14, t15, .bool true, .bool !true, tm.getD 18 undef, tm.getD 19 undef, tm.getD 20 undef, tm.getD 21 undef, tm.getD 22 undef, tm.getD 23 undef, tm.getD 24 undef, tm.getD 25 undef, tm.getD 26 undef, tm.getD 27 undef, tm.getD 28 undef, tm.getD 29 undef, tm.getD 30 undef, tm.getD 31 undef, tm.getD 32 undef] hs (by show [tm.getD 0 undef, tm.getD 1 undef, tm.getD 2 undef, tm.getD 3 undef, tm.getD 4 undef, tm.getD 5 undef, tm.getD 6 undef, tm.getD 7 undef, tm.getD 8 undef, tm.getD 9 undef, tm.getD 10 undef, tm.getD 11 undef, tm.getD 12 undef, tm.getD 13 undef, tm.getD 14 undef, tm.getD 15 undef, tm.getD 16 undef, tm.getD 17 undef, tm.getD 18 undef, tm.getD 19 undef, tm.getD 20 undef, tm.getD 21 undef, tm.getD 22 undef, tm.getD 23 undef, tm.getD 24 undef, tm.getD 25 undef, tm.getD 26 undef, tm.getD 27 undef, tm.getD 28 undef, tm.getD 29 undef, tm.getD 30 undef, tm.getD 31 undef, tm.getD 32 undef] = _; rw [e0, e1, e2, e3, e4, e5, e6, e7, e8, e9, e10, e11, e12, e13, e14, e15, e16, e17])
        clear hs hk hG e0 e1 e2 e3 e4 e5 e6 e7 e8 e9 e10 e11 e12 e13 e14 e15 e16 e17
        generalize tm.getD 18 undef = t18 at htm g18
        generalize tm.getD 19 undef = t19 at htm g19
        generalize tm.getD 20 undef = t20 at htm g20
        generalize tm.getD 21 undef = t21 at htm g21
        generalize tm.getD 22 undef = t22 at htm g22
        generalize tm.getD 23 undef = t23 at htm g23
        generalize tm.getD 24 undef = t24 at htm g24
        generalize tm.getD 25 undef = t25 at htm g25
        generalize tm.getD 26 undef = t26 at htm g26
        generalize tm.getD 27 undef = t27 at htm g27
        generalize tm.getD 28 undef = t28 at htm g28
        generalize tm.getD 29 undef = t29 at htm g29
        generalize tm.getD 30 undef = t30 at htm g30
        generalize tm.getD 31 undef = t31 at htm g31
        generalize tm.getD 32 undef = t32 at htm g32
        subst htm
        subst g18
        subst g20
        subst g24
        subst g25
        subst g27
        subst g31
        subst g32
        simp only [List.drop_succ_cons, List.drop_zero]
        have HB : Hid (Below w.heap.size w W) := hA2.trans (hB.mono hA2.size)
        have HV : Hid ((makeI t tc box l == rmakeI t tc box l) = true) := by show (_ == _) = true; rw [HE.out]; simp
        go_wp2
        go_ret
        exact ⟨by rw [← HV.out]; rfl, HB.out⟩
end Go.Proofs.Ytnjmgholoigpkaa
