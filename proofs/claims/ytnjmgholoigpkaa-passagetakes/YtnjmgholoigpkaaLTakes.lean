/- PassageTakes: the walk of the statement. -/
import Derived.Test.YtnjmgholoigpkaaGen
namespace Go.Proofs.Ytnjmgholoigpkaa
open Go.RowKit Go.Sort
set_option maxRecDepth 100000 in
set_option maxHeartbeats 2000000 in
theorem PassageTakes_any (t tc x xc : ML) (pt ptc px pxc : Option Addr) (ct ctc cx cxc : Nat) (w : World) (ht : CatsAt w pt t.2) (lt : t.2.length ≤ ct) (mt : t.2.length ≤ maxLen) (htc : CatsAt w ptc tc.2) (ltc : tc.2.length ≤ ctc) (mtc : tc.2.length ≤ maxLen) (hx : CatsAt w px x.2) (lx : x.2.length ≤ cx) (mx : x.2.length ≤ maxLen) (hxc : CatsAt w pxc xc.2) (lxc : xc.2.length ≤ cxc) (mxc : xc.2.length ≤ maxLen) :
    Calls Try.prog 4 #[.agg #[.int .i64 t.1, .slice pt t.2.length ct, .int .i64 tc.1, .slice ptc tc.2.length ctc], .agg #[.int .i64 x.1, .slice px x.2.length cx, .int .i64 xc.1, .slice pxc xc.2.length cxc]] w fun e w' => e = .returned (.bool true) ∧ Below w.heap.size w w' := by
  obtain ⟨W0, hW0⟩ : ∃ W0, W0 = ((w.alloc (.cells #[.int .i64 t.1, .slice pt t.2.length ct, .int .i64 tc.1, .slice ptc tc.2.length ctc] 26)).alloc (.cells #[.int .i64 x.1, .slice px x.2.length cx, .int .i64 xc.1, .slice pxc xc.2.length cxc] 26)) := ⟨_, rfl⟩
  have hA : Below w.heap.size w W0 := by rw [hW0]; go_grown
  have hbt : LBg t W0 (w.heap.size) 0 := ⟨pt, ct, by rw [hW0]; simp <;> omega, by rw [hW0]; simp [go_sem], by rw [hW0]; simp [go_sem], ht.below hA, lt, mt⟩
  have hbtc : LBg tc W0 (w.heap.size) 2 := ⟨ptc, ctc, by rw [hW0]; simp <;> omega, by rw [hW0]; simp [go_sem], by rw [hW0]; simp [go_sem], htc.below hA, ltc, mtc⟩
  have hbx : LBg x W0 (w.heap.size + 1) 0 := ⟨px, cx, by rw [hW0]; simp <;> omega, by rw [hW0]; simp [go_sem], by rw [hW0]; simp [go_sem], hx.below hA, lx, mx⟩
  have hbxc : LBg xc W0 (w.heap.size + 1) 2 := ⟨pxc, cxc, by rw [hW0]; simp <;> omega, by rw [hW0]; simp [go_sem], by rw [hW0]; simp [go_sem], hxc.below hA, lxc, mxc⟩
  go_enter Try.func4, Try.ntmps4
  go_upto_region 3 with (go_at_call 9; rw [← hW0]; refine (lives_c _).mono ?_; rintro e w1 ⟨rfl, hb1⟩)
  have hct := hbt.below hb1
  have hctc := hbtc.below hb1
  have hcx := hbx.below hb1
  have hcxc := hbxc.below hb1
  have hA1 : Below w.heap.size w w1 := hA.trans (hb1.mono hA.size)
  refine wp_region_monoF 11 (fun kq v W => match kq with | 7 => v = .pointer (some ⟨w.heap.size, 0, none⟩) | 8 => LVg t v W | 9 => v = .pointer (some ⟨w.heap.size, 2, none⟩) | 10 => LVg tc v W | 11 => v = .pointer (some ⟨w.heap.size + 1, 0, none⟩) | 12 => LVg x v W | 13 => v = .pointer (some ⟨w.heap.size + 1, 2, none⟩) | 14 => LVg xc v W | 15 => LsVg [t, tc, x, xc] v W | 16 => v = .bool ([t, tc, x, xc].all rightM) | 17 => v = .bool (!([t, tc, x, xc].all rightM)) | _ => True) (by kernel_rfl) (by kernel_rfl) (by simp) ?_ ?_ ?_
  · intro kq v W W' h hb
    revert h
    try dsimp only
    split
    · intro h; exact h
    · intro h; exact LVg.below h hb
    · intro h; exact h
    · intro h; exact LVg.below h hb
    · intro h; exact h
    · intro h; exact LVg.below h hb
    · intro h; exact h
    · intro h; exact LVg.below h hb
    · intro h; exact LsVg.below h hb
    · intro h; exact h
    · intro h; exact h
    · intro h; trivial
  · intro a' W hB hs hk i o d ho hd hG
    match i, ho with
    | 0, ho =>
      obtain rfl : _ = o := Option.some.inj ho
      obtain rfl : 7 = d := Option.some.inj hd
      exact .inr ⟨rfl, .inl ⟨_, W, run_fa0 (hk 2 (by kernel_rfl)), Below.refl _ _, rfl⟩⟩
    | 1, ho =>
      obtain rfl : _ = o := Option.some.inj ho
      obtain rfl : 8 = d := Option.some.inj hd
      have g7 : (a'.eval (.tmp 7)) = .pointer (some ⟨w.heap.size, 0, none⟩) := hG ⟨0, .data⟩ (by simp) rfl 7 rfl
      obtain ⟨v, hr, hv⟩ := run_loadLg (ev := a'.eval) (W := W) g7 (hct.below hB)
      exact .inr ⟨rfl, .inl ⟨v, W, hr, Below.refl _ _, hv⟩⟩
    | 2, ho =>
      obtain rfl : _ = o := Option.some.inj ho
      obtain rfl : 9 = d := Option.some.inj hd
      exact .inr ⟨rfl, .inl ⟨_, W, run_fa1 (hk 2 (by kernel_rfl)), Below.refl _ _, rfl⟩⟩
    | 3, ho =>
      obtain rfl : _ = o := Option.some.inj ho
      obtain rfl : 10 = d := Option.some.inj hd
      have g9 : (a'.eval (.tmp 9)) = .pointer (some ⟨w.heap.size, 2, none⟩) := hG ⟨2, .data⟩ (by simp) rfl 9 rfl
      obtain ⟨v, hr, hv⟩ := run_loadLg (ev := a'.eval) (W := W) g9 (hctc.below hB)
      exact .inr ⟨rfl, .inl ⟨v, W, hr, Below.refl _ _, hv⟩⟩
    | 4, ho =>
      obtain rfl : _ = o := Option.some.inj ho
      obtain rfl : 11 = d := Option.some.inj hd
      exact .inr ⟨rfl, .inl ⟨_, W, run_fa0 (hk 3 (by kernel_rfl)), Below.refl _ _, rfl⟩⟩
    | 5, ho =>
      obtain rfl : _ = o := Option.some.inj ho
      obtain rfl : 12 = d := Option.some.inj hd
      have g11 : (a'.eval (.tmp 11)) = .pointer (some ⟨w.heap.size + 1, 0, none⟩) := hG ⟨4, .data⟩ (by simp) rfl 11 rfl
      obtain ⟨v, hr, hv⟩ := run_loadLg (ev := a'.eval) (W := W) g11 (hcx.below hB)
      exact .inr ⟨rfl, .inl ⟨v, W, hr, Below.refl _ _, hv⟩⟩
    | 6, ho =>
      obtain rfl : _ = o := Option.some.inj ho
      obtain rfl : 13 = d := Option.some.inj hd
      exact .inr ⟨rfl, .inl ⟨_, W, run_fa1 (hk 3 (by kernel_rfl)), Below.refl _ _, rfl⟩⟩
    | 7, ho =>
      obtain rfl : _ = o := Option.some.inj ho
      obtain rfl : 14 = d := Option.some.inj hd
      have g13 : (a'.eval (.tmp 13)) = .pointer (some ⟨w.heap.size + 1, 2, none⟩) := hG ⟨6, .data⟩ (by simp) rfl 13 rfl
      obtain ⟨v, hr, hv⟩ := run_loadLg (ev := a'.eval) (W := W) g13 (hcxc.below hB)
      exact .inr ⟨rfl, .inl ⟨v, W, hr, Below.refl _ _, hv⟩⟩
    | 8, ho =>
      obtain rfl : _ = o := Option.some.inj ho
      obtain rfl : 15 = d := Option.some.inj hd
      have g8 : LVg t (a'.eval (.tmp 8)) W := hG ⟨1, .data⟩ (by simp) rfl 8 rfl
      have g10 : LVg tc (a'.eval (.tmp 10)) W := hG ⟨3, .data⟩ (by simp) rfl 10 rfl
      have g12 : LVg x (a'.eval (.tmp 12)) W := hG ⟨5, .data⟩ (by simp) rfl 12 rfl
      have g14 : LVg xc (a'.eval (.tmp 14)) W := hG ⟨7, .data⟩ (by simp) rfl 14 rfl
      obtain ⟨v, W', hr, hb, hv⟩ := run_slice4g (ev := a'.eval) (W := W) rfl rfl rfl rfl g8 g10 g12 g14
      exact .inr ⟨rfl, .inl ⟨v, W', hr, hb, hv⟩⟩
    | 9, ho =>
      obtain rfl : _ = o := Option.some.inj ho
      obtain rfl : 16 = d := Option.some.inj hd
      have g15 : LsVg [t, tc, x, xc] (a'.eval (.tmp 15)) W := hG ⟨8, .data⟩ (by simp) rfl 15 rfl
      exact .inr ⟨rfl, .inr ⟨_, _, run_call rfl map_1 ent_gatehouselaw07_right, right_c g15 (by simp)⟩⟩
    | 10, ho =>
      obtain rfl : _ = o := Option.some.inj ho
      obtain rfl : 17 = d := Option.some.inj hd
      have g16 : (a'.eval (.tmp 16)) = .bool ([t, tc, x, xc].all rightM) := hG ⟨9, .data⟩ (by simp) rfl 16 rfl
      exact .inr ⟨rfl, .inl ⟨_, W, run_not g16, Below.refl _ _, rfl⟩⟩
    | j + 11, ho => simp at ho
  · intro a' W hB hs hdf hk hG
    obtain ⟨tm, df⟩ := a'
    obtain rfl : df = [] := hdf
    have e0 : tm.getD 0 undef = .agg #[.int .i64 t.fst, .slice pt t.snd.length ct, .int .i64 tc.fst, .slice ptc tc.snd.length ctc] := hk 0 (by kernel_rfl)
    have e1 : tm.getD 1 undef = .agg #[.int .i64 x.fst, .slice px x.snd.length cx, .int .i64 xc.fst, .slice pxc xc.snd.length cxc] := hk 1 (by kernel_rfl)
    have e2 : tm.getD 2 undef = .pointer (some ⟨w.heap.size, 0, none⟩) := hk 2 (by kernel_rfl)
    have e3 : tm.getD 3 undef = .pointer (some ⟨w.heap.size + 1, 0, none⟩) := hk 3 (by kernel_rfl)
    have e4 : tm.getD 4 undef = .bool false := hk 4 (by kernel_rfl)
    have e5 : tm.getD 5 undef = .bool true := hk 5 (by kernel_rfl)
    have e6 : tm.getD 6 undef = .bool false := hk 6 (by kernel_rfl)
    have e18 : tm.getD 18 undef = undef := hk 18 (by kernel_rfl)
    have e19 : tm.getD 19 undef = undef := hk 19 (by kernel_rfl)
    have e20 : tm.getD 20 undef = undef := hk 20 (by kernel_rfl)
    have e21 : tm.getD 21 undef = undef := hk 21 (by kernel_rfl)
    have e22 : tm.getD 22 undef = undef := hk 22 (by kernel_rfl)
    have e23 : tm.getD 23 undef = undef := hk 23 (by kernel_rfl)
    have e24 : tm.getD 24 undef = undef := hk 24 (by kernel_rfl)
    have e25 : tm.getD 25 undef = undef := hk 25 (by kernel_rfl)
    have e26 : tm.getD 26 undef = undef := hk 26 (by kernel_rfl)
    have e27 : tm.getD 27 undef = undef := hk 27 (by kernel_rfl)
    have e28 : tm.getD 28 undef = undef := hk 28 (by kernel_rfl)
    have e29 : tm.getD 29 undef = undef := hk 29 (by kernel_rfl)
    have e30 : tm.getD 30 undef = undef := hk 30 (by kernel_rfl)
    have e31 : tm.getD 31 undef = undef := hk 31 (by kernel_rfl)
    have e32 : tm.getD 32 undef = undef := hk 32 (by kernel_rfl)
    have e33 : tm.getD 33 undef = undef := hk 33 (by kernel_rfl)
    have e34 : tm.getD 34 undef = undef := hk 34 (by kernel_rfl)
    have e35 : tm.getD 35 undef = undef := hk 35 (by kernel_rfl)
    have e36 : tm.getD 36 undef = undef := hk 36 (by kernel_rfl)
    have e37 : tm.getD 37 undef = undef := hk 37 (by kernel_rfl)
    have e38 : tm.getD 38 undef = undef := hk 38 (by kernel_rfl)
    have e39 : tm.getD 39 undef = undef := hk 39 (by kernel_rfl)
    have e40 : tm.getD 40 undef = undef := hk 40 (by kernel_rfl)
    have e41 : tm.getD 41 undef = undef := hk 41 (by kernel_rfl)
    have e42 : tm.getD 42 undef = undef := hk 42 (by kernel_rfl)
    have e43 : tm.getD 43 undef = undef := hk 43 (by kernel_rfl)
    have e44 : tm.getD 44 undef = undef := hk 44 (by kernel_rfl)
    have e45 : tm.getD 45 undef = undef := hk 45 (by kernel_rfl)
    have e46 : tm.getD 46 undef = undef := hk 46 (by kernel_rfl)
    have e47 : tm.getD 47 undef = undef := hk 47 (by kernel_rfl)
    have e48 : tm.getD 48 undef = undef := hk 48 (by kernel_rfl)
    have e49 : tm.getD 49 undef = undef := hk 49 (by kernel_rfl)
    have e50 : tm.getD 50 undef = undef := hk 50 (by kernel_rfl)
    have e51 : tm.getD 51 undef = undef := hk 51 (by kernel_rfl)
    have e52 : tm.getD 52 undef = undef := hk 52 (by kernel_rfl)
    have e53 : tm.getD 53 undef = undef := hk 53 (by kernel_rfl)
    have e54 : tm.getD 54 undef = undef := hk 54 (by kernel_rfl)
    have e55 : tm.getD 55 undef = undef := hk 55 (by kernel_rfl)
    have e56 : tm.getD 56 undef = undef := hk 56 (by kernel_rfl)
    have e57 : tm.getD 57 undef = undef := hk 57 (by kernel_rfl)
    have e58 : tm.getD 58 undef = undef := hk 58 (by kernel_rfl)
    have e59 : tm.getD 59 undef = undef := hk 59 (by kernel_rfl)
    have e60 : tm.getD 60 undef = undef := hk 60 (by kernel_rfl)
    have e61 : tm.getD 61 undef = undef := hk 61 (by kernel_rfl)
    have e62 : tm.getD 62 undef = undef := hk 62 (by kernel_rfl)
    have e63 : tm.getD 63 undef = undef := hk 63 (by kernel_rfl)
    have e64 : tm.getD 64 undef = undef := hk 64 (by kernel_rfl)
    have e65 : tm.getD 65 undef = undef := hk 65 (by kernel_rfl)
    have e66 : tm.getD 66 undef = undef := hk 66 (by kernel_rfl)
    have e67 : tm.getD 67 undef = undef := hk 67 (by kernel_rfl)
    have e68 : tm.getD 68 undef = undef := hk 68 (by kernel_rfl)
    have e69 : tm.getD 69 undef = undef := hk 69 (by kernel_rfl)
    have e70 : tm.getD 70 undef = undef := hk 70 (by kernel_rfl)
    have g7 : (tm.getD 7 undef) = .pointer (some ⟨w.heap.size, 0, none⟩) := hG 0 7 (by decide) rfl
    have g8 : LVg t (tm.getD 8 undef) W := hG 1 8 (by decide) rfl
    have g9 : (tm.getD 9 undef) = .pointer (some ⟨w.heap.size, 2, none⟩) := hG 2 9 (by decide) rfl
    have g10 : LVg tc (tm.getD 10 undef) W := hG 3 10 (by decide) rfl
    have g11 : (tm.getD 11 undef) = .pointer (some ⟨w.heap.size + 1, 0, none⟩) := hG 4 11 (by decide) rfl
    have g12 : LVg x (tm.getD 12 undef) W := hG 5 12 (by decide) rfl
    have g13 : (tm.getD 13 undef) = .pointer (some ⟨w.heap.size + 1, 2, none⟩) := hG 6 13 (by decide) rfl
    have g14 : LVg xc (tm.getD 14 undef) W := hG 7 14 (by decide) rfl
    have g15 : LsVg [t, tc, x, xc] (tm.getD 15 undef) W := hG 8 15 (by decide) rfl
    have g16 : (tm.getD 16 undef) = .bool ([t, tc, x, xc].all rightM) := hG 9 16 (by decide) rfl
    have g17 : (tm.getD 17 undef) = .bool (!([t, tc, x, xc].all rightM)) := hG 10 17 (by decide) rfl
    have htm := arr_of tm [.agg #[.int .i64 t.fst, .slice pt t.snd.length ct, .int .i64 tc.fst, .slice ptc tc.snd.length ctc], .agg #[.int .i64 x.fst, .slice px x.snd.length cx, .int .i64 xc.fst, .slice pxc xc.snd.length cxc], .pointer (some ⟨w.heap.size, 0, none⟩), .pointer (some ⟨w.heap.size + 1, 0, none⟩), .bool false, .bool true, .bool false, tm.getD 7 undef, tm.getD 8 undef, tm.getD 9 undef, tm.getD 10 undef, tm.getD 11 undef, tm.getD 12 undef, tm.getD 13 undef, tm.getD 14 undef, tm.getD 15 undef, tm.getD 16 undef, tm.getD 17 undef, undef, undef, undef, undef, undef, undef, undef, undef, undef, undef, undef, undef, undef, undef, undef, undef, undef, undef, undef, undef, undef, undef, undef, undef, undef, undef, undef, undef, undef, undef, undef, undef, undef, undef, undef, undef, undef, undef, undef, undef, undef, undef, undef, undef, undef, undef, undef, undef, undef, undef, undef, undef, undef] hs (by show [tm.getD 0 undef, tm.getD 1 undef, tm.getD 2 undef, tm.getD 3 undef, tm.getD 4 undef, tm.getD 5 undef, tm.getD 6 undef, tm.getD 7 undef, tm.getD 8 undef, tm.getD 9 undef, tm.getD 10 undef, tm.getD 11 undef, tm.getD 12 undef, tm.getD 13 undef, tm.getD 14 undef, tm.getD 15 undef, tm.getD 16 undef, tm.getD 17 undef, tm.getD 18 undef, tm.getD 19 undef, tm.getD 20 undef, tm.getD 21 undef, tm.getD 22 undef, tm.getD 23 undef, tm.getD 24 undef, tm.getD 25 undef, tm.getD 26 undef, tm.getD 27 undef, tm.getD 28 undef, tm.getD 29 undef, tm.getD 30 undef, tm.getD 31 undef, tm.getD 32 undef, tm.getD 33 undef, tm.getD 34 undef, tm.getD 35 undef, tm.getD 36 undef, tm.getD 37 undef, tm.getD 38 undef, tm.getD 39 undef, tm.getD 40 undef, tm.getD 41 undef, tm.getD 42 undef, tm.getD 43 undef, tm.getD 44 undef, tm.getD 45 undef, tm.getD 46 undef, tm.getD 47 undef, tm.getD 48 undef, tm.getD 49 undef, tm.getD 50 undef, tm.getD 51 undef, tm.getD 52 undef, tm.getD 53 undef, tm.getD 54 undef, tm.getD 55 undef, tm.getD 56 undef, tm.getD 57 undef, tm.getD 58 undef, tm.getD 59 undef, tm.getD 60 undef, tm.getD 61 undef, tm.getD 62 undef, tm.getD 63 undef, tm.getD 64 undef, tm.getD 65 undef, tm.getD 66 undef, tm.getD 67 undef, tm.getD 68 undef, tm.getD 69 undef, tm.getD 70 undef] = _; rw [e0, e1, e2, e3, e4, e5, e6, e18, e19, e20, e21, e22, e23, e24, e25, e26, e27, e28, e29, e30, e31, e32, e33, e34, e35, e36, e37, e38, e39, e40, e41, e42, e43, e44, e45, e46, e47, e48, e49, e50, e51, e52, e53, e54, e55, e56, e57, e58, e59, e60, e61, e62, e63, e64, e65, e66, e67, e68, e69, e70])
    clear hs hk hG e0 e1 e2 e3 e4 e5 e6 e18 e19 e20 e21 e22 e23 e24 e25 e26 e27 e28 e29 e30 e31 e32 e33 e34 e35 e36 e37 e38 e39 e40 e41 e42 e43 e44 e45 e46 e47 e48 e49 e50 e51 e52 e53 e54 e55 e56 e57 e58 e59 e60 e61 e62 e63 e64 e65 e66 e67 e68 e69 e70
    generalize tm.getD 7 undef = t7 at htm g7
    generalize tm.getD 8 undef = t8 at htm g8
    generalize tm.getD 9 undef = t9 at htm g9
    generalize tm.getD 10 undef = t10 at htm g10
    generalize tm.getD 11 undef = t11 at htm g11
    generalize tm.getD 12 undef = t12 at htm g12
    generalize tm.getD 13 undef = t13 at htm g13
    generalize tm.getD 14 undef = t14 at htm g14
    generalize tm.getD 15 undef = t15 at htm g15
    generalize tm.getD 16 undef = t16 at htm g16
    generalize tm.getD 17 undef = t17 at htm g17
    subst htm
    subst g7
    subst g9
    subst g11
    subst g13
    subst g16
    subst g17
    simp only [List.drop_succ_cons, List.drop_zero]
    have hA2 : Below w.heap.size w W := hA1.trans (hB.mono hA1.size)
    have hdt := hct.below hB
    have hdtc := hctc.below hB
    have hdx := hcx.below hB
    have hdxc := hcxc.below hB
    clear g8 g10 g12 g14 g15
    obtain ⟨x0, hx⟩ : ∃ x0, ([t, tc, x, xc].all rightM) = x0 := ⟨_, rfl⟩
    simp only [hx]
    cases x0 with
    | false =>
      clear hx
      go_wp2
      go_ret
      exact ⟨rfl, hA2⟩
    | true =>
      have hR : rightM t = true ∧ rightM tc = true ∧ rightM x = true ∧ rightM xc = true := by simpa using hx
      obtain ⟨rt, rtc, rx, rxc⟩ := hR
      have HE1 := Lib.hid (lend_eq (okL rt) (okL rtc) (okL rx) (okL rxc))
      have HE2 := Lib.hid (rise_eq (okL rt) (okL rtc) (okL rx))
      have HE3 := Lib.hid (clear_eq (okL rt) (okL rtc) (okL rxc))
      have het := hdt.ok (right16 rt)
      have hetc := hdtc.ok (right16 rtc)
      have hex := hdx.ok (right16 rx)
      have hexc := hdxc.ok (right16 rxc)
      clear hx rt rtc rx rxc
      go_wp2_with fail
      refine wp_region_mono 53 (fun kq v W => match kq with | 18 => v = .pointer (some ⟨w.heap.size, 0, none⟩) | 19 => LV t v W | 20 => v = .pointer (some ⟨w.heap.size, 2, none⟩) | 21 => LV tc v W | 22 => v = .pointer (some ⟨w.heap.size + 1, 0, none⟩) | 23 => LV x v W | 24 => v = .pointer (some ⟨w.heap.size + 1, 2, none⟩) | 25 => LV xc v W | 26 => v = .int .i64 (lendI t tc x xc) | 27 => v = .pointer (some ⟨w.heap.size, 0, none⟩) | 28 => LV t v W | 29 => v = .pointer (some ⟨w.heap.size, 2, none⟩) | 30 => LV tc v W | 31 => v = .pointer (some ⟨w.heap.size + 1, 0, none⟩) | 32 => LV x v W | 33 => v = .pointer (some ⟨w.heap.size + 1, 2, none⟩) | 34 => LV xc v W | 35 => v = .int .i64 (rlendI t tc x xc) | 36 => v = .bool ((lendI t tc x xc) == (rlendI t tc x xc)) | 37 => v = .bool ((lendI t tc x xc) == (rlendI t tc x xc)) | 38 => (((lendI t tc x xc) == (rlendI t tc x xc)) = true → v = .pointer (some ⟨w.heap.size, 0, none⟩)) | 39 => (((lendI t tc x xc) == (rlendI t tc x xc)) = true → LV t v W) | 40 => (((lendI t tc x xc) == (rlendI t tc x xc)) = true → v = .pointer (some ⟨w.heap.size, 2, none⟩)) | 41 => (((lendI t tc x xc) == (rlendI t tc x xc)) = true → LV tc v W) | 42 => (((lendI t tc x xc) == (rlendI t tc x xc)) = true → v = .pointer (some ⟨w.heap.size + 1, 0, none⟩)) | 43 => (((lendI t tc x xc) == (rlendI t tc x xc)) = true → LV x v W) | 44 => (((lendI t tc x xc) == (rlendI t tc x xc)) = true → v = .int .i64 (riseI t tc x)) | 45 => (((lendI t tc x xc) == (rlendI t tc x xc)) = true → v = .pointer (some ⟨w.heap.size, 0, none⟩)) | 46 => (((lendI t tc x xc) == (rlendI t tc x xc)) = true → LV t v W) | 47 => (((lendI t tc x xc) == (rlendI t tc x xc)) = true → v = .pointer (some ⟨w.heap.size, 2, none⟩)) | 48 => (((lendI t tc x xc) == (rlendI t tc x xc)) = true → LV tc v W) | 49 => (((lendI t tc x xc) == (rlendI t tc x xc)) = true → v = .pointer (some ⟨w.heap.size + 1, 0, none⟩)) | 50 => (((lendI t tc x xc) == (rlendI t tc x xc)) = true → LV x v W) | 51 => (((lendI t tc x xc) == (rlendI t tc x xc)) = true → v = .int .i64 (rriseI t tc x)) | 52 => (((lendI t tc x xc) == (rlendI t tc x xc)) = true → v = .bool ((riseI t tc x) == (rriseI t tc x))) | 53 => v = .bool (((lendI t tc x xc) == (rlendI t tc x xc)) && ((riseI t tc x) == (rriseI t tc x))) | 54 => v = .bool (((lendI t tc x xc) == (rlendI t tc x xc)) && ((riseI t tc x) == (rriseI t tc x))) | 55 => ((((lendI t tc x xc) == (rlendI t tc x xc)) && ((riseI t tc x) == (rriseI t tc x))) = true → v = .pointer (some ⟨w.heap.size, 0, none⟩)) | 56 => ((((lendI t tc x xc) == (rlendI t tc x xc)) && ((riseI t tc x) == (rriseI t tc x))) = true → LV t v W) | 57 => ((((lendI t tc x xc) == (rlendI t tc x xc)) && ((riseI t tc x) == (rriseI t tc x))) = true → v = .pointer (some ⟨w.heap.size, 2, none⟩)) | 58 => ((((lendI t tc x xc) == (rlendI t tc x xc)) && ((riseI t tc x) == (rriseI t tc x))) = true → LV tc v W) | 59 => ((((lendI t tc x xc) == (rlendI t tc x xc)) && ((riseI t tc x) == (rriseI t tc x))) = true → v = .pointer (some ⟨w.heap.size + 1, 2, none⟩)) | 60 => ((((lendI t tc x xc) == (rlendI t tc x xc)) && ((riseI t tc x) == (rriseI t tc x))) = true → LV xc v W) | 61 => ((((lendI t tc x xc) == (rlendI t tc x xc)) && ((riseI t tc x) == (rriseI t tc x))) = true → v = .int .i64 (clearI t tc xc)) | 62 => ((((lendI t tc x xc) == (rlendI t tc x xc)) && ((riseI t tc x) == (rriseI t tc x))) = true → v = .pointer (some ⟨w.heap.size, 0, none⟩)) | 63 => ((((lendI t tc x xc) == (rlendI t tc x xc)) && ((riseI t tc x) == (rriseI t tc x))) = true → LV t v W) | 64 => ((((lendI t tc x xc) == (rlendI t tc x xc)) && ((riseI t tc x) == (rriseI t tc x))) = true → v = .pointer (some ⟨w.heap.size, 2, none⟩)) | 65 => ((((lendI t tc x xc) == (rlendI t tc x xc)) && ((riseI t tc x) == (rriseI t tc x))) = true → LV tc v W) | 66 => ((((lendI t tc x xc) == (rlendI t tc x xc)) && ((riseI t tc x) == (rriseI t tc x))) = true → v = .pointer (some ⟨w.heap.size + 1, 2, none⟩)) | 67 => ((((lendI t tc x xc) == (rlendI t tc x xc)) && ((riseI t tc x) == (rriseI t tc x))) = true → LV xc v W) | 68 => ((((lendI t tc x xc) == (rlendI t tc x xc)) && ((riseI t tc x) == (rriseI t tc x))) = true → v = .int .i64 (rclearI t tc xc)) | 69 => ((((lendI t tc x xc) == (rlendI t tc x xc)) && ((riseI t tc x) == (rriseI t tc x))) = true → v = .bool ((clearI t tc xc) == (rclearI t tc xc))) | 70 => v = .bool ((((lendI t tc x xc) == (rlendI t tc x xc)) && ((riseI t tc x) == (rriseI t tc x))) && ((clearI t tc xc) == (rclearI t tc xc))) | _ => True) (by kernel_rfl) (by kernel_rfl) (by kernel_rfl) (by kernel_rfl) (by simp) (by kernel_rfl) ?_ ?_ ?_
      · intro kq v W W' h hb
        revert h
        try dsimp only
        split
        · intro h; exact h
        · intro h; exact LV.below h hb
        · intro h; exact h
        · intro h; exact LV.below h hb
        · intro h; exact h
        · intro h; exact LV.below h hb
        · intro h; exact h
        · intro h; exact LV.below h hb
        · intro h; exact h
        · intro h; exact h
        · intro h; exact LV.below h hb
        · intro h; exact h
        · intro h; exact LV.below h hb
        · intro h; exact h
        · intro h; exact LV.below h hb
        · intro h; exact h
        · intro h; exact LV.below h hb
        · intro h; exact h
        · intro h; exact h
        · intro h; exact h
        · intro h' e; have h := h' e; exact h
        · intro h' e; have h := h' e; exact LV.below h hb
        · intro h' e; have h := h' e; exact h
        · intro h' e; have h := h' e; exact LV.below h hb
        · intro h' e; have h := h' e; exact h
        · intro h' e; have h := h' e; exact LV.below h hb
        · intro h' e; have h := h' e; exact h
        · intro h' e; have h := h' e; exact h
        · intro h' e; have h := h' e; exact LV.below h hb
        · intro h' e; have h := h' e; exact h
        · intro h' e; have h := h' e; exact LV.below h hb
        · intro h' e; have h := h' e; exact h
        · intro h' e; have h := h' e; exact LV.below h hb
        · intro h' e; have h := h' e; exact h
        · intro h' e; have h := h' e; exact h
        · intro h; exact h
        · intro h; exact h
        · intro h' e; have h := h' e; exact h
        · intro h' e; have h := h' e; exact LV.below h hb
        · intro h' e; have h := h' e; exact h
        · intro h' e; have h := h' e; exact LV.below h hb
        · intro h' e; have h := h' e; exact h
        · intro h' e; have h := h' e; exact LV.below h hb
        · intro h' e; have h := h' e; exact h
        · intro h' e; have h := h' e; exact h
        · intro h' e; have h := h' e; exact LV.below h hb
        · intro h' e; have h := h' e; exact h
        · intro h' e; have h := h' e; exact LV.below h hb
        · intro h' e; have h := h' e; exact h
        · intro h' e; have h := h' e; exact LV.below h hb
        · intro h' e; have h := h' e; exact h
        · intro h' e; have h := h' e; exact h
        · intro h; exact h
        · intro h; trivial
      · intro a' W hB hs hk i o d ho hd hG
        match i, ho with
        | 0, ho =>
          obtain rfl : _ = o := Option.some.inj ho
          obtain rfl : 18 = d := Option.some.inj hd
          exact .inr ⟨rfl, .inl ⟨_, W, run_fa0 (hk 2 (by kernel_rfl)), Below.refl _ _, rfl⟩⟩
        | 1, ho =>
          obtain rfl : _ = o := Option.some.inj ho
          obtain rfl : 19 = d := Option.some.inj hd
          have g18 : (a'.eval (.tmp 18)) = .pointer (some ⟨w.heap.size, 0, none⟩) := hG ⟨0, .data⟩ (by simp) rfl 18 rfl
          obtain ⟨v, hr, hv⟩ := run_loadL (ev := a'.eval) (W := W) g18 (het.below hB)
          exact .inr ⟨rfl, .inl ⟨v, W, hr, Below.refl _ _, hv⟩⟩
        | 2, ho =>
          obtain rfl : _ = o := Option.some.inj ho
          obtain rfl : 20 = d := Option.some.inj hd
          exact .inr ⟨rfl, .inl ⟨_, W, run_fa1 (hk 2 (by kernel_rfl)), Below.refl _ _, rfl⟩⟩
        | 3, ho =>
          obtain rfl : _ = o := Option.some.inj ho
          obtain rfl : 21 = d := Option.some.inj hd
          have g20 : (a'.eval (.tmp 20)) = .pointer (some ⟨w.heap.size, 2, none⟩) := hG ⟨2, .data⟩ (by simp) rfl 20 rfl
          obtain ⟨v, hr, hv⟩ := run_loadL (ev := a'.eval) (W := W) g20 (hetc.below hB)
          exact .inr ⟨rfl, .inl ⟨v, W, hr, Below.refl _ _, hv⟩⟩
        | 4, ho =>
          obtain rfl : _ = o := Option.some.inj ho
          obtain rfl : 22 = d := Option.some.inj hd
          exact .inr ⟨rfl, .inl ⟨_, W, run_fa0 (hk 3 (by kernel_rfl)), Below.refl _ _, rfl⟩⟩
        | 5, ho =>
          obtain rfl : _ = o := Option.some.inj ho
          obtain rfl : 23 = d := Option.some.inj hd
          have g22 : (a'.eval (.tmp 22)) = .pointer (some ⟨w.heap.size + 1, 0, none⟩) := hG ⟨4, .data⟩ (by simp) rfl 22 rfl
          obtain ⟨v, hr, hv⟩ := run_loadL (ev := a'.eval) (W := W) g22 (hex.below hB)
          exact .inr ⟨rfl, .inl ⟨v, W, hr, Below.refl _ _, hv⟩⟩
        | 6, ho =>
          obtain rfl : _ = o := Option.some.inj ho
          obtain rfl : 24 = d := Option.some.inj hd
          exact .inr ⟨rfl, .inl ⟨_, W, run_fa1 (hk 3 (by kernel_rfl)), Below.refl _ _, rfl⟩⟩
        | 7, ho =>
          obtain rfl : _ = o := Option.some.inj ho
          obtain rfl : 25 = d := Option.some.inj hd
          have g24 : (a'.eval (.tmp 24)) = .pointer (some ⟨w.heap.size + 1, 2, none⟩) := hG ⟨6, .data⟩ (by simp) rfl 24 rfl
          obtain ⟨v, hr, hv⟩ := run_loadL (ev := a'.eval) (W := W) g24 (hexc.below hB)
          exact .inr ⟨rfl, .inl ⟨v, W, hr, Below.refl _ _, hv⟩⟩
        | 8, ho =>
          obtain rfl : _ = o := Option.some.inj ho
          obtain rfl : 26 = d := Option.some.inj hd
          have g19 : LV t (a'.eval (.tmp 19)) W := hG ⟨1, .data⟩ (by simp) rfl 19 rfl
          have g21 : LV tc (a'.eval (.tmp 21)) W := hG ⟨3, .data⟩ (by simp) rfl 21 rfl
          have g23 : LV x (a'.eval (.tmp 23)) W := hG ⟨5, .data⟩ (by simp) rfl 23 rfl
          have g25 : LV xc (a'.eval (.tmp 25)) W := hG ⟨7, .data⟩ (by simp) rfl 25 rfl
          exact .inr ⟨rfl, .inr ⟨_, _, run_call rfl map_4 ent_passage_Lend, Lend_c g19 g21 g23 g25⟩⟩
        | 9, ho =>
          obtain rfl : _ = o := Option.some.inj ho
          obtain rfl : 27 = d := Option.some.inj hd
          exact .inr ⟨rfl, .inl ⟨_, W, run_fa0 (hk 2 (by kernel_rfl)), Below.refl _ _, rfl⟩⟩
        | 10, ho =>
          obtain rfl : _ = o := Option.some.inj ho
          obtain rfl : 28 = d := Option.some.inj hd
          have g27 : (a'.eval (.tmp 27)) = .pointer (some ⟨w.heap.size, 0, none⟩) := hG ⟨9, .data⟩ (by simp) rfl 27 rfl
          obtain ⟨v, hr, hv⟩ := run_loadL (ev := a'.eval) (W := W) g27 (het.below hB)
          exact .inr ⟨rfl, .inl ⟨v, W, hr, Below.refl _ _, hv⟩⟩
        | 11, ho =>
          obtain rfl : _ = o := Option.some.inj ho
          obtain rfl : 29 = d := Option.some.inj hd
          exact .inr ⟨rfl, .inl ⟨_, W, run_fa1 (hk 2 (by kernel_rfl)), Below.refl _ _, rfl⟩⟩
        | 12, ho =>
          obtain rfl : _ = o := Option.some.inj ho
          obtain rfl : 30 = d := Option.some.inj hd
          have g29 : (a'.eval (.tmp 29)) = .pointer (some ⟨w.heap.size, 2, none⟩) := hG ⟨11, .data⟩ (by simp) rfl 29 rfl
          obtain ⟨v, hr, hv⟩ := run_loadL (ev := a'.eval) (W := W) g29 (hetc.below hB)
          exact .inr ⟨rfl, .inl ⟨v, W, hr, Below.refl _ _, hv⟩⟩
        | 13, ho =>
          obtain rfl : _ = o := Option.some.inj ho
          obtain rfl : 31 = d := Option.some.inj hd
          exact .inr ⟨rfl, .inl ⟨_, W, run_fa0 (hk 3 (by kernel_rfl)), Below.refl _ _, rfl⟩⟩
        | 14, ho =>
          obtain rfl : _ = o := Option.some.inj ho
          obtain rfl : 32 = d := Option.some.inj hd
          have g31 : (a'.eval (.tmp 31)) = .pointer (some ⟨w.heap.size + 1, 0, none⟩) := hG ⟨13, .data⟩ (by simp) rfl 31 rfl
          obtain ⟨v, hr, hv⟩ := run_loadL (ev := a'.eval) (W := W) g31 (hex.below hB)
          exact .inr ⟨rfl, .inl ⟨v, W, hr, Below.refl _ _, hv⟩⟩
        | 15, ho =>
          obtain rfl : _ = o := Option.some.inj ho
          obtain rfl : 33 = d := Option.some.inj hd
          exact .inr ⟨rfl, .inl ⟨_, W, run_fa1 (hk 3 (by kernel_rfl)), Below.refl _ _, rfl⟩⟩
        | 16, ho =>
          obtain rfl : _ = o := Option.some.inj ho
          obtain rfl : 34 = d := Option.some.inj hd
          have g33 : (a'.eval (.tmp 33)) = .pointer (some ⟨w.heap.size + 1, 2, none⟩) := hG ⟨15, .data⟩ (by simp) rfl 33 rfl
          obtain ⟨v, hr, hv⟩ := run_loadL (ev := a'.eval) (W := W) g33 (hexc.below hB)
          exact .inr ⟨rfl, .inl ⟨v, W, hr, Below.refl _ _, hv⟩⟩
        | 17, ho =>
          obtain rfl : _ = o := Option.some.inj ho
          obtain rfl : 35 = d := Option.some.inj hd
          have g28 : LV t (a'.eval (.tmp 28)) W := hG ⟨10, .data⟩ (by simp) rfl 28 rfl
          have g30 : LV tc (a'.eval (.tmp 30)) W := hG ⟨12, .data⟩ (by simp) rfl 30 rfl
          have g32 : LV x (a'.eval (.tmp 32)) W := hG ⟨14, .data⟩ (by simp) rfl 32 rfl
          have g34 : LV xc (a'.eval (.tmp 34)) W := hG ⟨16, .data⟩ (by simp) rfl 34 rfl
          exact .inr ⟨rfl, .inr ⟨_, _, run_call rfl map_4 ent_gatehouseref07_Lend, rLend_c g28 g30 g32 g34⟩⟩
        | 18, ho =>
          obtain rfl : _ = o := Option.some.inj ho
          obtain rfl : 36 = d := Option.some.inj hd
          have g26 : (a'.eval (.tmp 26)) = .int .i64 (lendI t tc x xc) := hG ⟨8, .data⟩ (by simp) rfl 26 rfl
          have g35 : (a'.eval (.tmp 35)) = .int .i64 (rlendI t tc x xc) := hG ⟨17, .data⟩ (by simp) rfl 35 rfl
          exact .inr ⟨rfl, .inl ⟨_, W, run_eqE g26 g35, Below.refl _ _, rfl⟩⟩
        | 19, ho =>
          obtain rfl : _ = o := Option.some.inj ho
          obtain rfl : 37 = d := Option.some.inj hd
          have g36 : (a'.eval (.tmp 36)) = .bool ((lendI t tc x xc) == (rlendI t tc x xc)) := hG ⟨18, .data⟩ (by simp) rfl 36 rfl
          exact .inr ⟨rfl, .inl ⟨_, W, run_move rfl, Below.refl _ _, g36⟩⟩
        | 20, ho =>
          obtain rfl : _ = o := Option.some.inj ho
          obtain rfl : 38 = d := Option.some.inj hd
          have gg : a'.eval (.tmp 37) = .bool ((lendI t tc x xc) == (rlendI t tc x xc)) := hG ⟨19, .guard⟩ (by simp) rfl 37 rfl
          by_cases gc : ((lendI t tc x xc) == (rlendI t tc x xc)) = true
          · exact .inr ⟨want_yes (n := 71) (d := 37) rfl hs (by decide) rfl (gg.trans (by rw [gc])), .inl ⟨_, W, run_fa0 (hk 2 (by kernel_rfl)), Below.refl _ _, fun _ => rfl⟩⟩
          · exact .inl ⟨want_no (n := 71) (d := 37) rfl hs (by decide) rfl gg gc, fun e => absurd e gc⟩
        | 21, ho =>
          obtain rfl : _ = o := Option.some.inj ho
          obtain rfl : 39 = d := Option.some.inj hd
          have gg : a'.eval (.tmp 37) = .bool ((lendI t tc x xc) == (rlendI t tc x xc)) := hG ⟨19, .guard⟩ (by simp) rfl 37 rfl
          by_cases gc : ((lendI t tc x xc) == (rlendI t tc x xc)) = true
          · have g38 : (a'.eval (.tmp 38)) = .pointer (some ⟨w.heap.size, 0, none⟩) := hG ⟨20, .data⟩ (by simp) rfl 38 rfl gc
            obtain ⟨v, hr, hv⟩ := run_loadL (ev := a'.eval) (W := W) g38 (het.below hB)
            exact .inr ⟨want_yes (n := 71) (d := 37) rfl hs (by decide) rfl (gg.trans (by rw [gc])), .inl ⟨v, W, hr, Below.refl _ _, fun _ => hv⟩⟩
          · exact .inl ⟨want_no (n := 71) (d := 37) rfl hs (by decide) rfl gg gc, fun e => absurd e gc⟩
        | 22, ho =>
          obtain rfl : _ = o := Option.some.inj ho
          obtain rfl : 40 = d := Option.some.inj hd
          have gg : a'.eval (.tmp 37) = .bool ((lendI t tc x xc) == (rlendI t tc x xc)) := hG ⟨19, .guard⟩ (by simp) rfl 37 rfl
          by_cases gc : ((lendI t tc x xc) == (rlendI t tc x xc)) = true
          · exact .inr ⟨want_yes (n := 71) (d := 37) rfl hs (by decide) rfl (gg.trans (by rw [gc])), .inl ⟨_, W, run_fa1 (hk 2 (by kernel_rfl)), Below.refl _ _, fun _ => rfl⟩⟩
          · exact .inl ⟨want_no (n := 71) (d := 37) rfl hs (by decide) rfl gg gc, fun e => absurd e gc⟩
        | 23, ho =>
          obtain rfl : _ = o := Option.some.inj ho
          obtain rfl : 41 = d := Option.some.inj hd
          have gg : a'.eval (.tmp 37) = .bool ((lendI t tc x xc) == (rlendI t tc x xc)) := hG ⟨19, .guard⟩ (by simp) rfl 37 rfl
          by_cases gc : ((lendI t tc x xc) == (rlendI t tc x xc)) = true
          · have g40 : (a'.eval (.tmp 40)) = .pointer (some ⟨w.heap.size, 2, none⟩) := hG ⟨22, .data⟩ (by simp) rfl 40 rfl gc
            obtain ⟨v, hr, hv⟩ := run_loadL (ev := a'.eval) (W := W) g40 (hetc.below hB)
            exact .inr ⟨want_yes (n := 71) (d := 37) rfl hs (by decide) rfl (gg.trans (by rw [gc])), .inl ⟨v, W, hr, Below.refl _ _, fun _ => hv⟩⟩
          · exact .inl ⟨want_no (n := 71) (d := 37) rfl hs (by decide) rfl gg gc, fun e => absurd e gc⟩
        | 24, ho =>
          obtain rfl : _ = o := Option.some.inj ho
          obtain rfl : 42 = d := Option.some.inj hd
          have gg : a'.eval (.tmp 37) = .bool ((lendI t tc x xc) == (rlendI t tc x xc)) := hG ⟨19, .guard⟩ (by simp) rfl 37 rfl
          by_cases gc : ((lendI t tc x xc) == (rlendI t tc x xc)) = true
          · exact .inr ⟨want_yes (n := 71) (d := 37) rfl hs (by decide) rfl (gg.trans (by rw [gc])), .inl ⟨_, W, run_fa0 (hk 3 (by kernel_rfl)), Below.refl _ _, fun _ => rfl⟩⟩
          · exact .inl ⟨want_no (n := 71) (d := 37) rfl hs (by decide) rfl gg gc, fun e => absurd e gc⟩
        | 25, ho =>
          obtain rfl : _ = o := Option.some.inj ho
          obtain rfl : 43 = d := Option.some.inj hd
          have gg : a'.eval (.tmp 37) = .bool ((lendI t tc x xc) == (rlendI t tc x xc)) := hG ⟨19, .guard⟩ (by simp) rfl 37 rfl
          by_cases gc : ((lendI t tc x xc) == (rlendI t tc x xc)) = true
          · have g42 : (a'.eval (.tmp 42)) = .pointer (some ⟨w.heap.size + 1, 0, none⟩) := hG ⟨24, .data⟩ (by simp) rfl 42 rfl gc
            obtain ⟨v, hr, hv⟩ := run_loadL (ev := a'.eval) (W := W) g42 (hex.below hB)
            exact .inr ⟨want_yes (n := 71) (d := 37) rfl hs (by decide) rfl (gg.trans (by rw [gc])), .inl ⟨v, W, hr, Below.refl _ _, fun _ => hv⟩⟩
          · exact .inl ⟨want_no (n := 71) (d := 37) rfl hs (by decide) rfl gg gc, fun e => absurd e gc⟩
        | 26, ho =>
          obtain rfl : _ = o := Option.some.inj ho
          obtain rfl : 44 = d := Option.some.inj hd
          have gg : a'.eval (.tmp 37) = .bool ((lendI t tc x xc) == (rlendI t tc x xc)) := hG ⟨19, .guard⟩ (by simp) rfl 37 rfl
          by_cases gc : ((lendI t tc x xc) == (rlendI t tc x xc)) = true
          · have g39 : LV t (a'.eval (.tmp 39)) W := hG ⟨21, .data⟩ (by simp) rfl 39 rfl gc
            have g41 : LV tc (a'.eval (.tmp 41)) W := hG ⟨23, .data⟩ (by simp) rfl 41 rfl gc
            have g43 : LV x (a'.eval (.tmp 43)) W := hG ⟨25, .data⟩ (by simp) rfl 43 rfl gc
            exact .inr ⟨want_yes (n := 71) (d := 37) rfl hs (by decide) rfl (gg.trans (by rw [gc])), .inr ⟨_, _, run_call rfl map_3 ent_passage_Rise, (Rise_c g39 g41 g43).mono (fun e W' ⟨v, he, hb, hv⟩ => ⟨v, he, hb, fun _ => hv⟩)⟩⟩
          · exact .inl ⟨want_no (n := 71) (d := 37) rfl hs (by decide) rfl gg gc, fun e => absurd e gc⟩
        | 27, ho =>
          obtain rfl : _ = o := Option.some.inj ho
          obtain rfl : 45 = d := Option.some.inj hd
          have gg : a'.eval (.tmp 37) = .bool ((lendI t tc x xc) == (rlendI t tc x xc)) := hG ⟨19, .guard⟩ (by simp) rfl 37 rfl
          by_cases gc : ((lendI t tc x xc) == (rlendI t tc x xc)) = true
          · exact .inr ⟨want_yes (n := 71) (d := 37) rfl hs (by decide) rfl (gg.trans (by rw [gc])), .inl ⟨_, W, run_fa0 (hk 2 (by kernel_rfl)), Below.refl _ _, fun _ => rfl⟩⟩
          · exact .inl ⟨want_no (n := 71) (d := 37) rfl hs (by decide) rfl gg gc, fun e => absurd e gc⟩
        | 28, ho =>
          obtain rfl : _ = o := Option.some.inj ho
          obtain rfl : 46 = d := Option.some.inj hd
          have gg : a'.eval (.tmp 37) = .bool ((lendI t tc x xc) == (rlendI t tc x xc)) := hG ⟨19, .guard⟩ (by simp) rfl 37 rfl
          by_cases gc : ((lendI t tc x xc) == (rlendI t tc x xc)) = true
          · have g45 : (a'.eval (.tmp 45)) = .pointer (some ⟨w.heap.size, 0, none⟩) := hG ⟨27, .data⟩ (by simp) rfl 45 rfl gc
            obtain ⟨v, hr, hv⟩ := run_loadL (ev := a'.eval) (W := W) g45 (het.below hB)
            exact .inr ⟨want_yes (n := 71) (d := 37) rfl hs (by decide) rfl (gg.trans (by rw [gc])), .inl ⟨v, W, hr, Below.refl _ _, fun _ => hv⟩⟩
          · exact .inl ⟨want_no (n := 71) (d := 37) rfl hs (by decide) rfl gg gc, fun e => absurd e gc⟩
        | 29, ho =>
          obtain rfl : _ = o := Option.some.inj ho
          obtain rfl : 47 = d := Option.some.inj hd
          have gg : a'.eval (.tmp 37) = .bool ((lendI t tc x xc) == (rlendI t tc x xc)) := hG ⟨19, .guard⟩ (by simp) rfl 37 rfl
          by_cases gc : ((lendI t tc x xc) == (rlendI t tc x xc)) = true
          · exact .inr ⟨want_yes (n := 71) (d := 37) rfl hs (by decide) rfl (gg.trans (by rw [gc])), .inl ⟨_, W, run_fa1 (hk 2 (by kernel_rfl)), Below.refl _ _, fun _ => rfl⟩⟩
          · exact .inl ⟨want_no (n := 71) (d := 37) rfl hs (by decide) rfl gg gc, fun e => absurd e gc⟩
        | 30, ho =>
          obtain rfl : _ = o := Option.some.inj ho
          obtain rfl : 48 = d := Option.some.inj hd
          have gg : a'.eval (.tmp 37) = .bool ((lendI t tc x xc) == (rlendI t tc x xc)) := hG ⟨19, .guard⟩ (by simp) rfl 37 rfl
          by_cases gc : ((lendI t tc x xc) == (rlendI t tc x xc)) = true
          · have g47 : (a'.eval (.tmp 47)) = .pointer (some ⟨w.heap.size, 2, none⟩) := hG ⟨29, .data⟩ (by simp) rfl 47 rfl gc
            obtain ⟨v, hr, hv⟩ := run_loadL (ev := a'.eval) (W := W) g47 (hetc.below hB)
            exact .inr ⟨want_yes (n := 71) (d := 37) rfl hs (by decide) rfl (gg.trans (by rw [gc])), .inl ⟨v, W, hr, Below.refl _ _, fun _ => hv⟩⟩
          · exact .inl ⟨want_no (n := 71) (d := 37) rfl hs (by decide) rfl gg gc, fun e => absurd e gc⟩
        | 31, ho =>
          obtain rfl : _ = o := Option.some.inj ho
          obtain rfl : 49 = d := Option.some.inj hd
          have gg : a'.eval (.tmp 37) = .bool ((lendI t tc x xc) == (rlendI t tc x xc)) := hG ⟨19, .guard⟩ (by simp) rfl 37 rfl
          by_cases gc : ((lendI t tc x xc) == (rlendI t tc x xc)) = true
          · exact .inr ⟨want_yes (n := 71) (d := 37) rfl hs (by decide) rfl (gg.trans (by rw [gc])), .inl ⟨_, W, run_fa0 (hk 3 (by kernel_rfl)), Below.refl _ _, fun _ => rfl⟩⟩
          · exact .inl ⟨want_no (n := 71) (d := 37) rfl hs (by decide) rfl gg gc, fun e => absurd e gc⟩
        | 32, ho =>
          obtain rfl : _ = o := Option.some.inj ho
          obtain rfl : 50 = d := Option.some.inj hd
          have gg : a'.eval (.tmp 37) = .bool ((lendI t tc x xc) == (rlendI t tc x xc)) := hG ⟨19, .guard⟩ (by simp) rfl 37 rfl
          by_cases gc : ((lendI t tc x xc) == (rlendI t tc x xc)) = true
          · have g49 : (a'.eval (.tmp 49)) = .pointer (some ⟨w.heap.size + 1, 0, none⟩) := hG ⟨31, .data⟩ (by simp) rfl 49 rfl gc
            obtain ⟨v, hr, hv⟩ := run_loadL (ev := a'.eval) (W := W) g49 (hex.below hB)
            exact .inr ⟨want_yes (n := 71) (d := 37) rfl hs (by decide) rfl (gg.trans (by rw [gc])), .inl ⟨v, W, hr, Below.refl _ _, fun _ => hv⟩⟩
          · exact .inl ⟨want_no (n := 71) (d := 37) rfl hs (by decide) rfl gg gc, fun e => absurd e gc⟩
        | 33, ho =>
          obtain rfl : _ = o := Option.some.inj ho
          obtain rfl : 51 = d := Option.some.inj hd
          have gg : a'.eval (.tmp 37) = .bool ((lendI t tc x xc) == (rlendI t tc x xc)) := hG ⟨19, .guard⟩ (by simp) rfl 37 rfl
          by_cases gc : ((lendI t tc x xc) == (rlendI t tc x xc)) = true
          · have g46 : LV t (a'.eval (.tmp 46)) W := hG ⟨28, .data⟩ (by simp) rfl 46 rfl gc
            have g48 : LV tc (a'.eval (.tmp 48)) W := hG ⟨30, .data⟩ (by simp) rfl 48 rfl gc
            have g50 : LV x (a'.eval (.tmp 50)) W := hG ⟨32, .data⟩ (by simp) rfl 50 rfl gc
            exact .inr ⟨want_yes (n := 71) (d := 37) rfl hs (by decide) rfl (gg.trans (by rw [gc])), .inr ⟨_, _, run_call rfl map_3 ent_gatehouseref07_Rise, (rRise_c g46 g48 g50).mono (fun e W' ⟨v, he, hb, hv⟩ => ⟨v, he, hb, fun _ => hv⟩)⟩⟩
          · exact .inl ⟨want_no (n := 71) (d := 37) rfl hs (by decide) rfl gg gc, fun e => absurd e gc⟩
        | 34, ho =>
          obtain rfl : _ = o := Option.some.inj ho
          obtain rfl : 52 = d := Option.some.inj hd
          have gg : a'.eval (.tmp 37) = .bool ((lendI t tc x xc) == (rlendI t tc x xc)) := hG ⟨19, .guard⟩ (by simp) rfl 37 rfl
          by_cases gc : ((lendI t tc x xc) == (rlendI t tc x xc)) = true
          · have g44 : (a'.eval (.tmp 44)) = .int .i64 (riseI t tc x) := hG ⟨26, .data⟩ (by simp) rfl 44 rfl gc
            have g51 : (a'.eval (.tmp 51)) = .int .i64 (rriseI t tc x) := hG ⟨33, .data⟩ (by simp) rfl 51 rfl gc
            exact .inr ⟨want_yes (n := 71) (d := 37) rfl hs (by decide) rfl (gg.trans (by rw [gc])), .inl ⟨_, W, run_eqE g44 g51, Below.refl _ _, fun _ => rfl⟩⟩
          · exact .inl ⟨want_no (n := 71) (d := 37) rfl hs (by decide) rfl gg gc, fun e => absurd e gc⟩
        | 35, ho =>
          obtain rfl : _ = o := Option.some.inj ho
          obtain rfl : 53 = d := Option.some.inj hd
          have g37 : (a'.eval (.tmp 37)) = .bool ((lendI t tc x xc) == (rlendI t tc x xc)) := hG ⟨19, .data⟩ (by simp) rfl 37 rfl
          by_cases hq : ((lendI t tc x xc) == (rlendI t tc x xc)) = true
          · exact .inr ⟨rfl, .inl ⟨_, W, run_pick_yes (g37.trans (by rw [hq])) (hG ⟨34, .data⟩ (by simp) rfl 52 rfl hq), Below.refl _ _, by rw [hq]; rfl⟩⟩
          · have hq' : ((lendI t tc x xc) == (rlendI t tc x xc)) = false := by simpa using hq
            exact .inr ⟨rfl, .inl ⟨_, W, run_pick_no (g37.trans (by rw [hq'])) rfl, Below.refl _ _, by rw [hq']; rfl⟩⟩
        | 36, ho =>
          obtain rfl : _ = o := Option.some.inj ho
          obtain rfl : 54 = d := Option.some.inj hd
          have g53 : (a'.eval (.tmp 53)) = .bool (((lendI t tc x xc) == (rlendI t tc x xc)) && ((riseI t tc x) == (rriseI t tc x))) := hG ⟨35, .data⟩ (by simp) rfl 53 rfl
          exact .inr ⟨rfl, .inl ⟨_, W, run_move rfl, Below.refl _ _, g53⟩⟩
        | 37, ho =>
          obtain rfl : _ = o := Option.some.inj ho
          obtain rfl : 55 = d := Option.some.inj hd
          have gg : a'.eval (.tmp 54) = .bool (((lendI t tc x xc) == (rlendI t tc x xc)) && ((riseI t tc x) == (rriseI t tc x))) := hG ⟨36, .guard⟩ (by simp) rfl 54 rfl
          by_cases gc : (((lendI t tc x xc) == (rlendI t tc x xc)) && ((riseI t tc x) == (rriseI t tc x))) = true
          · exact .inr ⟨want_yes (n := 71) (d := 54) rfl hs (by decide) rfl (gg.trans (by rw [gc])), .inl ⟨_, W, run_fa0 (hk 2 (by kernel_rfl)), Below.refl _ _, fun _ => rfl⟩⟩
          · exact .inl ⟨want_no (n := 71) (d := 54) rfl hs (by decide) rfl gg gc, fun e => absurd e gc⟩
        | 38, ho =>
          obtain rfl : _ = o := Option.some.inj ho
          obtain rfl : 56 = d := Option.some.inj hd
          have gg : a'.eval (.tmp 54) = .bool (((lendI t tc x xc) == (rlendI t tc x xc)) && ((riseI t tc x) == (rriseI t tc x))) := hG ⟨36, .guard⟩ (by simp) rfl 54 rfl
          by_cases gc : (((lendI t tc x xc) == (rlendI t tc x xc)) && ((riseI t tc x) == (rriseI t tc x))) = true
          · have g55 : (a'.eval (.tmp 55)) = .pointer (some ⟨w.heap.size, 0, none⟩) := hG ⟨37, .data⟩ (by simp) rfl 55 rfl gc
            obtain ⟨v, hr, hv⟩ := run_loadL (ev := a'.eval) (W := W) g55 (het.below hB)
            exact .inr ⟨want_yes (n := 71) (d := 54) rfl hs (by decide) rfl (gg.trans (by rw [gc])), .inl ⟨v, W, hr, Below.refl _ _, fun _ => hv⟩⟩
          · exact .inl ⟨want_no (n := 71) (d := 54) rfl hs (by decide) rfl gg gc, fun e => absurd e gc⟩
        | 39, ho =>
          obtain rfl : _ = o := Option.some.inj ho
          obtain rfl : 57 = d := Option.some.inj hd
          have gg : a'.eval (.tmp 54) = .bool (((lendI t tc x xc) == (rlendI t tc x xc)) && ((riseI t tc x) == (rriseI t tc x))) := hG ⟨36, .guard⟩ (by simp) rfl 54 rfl
          by_cases gc : (((lendI t tc x xc) == (rlendI t tc x xc)) && ((riseI t tc x) == (rriseI t tc x))) = true
          · exact .inr ⟨want_yes (n := 71) (d := 54) rfl hs (by decide) rfl (gg.trans (by rw [gc])), .inl ⟨_, W, run_fa1 (hk 2 (by kernel_rfl)), Below.refl _ _, fun _ => rfl⟩⟩
          · exact .inl ⟨want_no (n := 71) (d := 54) rfl hs (by decide) rfl gg gc, fun e => absurd e gc⟩
        | 40, ho =>
          obtain rfl : _ = o := Option.some.inj ho
          obtain rfl : 58 = d := Option.some.inj hd
          have gg : a'.eval (.tmp 54) = .bool (((lendI t tc x xc) == (rlendI t tc x xc)) && ((riseI t tc x) == (rriseI t tc x))) := hG ⟨36, .guard⟩ (by simp) rfl 54 rfl
          by_cases gc : (((lendI t tc x xc) == (rlendI t tc x xc)) && ((riseI t tc x) == (rriseI t tc x))) = true
          · have g57 : (a'.eval (.tmp 57)) = .pointer (some ⟨w.heap.size, 2, none⟩) := hG ⟨39, .data⟩ (by simp) rfl 57 rfl gc
            obtain ⟨v, hr, hv⟩ := run_loadL (ev := a'.eval) (W := W) g57 (hetc.below hB)
            exact .inr ⟨want_yes (n := 71) (d := 54) rfl hs (by decide) rfl (gg.trans (by rw [gc])), .inl ⟨v, W, hr, Below.refl _ _, fun _ => hv⟩⟩
          · exact .inl ⟨want_no (n := 71) (d := 54) rfl hs (by decide) rfl gg gc, fun e => absurd e gc⟩
        | 41, ho =>
          obtain rfl : _ = o := Option.some.inj ho
          obtain rfl : 59 = d := Option.some.inj hd
          have gg : a'.eval (.tmp 54) = .bool (((lendI t tc x xc) == (rlendI t tc x xc)) && ((riseI t tc x) == (rriseI t tc x))) := hG ⟨36, .guard⟩ (by simp) rfl 54 rfl
          by_cases gc : (((lendI t tc x xc) == (rlendI t tc x xc)) && ((riseI t tc x) == (rriseI t tc x))) = true
          · exact .inr ⟨want_yes (n := 71) (d := 54) rfl hs (by decide) rfl (gg.trans (by rw [gc])), .inl ⟨_, W, run_fa1 (hk 3 (by kernel_rfl)), Below.refl _ _, fun _ => rfl⟩⟩
          · exact .inl ⟨want_no (n := 71) (d := 54) rfl hs (by decide) rfl gg gc, fun e => absurd e gc⟩
        | 42, ho =>
          obtain rfl : _ = o := Option.some.inj ho
          obtain rfl : 60 = d := Option.some.inj hd
          have gg : a'.eval (.tmp 54) = .bool (((lendI t tc x xc) == (rlendI t tc x xc)) && ((riseI t tc x) == (rriseI t tc x))) := hG ⟨36, .guard⟩ (by simp) rfl 54 rfl
          by_cases gc : (((lendI t tc x xc) == (rlendI t tc x xc)) && ((riseI t tc x) == (rriseI t tc x))) = true
          · have g59 : (a'.eval (.tmp 59)) = .pointer (some ⟨w.heap.size + 1, 2, none⟩) := hG ⟨41, .data⟩ (by simp) rfl 59 rfl gc
            obtain ⟨v, hr, hv⟩ := run_loadL (ev := a'.eval) (W := W) g59 (hexc.below hB)
            exact .inr ⟨want_yes (n := 71) (d := 54) rfl hs (by decide) rfl (gg.trans (by rw [gc])), .inl ⟨v, W, hr, Below.refl _ _, fun _ => hv⟩⟩
          · exact .inl ⟨want_no (n := 71) (d := 54) rfl hs (by decide) rfl gg gc, fun e => absurd e gc⟩
        | 43, ho =>
          obtain rfl : _ = o := Option.some.inj ho
          obtain rfl : 61 = d := Option.some.inj hd
          have gg : a'.eval (.tmp 54) = .bool (((lendI t tc x xc) == (rlendI t tc x xc)) && ((riseI t tc x) == (rriseI t tc x))) := hG ⟨36, .guard⟩ (by simp) rfl 54 rfl
          by_cases gc : (((lendI t tc x xc) == (rlendI t tc x xc)) && ((riseI t tc x) == (rriseI t tc x))) = true
          · have g56 : LV t (a'.eval (.tmp 56)) W := hG ⟨38, .data⟩ (by simp) rfl 56 rfl gc
            have g58 : LV tc (a'.eval (.tmp 58)) W := hG ⟨40, .data⟩ (by simp) rfl 58 rfl gc
            have g60 : LV xc (a'.eval (.tmp 60)) W := hG ⟨42, .data⟩ (by simp) rfl 60 rfl gc
            exact .inr ⟨want_yes (n := 71) (d := 54) rfl hs (by decide) rfl (gg.trans (by rw [gc])), .inr ⟨_, _, run_call rfl map_3 ent_passage_Clear, (Clear_c g56 g58 g60).mono (fun e W' ⟨v, he, hb, hv⟩ => ⟨v, he, hb, fun _ => hv⟩)⟩⟩
          · exact .inl ⟨want_no (n := 71) (d := 54) rfl hs (by decide) rfl gg gc, fun e => absurd e gc⟩
        | 44, ho =>
          obtain rfl : _ = o := Option.some.inj ho
          obtain rfl : 62 = d := Option.some.inj hd
          have gg : a'.eval (.tmp 54) = .bool (((lendI t tc x xc) == (rlendI t tc x xc)) && ((riseI t tc x) == (rriseI t tc x))) := hG ⟨36, .guard⟩ (by simp) rfl 54 rfl
          by_cases gc : (((lendI t tc x xc) == (rlendI t tc x xc)) && ((riseI t tc x) == (rriseI t tc x))) = true
          · exact .inr ⟨want_yes (n := 71) (d := 54) rfl hs (by decide) rfl (gg.trans (by rw [gc])), .inl ⟨_, W, run_fa0 (hk 2 (by kernel_rfl)), Below.refl _ _, fun _ => rfl⟩⟩
          · exact .inl ⟨want_no (n := 71) (d := 54) rfl hs (by decide) rfl gg gc, fun e => absurd e gc⟩
        | 45, ho =>
          obtain rfl : _ = o := Option.some.inj ho
          obtain rfl : 63 = d := Option.some.inj hd
          have gg : a'.eval (.tmp 54) = .bool (((lendI t tc x xc) == (rlendI t tc x xc)) && ((riseI t tc x) == (rriseI t tc x))) := hG ⟨36, .guard⟩ (by simp) rfl 54 rfl
          by_cases gc : (((lendI t tc x xc) == (rlendI t tc x xc)) && ((riseI t tc x) == (rriseI t tc x))) = true
          · have g62 : (a'.eval (.tmp 62)) = .pointer (some ⟨w.heap.size, 0, none⟩) := hG ⟨44, .data⟩ (by simp) rfl 62 rfl gc
            obtain ⟨v, hr, hv⟩ := run_loadL (ev := a'.eval) (W := W) g62 (het.below hB)
            exact .inr ⟨want_yes (n := 71) (d := 54) rfl hs (by decide) rfl (gg.trans (by rw [gc])), .inl ⟨v, W, hr, Below.refl _ _, fun _ => hv⟩⟩
          · exact .inl ⟨want_no (n := 71) (d := 54) rfl hs (by decide) rfl gg gc, fun e => absurd e gc⟩
        | 46, ho =>
          obtain rfl : _ = o := Option.some.inj ho
          obtain rfl : 64 = d := Option.some.inj hd
          have gg : a'.eval (.tmp 54) = .bool (((lendI t tc x xc) == (rlendI t tc x xc)) && ((riseI t tc x) == (rriseI t tc x))) := hG ⟨36, .guard⟩ (by simp) rfl 54 rfl
          by_cases gc : (((lendI t tc x xc) == (rlendI t tc x xc)) && ((riseI t tc x) == (rriseI t tc x))) = true
          · exact .inr ⟨want_yes (n := 71) (d := 54) rfl hs (by decide) rfl (gg.trans (by rw [gc])), .inl ⟨_, W, run_fa1 (hk 2 (by kernel_rfl)), Below.refl _ _, fun _ => rfl⟩⟩
          · exact .inl ⟨want_no (n := 71) (d := 54) rfl hs (by decide) rfl gg gc, fun e => absurd e gc⟩
        | 47, ho =>
          obtain rfl : _ = o := Option.some.inj ho
          obtain rfl : 65 = d := Option.some.inj hd
          have gg : a'.eval (.tmp 54) = .bool (((lendI t tc x xc) == (rlendI t tc x xc)) && ((riseI t tc x) == (rriseI t tc x))) := hG ⟨36, .guard⟩ (by simp) rfl 54 rfl
          by_cases gc : (((lendI t tc x xc) == (rlendI t tc x xc)) && ((riseI t tc x) == (rriseI t tc x))) = true
          · have g64 : (a'.eval (.tmp 64)) = .pointer (some ⟨w.heap.size, 2, none⟩) := hG ⟨46, .data⟩ (by simp) rfl 64 rfl gc
            obtain ⟨v, hr, hv⟩ := run_loadL (ev := a'.eval) (W := W) g64 (hetc.below hB)
            exact .inr ⟨want_yes (n := 71) (d := 54) rfl hs (by decide) rfl (gg.trans (by rw [gc])), .inl ⟨v, W, hr, Below.refl _ _, fun _ => hv⟩⟩
          · exact .inl ⟨want_no (n := 71) (d := 54) rfl hs (by decide) rfl gg gc, fun e => absurd e gc⟩
        | 48, ho =>
          obtain rfl : _ = o := Option.some.inj ho
          obtain rfl : 66 = d := Option.some.inj hd
          have gg : a'.eval (.tmp 54) = .bool (((lendI t tc x xc) == (rlendI t tc x xc)) && ((riseI t tc x) == (rriseI t tc x))) := hG ⟨36, .guard⟩ (by simp) rfl 54 rfl
          by_cases gc : (((lendI t tc x xc) == (rlendI t tc x xc)) && ((riseI t tc x) == (rriseI t tc x))) = true
          · exact .inr ⟨want_yes (n := 71) (d := 54) rfl hs (by decide) rfl (gg.trans (by rw [gc])), .inl ⟨_, W, run_fa1 (hk 3 (by kernel_rfl)), Below.refl _ _, fun _ => rfl⟩⟩
          · exact .inl ⟨want_no (n := 71) (d := 54) rfl hs (by decide) rfl gg gc, fun e => absurd e gc⟩
        | 49, ho =>
          obtain rfl : _ = o := Option.some.inj ho
          obtain rfl : 67 = d := Option.some.inj hd
          have gg : a'.eval (.tmp 54) = .bool (((lendI t tc x xc) == (rlendI t tc x xc)) && ((riseI t tc x) == (rriseI t tc x))) := hG ⟨36, .guard⟩ (by simp) rfl 54 rfl
          by_cases gc : (((lendI t tc x xc) == (rlendI t tc x xc)) && ((riseI t tc x) == (rriseI t tc x))) = true
          · have g66 : (a'.eval (.tmp 66)) = .pointer (some ⟨w.heap.size + 1, 2, none⟩) := hG ⟨48, .data⟩ (by simp) rfl 66 rfl gc
            obtain ⟨v, hr, hv⟩ := run_loadL (ev := a'.eval) (W := W) g66 (hexc.below hB)
            exact .inr ⟨want_yes (n := 71) (d := 54) rfl hs (by decide) rfl (gg.trans (by rw [gc])), .inl ⟨v, W, hr, Below.refl _ _, fun _ => hv⟩⟩
          · exact .inl ⟨want_no (n := 71) (d := 54) rfl hs (by decide) rfl gg gc, fun e => absurd e gc⟩
        | 50, ho =>
          obtain rfl : _ = o := Option.some.inj ho
          obtain rfl : 68 = d := Option.some.inj hd
          have gg : a'.eval (.tmp 54) = .bool (((lendI t tc x xc) == (rlendI t tc x xc)) && ((riseI t tc x) == (rriseI t tc x))) := hG ⟨36, .guard⟩ (by simp) rfl 54 rfl
          by_cases gc : (((lendI t tc x xc) == (rlendI t tc x xc)) && ((riseI t tc x) == (rriseI t tc x))) = true
          · have g63 : LV t (a'.eval (.tmp 63)) W := hG ⟨45, .data⟩ (by simp) rfl 63 rfl gc
            have g65 : LV tc (a'.eval (.tmp 65)) W := hG ⟨47, .data⟩ (by simp) rfl 65 rfl gc
            have g67 : LV xc (a'.eval (.tmp 67)) W := hG ⟨49, .data⟩ (by simp) rfl 67 rfl gc
            exact .inr ⟨want_yes (n := 71) (d := 54) rfl hs (by decide) rfl (gg.trans (by rw [gc])), .inr ⟨_, _, run_call rfl map_3 ent_gatehouseref07_Clear, (rClear_c g63 g65 g67).mono (fun e W' ⟨v, he, hb, hv⟩ => ⟨v, he, hb, fun _ => hv⟩)⟩⟩
          · exact .inl ⟨want_no (n := 71) (d := 54) rfl hs (by decide) rfl gg gc, fun e => absurd e gc⟩
        | 51, ho =>
          obtain rfl : _ = o := Option.some.inj ho
          obtain rfl : 69 = d := Option.some.inj hd
          have gg : a'.eval (.tmp 54) = .bool (((lendI t tc x xc) == (rlendI t tc x xc)) && ((riseI t tc x) == (rriseI t tc x))) := hG ⟨36, .guard⟩ (by simp) rfl 54 rfl
          by_cases gc : (((lendI t tc x xc) == (rlendI t tc x xc)) && ((riseI t tc x) == (rriseI t tc x))) = true
          · have g61 : (a'.eval (.tmp 61)) = .int .i64 (clearI t tc xc) := hG ⟨43, .data⟩ (by simp) rfl 61 rfl gc
            have g68 : (a'.eval (.tmp 68)) = .int .i64 (rclearI t tc xc) := hG ⟨50, .data⟩ (by simp) rfl 68 rfl gc
            exact .inr ⟨want_yes (n := 71) (d := 54) rfl hs (by decide) rfl (gg.trans (by rw [gc])), .inl ⟨_, W, run_eqE g61 g68, Below.refl _ _, fun _ => rfl⟩⟩
          · exact .inl ⟨want_no (n := 71) (d := 54) rfl hs (by decide) rfl gg gc, fun e => absurd e gc⟩
        | 52, ho =>
          obtain rfl : _ = o := Option.some.inj ho
          obtain rfl : 70 = d := Option.some.inj hd
          have g54 : (a'.eval (.tmp 54)) = .bool (((lendI t tc x xc) == (rlendI t tc x xc)) && ((riseI t tc x) == (rriseI t tc x))) := hG ⟨36, .data⟩ (by simp) rfl 54 rfl
          by_cases hq : (((lendI t tc x xc) == (rlendI t tc x xc)) && ((riseI t tc x) == (rriseI t tc x))) = true
          · exact .inr ⟨rfl, .inl ⟨_, W, run_pick_yes (g54.trans (by rw [hq])) (hG ⟨51, .data⟩ (by simp) rfl 69 rfl hq), Below.refl _ _, by rw [hq]; rfl⟩⟩
          · have hq' : (((lendI t tc x xc) == (rlendI t tc x xc)) && ((riseI t tc x) == (rriseI t tc x))) = false := by simpa using hq
            exact .inr ⟨rfl, .inl ⟨_, W, run_pick_no (g54.trans (by rw [hq'])) rfl, Below.refl _ _, by rw [hq']; rfl⟩⟩
        | j + 53, ho => simp at ho
      · intro a' W hB hs hdf hk hG
        obtain ⟨tm, df⟩ := a'
        obtain rfl : df = [] := hdf
        have e0 : tm.getD 0 undef = .agg #[.int .i64 t.fst, .slice pt t.snd.length ct, .int .i64 tc.fst, .slice ptc tc.snd.length ctc] := hk 0 (by kernel_rfl)
        have e1 : tm.getD 1 undef = .agg #[.int .i64 x.fst, .slice px x.snd.length cx, .int .i64 xc.fst, .slice pxc xc.snd.length cxc] := hk 1 (by kernel_rfl)
        have e2 : tm.getD 2 undef = .pointer (some ⟨w.heap.size, 0, none⟩) := hk 2 (by kernel_rfl)
        have e3 : tm.getD 3 undef = .pointer (some ⟨w.heap.size + 1, 0, none⟩) := hk 3 (by kernel_rfl)
        have e4 : tm.getD 4 undef = .bool false := hk 4 (by kernel_rfl)
        have e5 : tm.getD 5 undef = .bool true := hk 5 (by kernel_rfl)
        have e6 : tm.getD 6 undef = .bool false := hk 6 (by kernel_rfl)
        have e7 : tm.getD 7 undef = .pointer (some ⟨w.heap.size, 0, none⟩) := hk 7 (by kernel_rfl)
        have e8 : tm.getD 8 undef = t8 := hk 8 (by kernel_rfl)
        have e9 : tm.getD 9 undef = .pointer (some ⟨w.heap.size, 2, none⟩) := hk 9 (by kernel_rfl)
        have e10 : tm.getD 10 undef = t10 := hk 10 (by kernel_rfl)
        have e11 : tm.getD 11 undef = .pointer (some ⟨w.heap.size + 1, 0, none⟩) := hk 11 (by kernel_rfl)
        have e12 : tm.getD 12 undef = t12 := hk 12 (by kernel_rfl)
        have e13 : tm.getD 13 undef = .pointer (some ⟨w.heap.size + 1, 2, none⟩) := hk 13 (by kernel_rfl)
        have e14 : tm.getD 14 undef = t14 := hk 14 (by kernel_rfl)
        have e15 : tm.getD 15 undef = t15 := hk 15 (by kernel_rfl)
        have e16 : tm.getD 16 undef = .bool true := hk 16 (by kernel_rfl)
        have e17 : tm.getD 17 undef = .bool !true := hk 17 (by kernel_rfl)
        have g18 : (tm.getD 18 undef) = .pointer (some ⟨w.heap.size, 0, none⟩) := hG 0 18 (by decide) rfl
        have g19 : LV t (tm.getD 19 undef) W := hG 1 19 (by decide) rfl
        have g20 : (tm.getD 20 undef) = .pointer (some ⟨w.heap.size, 2, none⟩) := hG 2 20 (by decide) rfl
        have g21 : LV tc (tm.getD 21 undef) W := hG 3 21 (by decide) rfl
        have g22 : (tm.getD 22 undef) = .pointer (some ⟨w.heap.size + 1, 0, none⟩) := hG 4 22 (by decide) rfl
        have g23 : LV x (tm.getD 23 undef) W := hG 5 23 (by decide) rfl
        have g24 : (tm.getD 24 undef) = .pointer (some ⟨w.heap.size + 1, 2, none⟩) := hG 6 24 (by decide) rfl
        have g25 : LV xc (tm.getD 25 undef) W := hG 7 25 (by decide) rfl
        have g26 : (tm.getD 26 undef) = .int .i64 (lendI t tc x xc) := hG 8 26 (by decide) rfl
        have g27 : (tm.getD 27 undef) = .pointer (some ⟨w.heap.size, 0, none⟩) := hG 9 27 (by decide) rfl
        have g28 : LV t (tm.getD 28 undef) W := hG 10 28 (by decide) rfl
        have g29 : (tm.getD 29 undef) = .pointer (some ⟨w.heap.size, 2, none⟩) := hG 11 29 (by decide) rfl
        have g30 : LV tc (tm.getD 30 undef) W := hG 12 30 (by decide) rfl
        have g31 : (tm.getD 31 undef) = .pointer (some ⟨w.heap.size + 1, 0, none⟩) := hG 13 31 (by decide) rfl
        have g32 : LV x (tm.getD 32 undef) W := hG 14 32 (by decide) rfl
        have g33 : (tm.getD 33 undef) = .pointer (some ⟨w.heap.size + 1, 2, none⟩) := hG 15 33 (by decide) rfl
        have g34 : LV xc (tm.getD 34 undef) W := hG 16 34 (by decide) rfl
        have g35 : (tm.getD 35 undef) = .int .i64 (rlendI t tc x xc) := hG 17 35 (by decide) rfl
        have g36 : (tm.getD 36 undef) = .bool ((lendI t tc x xc) == (rlendI t tc x xc)) := hG 18 36 (by decide) rfl
        have g37 : (tm.getD 37 undef) = .bool ((lendI t tc x xc) == (rlendI t tc x xc)) := hG 19 37 (by decide) rfl
        have g38 : ((lendI t tc x xc) == (rlendI t tc x xc)) = true → (tm.getD 38 undef) = .pointer (some ⟨w.heap.size, 0, none⟩) := hG 20 38 (by decide) rfl
        have g39 : ((lendI t tc x xc) == (rlendI t tc x xc)) = true → LV t (tm.getD 39 undef) W := hG 21 39 (by decide) rfl
        have g40 : ((lendI t tc x xc) == (rlendI t tc x xc)) = true → (tm.getD 40 undef) = .pointer (some ⟨w.heap.size, 2, none⟩) := hG 22 40 (by decide) rfl
        have g41 : ((lendI t tc x xc) == (rlendI t tc x xc)) = true → LV tc (tm.getD 41 undef) W := hG 23 41 (by decide) rfl
        have g42 : ((lendI t tc x xc) == (rlendI t tc x xc)) = true → (tm.getD 42 undef) = .pointer (some ⟨w.heap.size + 1, 0, none⟩) := hG 24 42 (by decide) rfl
        have g43 : ((lendI t tc x xc) == (rlendI t tc x xc)) = true → LV x (tm.getD 43 undef) W := hG 25 43 (by decide) rfl
        have g44 : ((lendI t tc x xc) == (rlendI t tc x xc)) = true → (tm.getD 44 undef) = .int .i64 (riseI t tc x) := hG 26 44 (by decide) rfl
        have g45 : ((lendI t tc x xc) == (rlendI t tc x xc)) = true → (tm.getD 45 undef) = .pointer (some ⟨w.heap.size, 0, none⟩) := hG 27 45 (by decide) rfl
        have g46 : ((lendI t tc x xc) == (rlendI t tc x xc)) = true → LV t (tm.getD 46 undef) W := hG 28 46 (by decide) rfl
        have g47 : ((lendI t tc x xc) == (rlendI t tc x xc)) = true → (tm.getD 47 undef) = .pointer (some ⟨w.heap.size, 2, none⟩) := hG 29 47 (by decide) rfl
        have g48 : ((lendI t tc x xc) == (rlendI t tc x xc)) = true → LV tc (tm.getD 48 undef) W := hG 30 48 (by decide) rfl
        have g49 : ((lendI t tc x xc) == (rlendI t tc x xc)) = true → (tm.getD 49 undef) = .pointer (some ⟨w.heap.size + 1, 0, none⟩) := hG 31 49 (by decide) rfl
        have g50 : ((lendI t tc x xc) == (rlendI t tc x xc)) = true → LV x (tm.getD 50 undef) W := hG 32 50 (by decide) rfl
        have g51 : ((lendI t tc x xc) == (rlendI t tc x xc)) = true → (tm.getD 51 undef) = .int .i64 (rriseI t tc x) := hG 33 51 (by decide) rfl
        have g52 : ((lendI t tc x xc) == (rlendI t tc x xc)) = true → (tm.getD 52 undef) = .bool ((riseI t tc x) == (rriseI t tc x)) := hG 34 52 (by decide) rfl
        have g53 : (tm.getD 53 undef) = .bool (((lendI t tc x xc) == (rlendI t tc x xc)) && ((riseI t tc x) == (rriseI t tc x))) := hG 35 53 (by decide) rfl
        have g54 : (tm.getD 54 undef) = .bool (((lendI t tc x xc) == (rlendI t tc x xc)) && ((riseI t tc x) == (rriseI t tc x))) := hG 36 54 (by decide) rfl
        have g55 : (((lendI t tc x xc) == (rlendI t tc x xc)) && ((riseI t tc x) == (rriseI t tc x))) = true → (tm.getD 55 undef) = .pointer (some ⟨w.heap.size, 0, none⟩) := hG 37 55 (by decide) rfl
        have g56 : (((lendI t tc x xc) == (rlendI t tc x xc)) && ((riseI t tc x) == (rriseI t tc x))) = true → LV t (tm.getD 56 undef) W := hG 38 56 (by decide) rfl
        have g57 : (((lendI t tc x xc) == (rlendI t tc x xc)) && ((riseI t tc x) == (rriseI t tc x))) = true → (tm.getD 57 undef) = .pointer (some ⟨w.heap.size, 2, none⟩) := hG 39 57 (by decide) rfl
        have g58 : (((lendI t tc x xc) == (rlendI t tc x xc)) && ((riseI t tc x) == (rriseI t tc x))) = true → LV tc (tm.getD 58 undef) W := hG 40 58 (by decide) rfl
        have g59 : (((lendI t tc x xc) == (rlendI t tc x xc)) && ((riseI t tc x) == (rriseI t tc x))) = true → (tm.getD 59 undef) = .pointer (some ⟨w.heap.size + 1, 2, none⟩) := hG 41 59 (by decide) rfl
        have g60 : (((lendI t tc x xc) == (rlendI t tc x xc)) && ((riseI t tc x) == (rriseI t tc x))) = true → LV xc (tm.getD 60 undef) W := hG 42 60 (by decide) rfl
        have g61 : (((lendI t tc x xc) == (rlendI t tc x xc)) && ((riseI t tc x) == (rriseI t tc x))) = true → (tm.getD 61 undef) = .int .i64 (clearI t tc xc) := hG 43 61 (by decide) rfl
        have g62 : (((lendI t tc x xc) == (rlendI t tc x xc)) && ((riseI t tc x) == (rriseI t tc x))) = true → (tm.getD 62 undef) = .pointer (some ⟨w.heap.size, 0, none⟩) := hG 44 62 (by decide) rfl
        have g63 : (((lendI t tc x xc) == (rlendI t tc x xc)) && ((riseI t tc x) == (rriseI t tc x))) = true → LV t (tm.getD 63 undef) W := hG 45 63 (by decide) rfl
        have g64 : (((lendI t tc x xc) == (rlendI t tc x xc)) && ((riseI t tc x) == (rriseI t tc x))) = true → (tm.getD 64 undef) = .pointer (some ⟨w.heap.size, 2, none⟩) := hG 46 64 (by decide) rfl
        have g65 : (((lendI t tc x xc) == (rlendI t tc x xc)) && ((riseI t tc x) == (rriseI t tc x))) = true → LV tc (tm.getD 65 undef) W := hG 47 65 (by decide) rfl
        have g66 : (((lendI t tc x xc) == (rlendI t tc x xc)) && ((riseI t tc x) == (rriseI t tc x))) = true → (tm.getD 66 undef) = .pointer (some ⟨w.heap.size + 1, 2, none⟩) := hG 48 66 (by decide) rfl
        have g67 : (((lendI t tc x xc) == (rlendI t tc x xc)) && ((riseI t tc x) == (rriseI t tc x))) = true → LV xc (tm.getD 67 undef) W := hG 49 67 (by decide) rfl
        have g68 : (((lendI t tc x xc) == (rlendI t tc x xc)) && ((riseI t tc x) == (rriseI t tc x))) = true → (tm.getD 68 undef) = .int .i64 (rclearI t tc xc) := hG 50 68 (by decide) rfl
        have g69 : (((lendI t tc x xc) == (rlendI t tc x xc)) && ((riseI t tc x) == (rriseI t tc x))) = true → (tm.getD 69 undef) = .bool ((clearI t tc xc) == (rclearI t tc xc)) := hG 51 69 (by decide) rfl
        have g70 : (tm.getD 70 undef) = .bool ((((lendI t tc x xc) == (rlendI t tc x xc)) && ((riseI t tc x) == (rriseI t tc x))) && ((clearI t tc xc) == (rclearI t tc xc))) := hG 52 70 (by decide) rfl
        have htm := arr_of tm [.agg #[.int .i64 t.fst, .slice pt t.snd.length ct, .int .i64 tc.fst, .slice ptc tc.snd.length ctc], .agg #[.int .i64 x.fst, .slice px x.snd.length cx, .int .i64 xc.fst, .slice pxc xc.snd.length cxc], .pointer (some ⟨w.heap.size, 0, none⟩), .pointer (some ⟨w.heap.size + 1, 0, none⟩), .bool false, .bool true, .bool false, .pointer (some ⟨w.heap.size, 0, none⟩), t8, .pointer (some ⟨w.heap.size, 2, none⟩), t10, .pointer (some ⟨w.heap.size + 1, 0, none⟩), t12, .pointer (some ⟨w.heap.size + 1, 2, none⟩), t14, t15, .bool true, .bool !true, tm.getD 18 undef, tm.getD 19 undef, tm.getD 20 undef, tm.getD 21 undef, tm.getD 22 undef, tm.getD 23 undef, tm.getD 24 undef, tm.getD 25 undef, tm.getD 26 undef, tm.getD 27 undef, tm.getD 28 undef, tm.getD 29 undef, tm.getD 30 undef, tm.getD 31 undef, tm.getD 32 undef, tm.getD 33 undef, tm.getD 34 undef, tm.getD 35 undef, tm.getD 36 undef, tm.getD 37 undef, tm.getD 38 undef, tm.getD 39 undef, tm.getD 40 undef, tm.getD 41 undef, tm.getD 42 undef, tm.getD 43 undef, tm.getD 44 undef, tm.getD 45 undef, tm.getD 46 undef, tm.getD 47 undef, tm.getD 48 undef, tm.getD 49 undef, tm.getD 50 undef, tm.getD 51 undef, tm.getD 52 undef, tm.getD 53 undef, tm.getD 54 undef, tm.getD 55 undef, tm.getD 56 undef, tm.getD 57 undef, tm.getD 58 undef, tm.getD 59 undef, tm.getD 60 undef, tm.getD 61 undef, tm.getD 62 undef, tm.getD 63 undef, tm.getD 64 undef, tm.getD 65 undef, tm.getD 66 undef, tm.getD 67 undef, tm.getD 68 undef, tm.getD 69 undef, tm.getD 70 undef] hs (by show [tm.getD 0 undef, tm.getD 1 undef, tm.getD 2 undef, tm.getD 3 undef, tm.getD 4 undef, tm.getD 5 undef, tm.getD 6 undef, tm.getD 7 undef, tm.getD 8 undef, tm.getD 9 undef, tm.getD 10 undef, tm.getD 11 undef, tm.getD 12 undef, tm.getD 13 undef, tm.getD 14 undef, tm.getD 15 undef, tm.getD 16 undef, tm.getD 17 undef, tm.getD 18 undef, tm.getD 19 undef, tm.getD 20 undef, tm.getD 21 undef, tm.getD 22 undef, tm.getD 23 undef, tm.getD 24 undef, tm.getD 25 undef, tm.getD 26 undef, tm.getD 27 undef, tm.getD 28 undef, tm.getD 29 undef, tm.getD 30 undef, tm.getD 31 undef, tm.getD 32 undef, tm.getD 33 undef, tm.getD 34 undef, tm.getD 35 undef, tm.getD 36 undef, tm.getD 37 undef, tm.getD 38 undef, tm.getD 39 undef, tm.getD 40 undef, tm.getD 41 undef, tm.getD 42 undef, tm.getD 43 undef, tm.getD 44 undef, tm.getD 45 undef, tm.getD 46 undef, tm.getD 47 undef, tm.getD 48 undef, tm.getD 49 undef, tm.getD 50 undef, tm.getD 51 undef, tm.getD 52 undef, tm.getD 53 undef, tm.getD 54 undef, tm.getD 55 undef, tm.getD 56 undef, tm.getD 57 undef, tm.getD 58 undef, tm.getD 59 undef, tm.getD 60 undef, tm.getD 61 undef, tm.getD 62 undef, tm.getD 63 undef, tm.getD 64 undef, tm.getD 65 undef, tm.getD 66 undef, tm.getD 67 undef, tm.getD 68 undef, tm.getD 69 undef, tm.getD 70 undef] = _; rw [e0, e1, e2, e3, e4, e5, e6, e7, e8, e9, e10, e11, e12, e13, e14, e15, e16, e17])
        clear hs hk hG e0 e1 e2 e3 e4 e5 e6 e7 e8 e9 e10 e11 e12 e13 e14 e15 e16 e17
        generalize tm.getD 18 undef = t18 at htm g18
        generalize tm.getD 19 undef = t19 at htm g19
        generalize tm.getD 20 undef = t20 at htm g20
        generalize tm.getD 21 undef = t21 at htm g21
        generalize tm.getD 22 undef = t22 at htm g22
        generalize tm.getD 23 undef = t23 at htm g23
        generalize tm.getD 24 undef = t24 at htm g24
        generalize tm.getD 25 undef = t25 at htm g25
        generalize tm.getD 26 undef = t26 at htm g26
        generalize tm.getD 27 undef = t27 at htm g27
        generalize tm.getD 28 undef = t28 at htm g28
        generalize tm.getD 29 undef = t29 at htm g29
        generalize tm.getD 30 undef = t30 at htm g30
        generalize tm.getD 31 undef = t31 at htm g31
        generalize tm.getD 32 undef = t32 at htm g32
        generalize tm.getD 33 undef = t33 at htm g33
        generalize tm.getD 34 undef = t34 at htm g34
        generalize tm.getD 35 undef = t35 at htm g35
        generalize tm.getD 36 undef = t36 at htm g36
        generalize tm.getD 37 undef = t37 at htm g37
        generalize tm.getD 38 undef = t38 at htm g38
        generalize tm.getD 39 undef = t39 at htm g39
        generalize tm.getD 40 undef = t40 at htm g40
        generalize tm.getD 41 undef = t41 at htm g41
        generalize tm.getD 42 undef = t42 at htm g42
        generalize tm.getD 43 undef = t43 at htm g43
        generalize tm.getD 44 undef = t44 at htm g44
        generalize tm.getD 45 undef = t45 at htm g45
        generalize tm.getD 46 undef = t46 at htm g46
        generalize tm.getD 47 undef = t47 at htm g47
        generalize tm.getD 48 undef = t48 at htm g48
        generalize tm.getD 49 undef = t49 at htm g49
        generalize tm.getD 50 undef = t50 at htm g50
        generalize tm.getD 51 undef = t51 at htm g51
        generalize tm.getD 52 undef = t52 at htm g52
        generalize tm.getD 53 undef = t53 at htm g53
        generalize tm.getD 54 undef = t54 at htm g54
        generalize tm.getD 55 undef = t55 at htm g55
        generalize tm.getD 56 undef = t56 at htm g56
        generalize tm.getD 57 undef = t57 at htm g57
        generalize tm.getD 58 undef = t58 at htm g58
        generalize tm.getD 59 undef = t59 at htm g59
        generalize tm.getD 60 undef = t60 at htm g60
        generalize tm.getD 61 undef = t61 at htm g61
        generalize tm.getD 62 undef = t62 at htm g62
        generalize tm.getD 63 undef = t63 at htm g63
        generalize tm.getD 64 undef = t64 at htm g64
        generalize tm.getD 65 undef = t65 at htm g65
        generalize tm.getD 66 undef = t66 at htm g66
        generalize tm.getD 67 undef = t67 at htm g67
        generalize tm.getD 68 undef = t68 at htm g68
        generalize tm.getD 69 undef = t69 at htm g69
        generalize tm.getD 70 undef = t70 at htm g70
        subst htm
        subst g18
        subst g20
        subst g22
        subst g24
        subst g26
        subst g27
        subst g29
        subst g31
        subst g33
        subst g35
        subst g36
        subst g37
        subst g53
        subst g54
        subst g70
        simp only [List.drop_succ_cons, List.drop_zero]
        have HB : Hid (Below w.heap.size w W) := hA2.trans (hB.mono hA2.size)
        have HV : Hid (((((lendI t tc x xc) == (rlendI t tc x xc)) && ((riseI t tc x) == (rriseI t tc x))) && ((clearI t tc xc) == (rclearI t tc xc))) = true) := by
          have e1 := HE1.out
          have e2 := HE2.out
          have e3 := HE3.out
          show ((((lendI t tc x xc) == (rlendI t tc x xc)) && ((riseI t tc x) == (rriseI t tc x))) && ((clearI t tc xc) == (rclearI t tc xc))) = true
          rw [e1, e2, e3]; simp
        go_wp2
        go_ret
        exact ⟨by rw [← HV.out]; rfl, HB.out⟩
end Go.Proofs.Ytnjmgholoigpkaa
