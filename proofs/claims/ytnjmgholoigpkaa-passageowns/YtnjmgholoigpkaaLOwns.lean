/- PassageOwns: the walk of the statement. -/
import Derived.Test.YtnjmgholoigpkaaOwnF
import Derived.Deep.Cut
import Derived.Test.YtnjmgholoigpkaaMonoG
namespace Go.Proofs.Ytnjmgholoigpkaa
open Go.RowKit Go.Sort
theorem ent_passage_Own : Enters 19 := fun args W => by go_simp
theorem ent_gatehouseref07_Own : Enters 20 := fun args W => by go_simp
theorem ent_passage_Floor : Enters 21 := fun args W => by go_simp
theorem ent_gatehouseref07_Floor : Enters 22 := fun args W => by go_simp
theorem ent_gatehouseref01_Same : Enters 23 := fun args W => by go_simp
theorem Same_g {a b : ML} {v u : Value} {W : World} (h : LVg a v W) (h' : LVg b u W) : Calls Try.prog 23 #[v, u] W fun e W' => ∃ v', e = .returned v' ∧ Below W.heap.size W W' ∧ v' = .bool (sameS a.1 b.1 a.2 b.2) := by
  obtain ⟨p, cap, rfl, h1, h2, h3⟩ := h
  obtain ⟨p', cap', rfl, h1', h2', h3'⟩ := h'
  refine (Same_any a.1 b.1 p p' cap cap' a.2 b.2 W h3 h3' h1 h1').mono ?_
  rintro e W' ⟨rfl, hb⟩
  exact ⟨_, rfl, hb, rfl⟩
theorem same_self (a : ML) : sameS a.1 a.1 a.2 a.2 = true := by simp [sameS]
/-- Two labels and an error, as one answer; one label and an error. -/
def T3V (a b : ML) (e : Int) (v : Value) (W : World) : Prop := ∃ x y, v = .tuple #[x, y, .int .i64 e] ∧ LVg a x W ∧ LVg b y W
def T2V (a : ML) (e : Int) (v : Value) (W : World) : Prop := ∃ x, v = .tuple #[x, .int .i64 e] ∧ LVg a x W
theorem T3V.below {a b : ML} {e : Int} {v : Value} {W W' : World} (h : T3V a b e v W) (hb : Below W.heap.size W W') : T3V a b e v W' := by
  obtain ⟨x, y, h1, h2, h3⟩ := h
  exact ⟨x, y, h1, h2.below hb, h3.below hb⟩
theorem T2V.below {a : ML} {e : Int} {v : Value} {W W' : World} (h : T2V a e v W) (hb : Below W.heap.size W W') : T2V a e v W' := by
  obtain ⟨x, h1, h2⟩ := h
  exact ⟨x, h1, h2.below hb⟩
theorem RV.g {B : Nat} {l : ML} {v : Value} {W : World} (h : RV B l v W) (hl : l.2.length ≤ 16) : LVg l v W := by
  obtain ⟨p, cap, h1, h2, h3⟩ := h.form
  exact ⟨p, cap, h1, h2, h3, by unfold maxLen; omega⟩
theorem own_len (t c : ML) (cat : Int) : (ownM t c cat).1.2.length ≤ 16 ∧ (ownM t c cat).2.1.2.length ≤ 16 := by
  unfold ownM
  split
  · exact ⟨by simp, by simp⟩
  · split
    · exact ⟨by simp, by simp⟩
    · split
      · exact ⟨by simp, by simp⟩
      · split
        · exact ⟨by simp, by simp⟩
        · exact ⟨wM_len _ _ _, wM_len _ _ _⟩
theorem flo_len (t g : ML) : (floM t g).2.length ≤ 16 := by
  show (rkL _ _).length ≤ 16
  unfold rkL
  split
  · simp
  · split
    · simp
    · unfold fitL; split <;> simp_all
theorem Own_t {t c oa ob : ML} {oe cat : Int} {v u z : Value} {W : World} (rt : rightM t = true) (rc : rightM c = true) (ho : ownM t c cat = (oa, ob, oe)) (h : LV t v W) (h' : LV c u W) (hz : z = .int .i64 cat) :
    Calls Try.prog 19 #[v, u, z] W fun e W' => ∃ v', e = .returned v' ∧ Below W.heap.size W W' ∧ T3V oa ob oe v' W' := by
  subst hz
  have hl := own_len t c cat
  refine (Own_c (cat := cat) h h' rt rc).mono ?_
  rw [ho] at hl ⊢
  rintro e W' ⟨x, y, rfl, hb, hx, hy⟩
  exact ⟨_, rfl, hb, x, y, rfl, hx.g hl.1, hy.g hl.2⟩
theorem rOwn_t {t c oa ob : ML} {oe cat : Int} {v u z : Value} {W : World} (rt : rightM t = true) (rc : rightM c = true) (ho : ownM t c cat = (oa, ob, oe)) (h : LV t v W) (h' : LV c u W) (hz : z = .int .i64 cat) :
    Calls Try.prog 20 #[v, u, z] W fun e W' => ∃ v', e = .returned v' ∧ Below W.heap.size W W' ∧ T3V oa ob oe v' W' := by
  subst hz
  have hl := own_len t c cat
  refine (rOwn_c (cat := cat) h h').mono ?_
  rw [← own_eq rt rc, ho]
  rw [ho] at hl
  rintro e W' ⟨x, y, rfl, hb, hx, hy⟩
  exact ⟨_, rfl, hb, x, y, rfl, hx.g hl.1, hy.g hl.2⟩
theorem Floor_t {t g fa : ML} {fe : Int} {v u : Value} {W : World} (rt : rightM t = true) (rg : rightM g = true) (hf : floM t g = fa) (hfe : floE t g = fe) (h : LV t v W) (h' : LV g u W) :
    Calls Try.prog 21 #[v, u] W fun e W' => ∃ v', e = .returned v' ∧ Below W.heap.size W W' ∧ T2V fa fe v' W' := by
  have hl := flo_len t g
  refine (Floor_c h h' rt rg).mono ?_
  rw [hf] at hl ⊢
  rw [hfe]
  rintro e W' ⟨x, rfl, hb, hx⟩
  exact ⟨_, rfl, hb, x, rfl, hx.g hl⟩
theorem rFloor_t {t g fa : ML} {fe : Int} {v u : Value} {W : World} (rt : rightM t = true) (rg : rightM g = true) (hf : floM t g = fa) (hfe : floE t g = fe) (h : LV t v W) (h' : LV g u W) :
    Calls Try.prog 22 #[v, u] W fun e W' => ∃ v', e = .returned v' ∧ Below W.heap.size W W' ∧ T2V fa fe v' W' := by
  have hl := flo_len t g
  refine (rFloor_c h h').mono ?_
  rw [← (floor_eq rt rg).1, ← (floor_eq rt rg).2, hf, hfe]
  rw [hf] at hl
  rintro e W' ⟨x, rfl, hb, hx⟩
  exact ⟨_, rfl, hb, x, rfl, hx.g hl⟩
theorem lbg_new {l : ML} {p : Option Addr} {cap : Nat} {W W' : World} {b : Nat} (hb : b < W'.heap.size) (h0 : W'.cell? ⟨b, 0, none⟩ = some (.int .i64 l.1)) (h1 : W'.cell? ⟨b, 1, none⟩ = some (.slice p l.2.length cap)) (hc : CatsAt W p l.2) (hbl : Below W.heap.size W W') (h2 : l.2.length ≤ cap) (h3 : l.2.length ≤ maxLen) : LBg l W' b 0 :=
  ⟨p, cap, hb, h0, h1, hc.below hbl, h2, h3⟩
set_option maxRecDepth 100000 in
set_option maxHeartbeats 2000000 in
theorem PassageOwns_any (t tc g : ML) (cat : Int) (pt ptc pg : Option Addr) (ct ctc cg : Nat) (w : World) (ht : CatsAt w pt t.2) (lt : t.2.length ≤ ct) (mt : t.2.length ≤ maxLen) (htc : CatsAt w ptc tc.2) (ltc : tc.2.length ≤ ctc) (mtc : tc.2.length ≤ maxLen) (hg : CatsAt w pg g.2) (lg : g.2.length ≤ cg) (mg : g.2.length ≤ maxLen) :
    Calls Try.prog 5 #[.agg #[.int .i64 t.1, .slice pt t.2.length ct, .int .i64 tc.1, .slice ptc tc.2.length ctc], .agg #[.int .i64 g.1, .slice pg g.2.length cg], .int .i64 cat] w fun e w' => e = .returned (.bool true) ∧ Below w.heap.size w w' := by
  obtain ⟨W0, hW0⟩ : ∃ W0, W0 = ((w.alloc (.cells #[.int .i64 t.1, .slice pt t.2.length ct, .int .i64 tc.1, .slice ptc tc.2.length ctc] 26)).alloc (.cells #[.int .i64 g.1, .slice pg g.2.length cg] 24)) := ⟨_, rfl⟩
  have hA : Below w.heap.size w W0 := by rw [hW0]; go_grown
  have hbt : LBg t W0 (w.heap.size) 0 := ⟨pt, ct, by rw [hW0]; simp <;> omega, by rw [hW0]; simp [go_sem], by rw [hW0]; simp [go_sem], ht.below hA, lt, mt⟩
  have hbtc : LBg tc W0 (w.heap.size) 2 := ⟨ptc, ctc, by rw [hW0]; simp <;> omega, by rw [hW0]; simp [go_sem], by rw [hW0]; simp [go_sem], htc.below hA, ltc, mtc⟩
  have hbg : LBg g W0 (w.heap.size + 1) 0 := ⟨pg, cg, by rw [hW0]; simp <;> omega, by rw [hW0]; simp [go_sem], by rw [hW0]; simp [go_sem], hg.below hA, lg, mg⟩
  go_enter Try.func5, Try.ntmps5
  go_upto_region 3 with (go_at_call 9; rw [← hW0]; refine (lives_c _).mono ?_; rintro e w1 ⟨rfl, hb1⟩)
  have hct := hbt.below hb1
  have hctc := hbtc.below hb1
  have hcg := hbg.below hb1
  have hA1 : Below w.heap.size w w1 := hA.trans (hb1.mono hA.size)
  refine wp_region_monoF 8 (fun kq v W => match kq with | 19 => v = .pointer (some ⟨w.heap.size, 0, none⟩) | 20 => LVg t v W | 21 => v = .pointer (some ⟨w.heap.size, 2, none⟩) | 22 => LVg tc v W | 23 => LVg g v W | 24 => LsVg [t, tc, g] v W | 25 => v = .bool ([t, tc, g].all rightM) | 26 => v = .bool (!([t, tc, g].all rightM)) | _ => True) (by kernel_rfl) (by kernel_rfl) (by simp) ?_ ?_ ?_
  · intro kq v W W' h hb
    revert h
    try dsimp only
    split
    · intro h; exact h
    · intro h; exact LVg.below h hb
    · intro h; exact h
    · intro h; exact LVg.below h hb
    · intro h; exact LVg.below h hb
    · intro h; exact LsVg.below h hb
    · intro h; exact h
    · intro h; exact h
    · intro h; trivial
  · intro a' W hB hs hk i o d ho hd hG
    match i, ho with
    | 0, ho =>
      obtain rfl : _ = o := Option.some.inj ho
      obtain rfl : 19 = d := Option.some.inj hd
      exact .inr ⟨rfl, .inl ⟨_, W, run_fa0 (hk 3 (by kernel_rfl)), Below.refl _ _, rfl⟩⟩
    | 1, ho =>
      obtain rfl : _ = o := Option.some.inj ho
      obtain rfl : 20 = d := Option.some.inj hd
      have g19 : (a'.eval (.tmp 19)) = .pointer (some ⟨w.heap.size, 0, none⟩) := hG ⟨0, .data⟩ (by simp) rfl 19 rfl
      obtain ⟨v, hr, hv⟩ := run_loadLg (ev := a'.eval) (W := W) g19 (hct.below hB)
      exact .inr ⟨rfl, .inl ⟨v, W, hr, Below.refl _ _, hv⟩⟩
    | 2, ho =>
      obtain rfl : _ = o := Option.some.inj ho
      obtain rfl : 21 = d := Option.some.inj hd
      exact .inr ⟨rfl, .inl ⟨_, W, run_fa1 (hk 3 (by kernel_rfl)), Below.refl _ _, rfl⟩⟩
    | 3, ho =>
      obtain rfl : _ = o := Option.some.inj ho
      obtain rfl : 22 = d := Option.some.inj hd
      have g21 : (a'.eval (.tmp 21)) = .pointer (some ⟨w.heap.size, 2, none⟩) := hG ⟨2, .data⟩ (by simp) rfl 21 rfl
      obtain ⟨v, hr, hv⟩ := run_loadLg (ev := a'.eval) (W := W) g21 (hctc.below hB)
      exact .inr ⟨rfl, .inl ⟨v, W, hr, Below.refl _ _, hv⟩⟩
    | 4, ho =>
      obtain rfl : _ = o := Option.some.inj ho
      obtain rfl : 23 = d := Option.some.inj hd
      obtain ⟨v, hr, hv⟩ := run_loadLg (ev := a'.eval) (W := W) (hk 4 (by kernel_rfl)) (hcg.below hB)
      exact .inr ⟨rfl, .inl ⟨v, W, hr, Below.refl _ _, hv⟩⟩
    | 5, ho =>
      obtain rfl : _ = o := Option.some.inj ho
      obtain rfl : 24 = d := Option.some.inj hd
      have g20 : LVg t (a'.eval (.tmp 20)) W := hG ⟨1, .data⟩ (by simp) rfl 20 rfl
      have g22 : LVg tc (a'.eval (.tmp 22)) W := hG ⟨3, .data⟩ (by simp) rfl 22 rfl
      have g23 : LVg g (a'.eval (.tmp 23)) W := hG ⟨4, .data⟩ (by simp) rfl 23 rfl
      obtain ⟨v, W', hr, hb, hv⟩ := run_slice3g (ev := a'.eval) (W := W) rfl rfl rfl g20 g22 g23
      exact .inr ⟨rfl, .inl ⟨v, W', hr, hb, hv⟩⟩
    | 6, ho =>
      obtain rfl : _ = o := Option.some.inj ho
      obtain rfl : 25 = d := Option.some.inj hd
      have g24 : LsVg [t, tc, g] (a'.eval (.tmp 24)) W := hG ⟨5, .data⟩ (by simp) rfl 24 rfl
      exact .inr ⟨rfl, .inr ⟨_, _, run_call rfl map_1 ent_gatehouselaw07_right, right_c g24 (by simp)⟩⟩
    | 7, ho =>
      obtain rfl : _ = o := Option.some.inj ho
      obtain rfl : 26 = d := Option.some.inj hd
      have g25 : (a'.eval (.tmp 25)) = .bool ([t, tc, g].all rightM) := hG ⟨6, .data⟩ (by simp) rfl 25 rfl
      exact .inr ⟨rfl, .inl ⟨_, W, run_not g25, Below.refl _ _, rfl⟩⟩
    | j + 8, ho => simp at ho
  · intro a' W hB hs hdf hk hG
    obtain ⟨tm, df⟩ := a'
    obtain rfl : df = [] := hdf
    have e0 : tm.getD 0 undef = .agg #[.int .i64 t.fst, .slice pt t.snd.length ct, .int .i64 tc.fst, .slice ptc tc.snd.length ctc] := hk 0 (by kernel_rfl)
    have e1 : tm.getD 1 undef = .agg #[.int .i64 g.fst, .slice pg g.snd.length cg] := hk 1 (by kernel_rfl)
    have e2 : tm.getD 2 undef = .int .i64 cat := hk 2 (by kernel_rfl)
    have e3 : tm.getD 3 undef = .pointer (some ⟨w.heap.size, 0, none⟩) := hk 3 (by kernel_rfl)
    have e4 : tm.getD 4 undef = .pointer (some ⟨w.heap.size + 1, 0, none⟩) := hk 4 (by kernel_rfl)
    have e5 : tm.getD 5 undef = undef := hk 5 (by kernel_rfl)
    have e6 : tm.getD 6 undef = .bool false := hk 6 (by kernel_rfl)
    have e7 : tm.getD 7 undef = undef := hk 7 (by kernel_rfl)
    have e8 : tm.getD 8 undef = undef := hk 8 (by kernel_rfl)
    have e9 : tm.getD 9 undef = undef := hk 9 (by kernel_rfl)
    have e10 : tm.getD 10 undef = undef := hk 10 (by kernel_rfl)
    have e11 : tm.getD 11 undef = undef := hk 11 (by kernel_rfl)
    have e12 : tm.getD 12 undef = undef := hk 12 (by kernel_rfl)
    have e13 : tm.getD 13 undef = undef := hk 13 (by kernel_rfl)
    have e14 : tm.getD 14 undef = undef := hk 14 (by kernel_rfl)
    have e15 : tm.getD 15 undef = undef := hk 15 (by kernel_rfl)
    have e16 : tm.getD 16 undef = undef := hk 16 (by kernel_rfl)
    have e17 : tm.getD 17 undef = .bool true := hk 17 (by kernel_rfl)
    have e18 : tm.getD 18 undef = .bool false := hk 18 (by kernel_rfl)
    have e27 : tm.getD 27 undef = undef := hk 27 (by kernel_rfl)
    have e28 : tm.getD 28 undef = undef := hk 28 (by kernel_rfl)
    have e29 : tm.getD 29 undef = undef := hk 29 (by kernel_rfl)
    have e30 : tm.getD 30 undef = undef := hk 30 (by kernel_rfl)
    have e31 : tm.getD 31 undef = undef := hk 31 (by kernel_rfl)
    have e32 : tm.getD 32 undef = undef := hk 32 (by kernel_rfl)
    have e33 : tm.getD 33 undef = undef := hk 33 (by kernel_rfl)
    have e34 : tm.getD 34 undef = undef := hk 34 (by kernel_rfl)
    have e35 : tm.getD 35 undef = undef := hk 35 (by kernel_rfl)
    have e36 : tm.getD 36 undef = undef := hk 36 (by kernel_rfl)
    have e37 : tm.getD 37 undef = undef := hk 37 (by kernel_rfl)
    have e38 : tm.getD 38 undef = undef := hk 38 (by kernel_rfl)
    have e39 : tm.getD 39 undef = undef := hk 39 (by kernel_rfl)
    have e40 : tm.getD 40 undef = undef := hk 40 (by kernel_rfl)
    have e41 : tm.getD 41 undef = undef := hk 41 (by kernel_rfl)
    have e42 : tm.getD 42 undef = undef := hk 42 (by kernel_rfl)
    have e43 : tm.getD 43 undef = undef := hk 43 (by kernel_rfl)
    have e44 : tm.getD 44 undef = undef := hk 44 (by kernel_rfl)
    have e45 : tm.getD 45 undef = undef := hk 45 (by kernel_rfl)
    have e46 : tm.getD 46 undef = undef := hk 46 (by kernel_rfl)
    have e47 : tm.getD 47 undef = undef := hk 47 (by kernel_rfl)
    have e48 : tm.getD 48 undef = undef := hk 48 (by kernel_rfl)
    have e49 : tm.getD 49 undef = undef := hk 49 (by kernel_rfl)
    have e50 : tm.getD 50 undef = undef := hk 50 (by kernel_rfl)
    have e51 : tm.getD 51 undef = undef := hk 51 (by kernel_rfl)
    have e52 : tm.getD 52 undef = undef := hk 52 (by kernel_rfl)
    have e53 : tm.getD 53 undef = undef := hk 53 (by kernel_rfl)
    have e54 : tm.getD 54 undef = undef := hk 54 (by kernel_rfl)
    have e55 : tm.getD 55 undef = undef := hk 55 (by kernel_rfl)
    have e56 : tm.getD 56 undef = undef := hk 56 (by kernel_rfl)
    have e57 : tm.getD 57 undef = undef := hk 57 (by kernel_rfl)
    have e58 : tm.getD 58 undef = undef := hk 58 (by kernel_rfl)
    have e59 : tm.getD 59 undef = undef := hk 59 (by kernel_rfl)
    have e60 : tm.getD 60 undef = undef := hk 60 (by kernel_rfl)
    have e61 : tm.getD 61 undef = undef := hk 61 (by kernel_rfl)
    have e62 : tm.getD 62 undef = undef := hk 62 (by kernel_rfl)
    have e63 : tm.getD 63 undef = undef := hk 63 (by kernel_rfl)
    have e64 : tm.getD 64 undef = undef := hk 64 (by kernel_rfl)
    have e65 : tm.getD 65 undef = undef := hk 65 (by kernel_rfl)
    have e66 : tm.getD 66 undef = undef := hk 66 (by kernel_rfl)
    have e67 : tm.getD 67 undef = undef := hk 67 (by kernel_rfl)
    have e68 : tm.getD 68 undef = undef := hk 68 (by kernel_rfl)
    have e69 : tm.getD 69 undef = undef := hk 69 (by kernel_rfl)
    have e70 : tm.getD 70 undef = undef := hk 70 (by kernel_rfl)
    have e71 : tm.getD 71 undef = undef := hk 71 (by kernel_rfl)
    have e72 : tm.getD 72 undef = undef := hk 72 (by kernel_rfl)
    have e73 : tm.getD 73 undef = undef := hk 73 (by kernel_rfl)
    have e74 : tm.getD 74 undef = undef := hk 74 (by kernel_rfl)
    have e75 : tm.getD 75 undef = undef := hk 75 (by kernel_rfl)
    have e76 : tm.getD 76 undef = undef := hk 76 (by kernel_rfl)
    have e77 : tm.getD 77 undef = undef := hk 77 (by kernel_rfl)
    have e78 : tm.getD 78 undef = undef := hk 78 (by kernel_rfl)
    have e79 : tm.getD 79 undef = undef := hk 79 (by kernel_rfl)
    have e80 : tm.getD 80 undef = undef := hk 80 (by kernel_rfl)
    have e81 : tm.getD 81 undef = undef := hk 81 (by kernel_rfl)
    have e82 : tm.getD 82 undef = undef := hk 82 (by kernel_rfl)
    have e83 : tm.getD 83 undef = undef := hk 83 (by kernel_rfl)
    have g19 : (tm.getD 19 undef) = .pointer (some ⟨w.heap.size, 0, none⟩) := hG 0 19 (by decide) rfl
    have g20 : LVg t (tm.getD 20 undef) W := hG 1 20 (by decide) rfl
    have g21 : (tm.getD 21 undef) = .pointer (some ⟨w.heap.size, 2, none⟩) := hG 2 21 (by decide) rfl
    have g22 : LVg tc (tm.getD 22 undef) W := hG 3 22 (by decide) rfl
    have g23 : LVg g (tm.getD 23 undef) W := hG 4 23 (by decide) rfl
    have g24 : LsVg [t, tc, g] (tm.getD 24 undef) W := hG 5 24 (by decide) rfl
    have g25 : (tm.getD 25 undef) = .bool ([t, tc, g].all rightM) := hG 6 25 (by decide) rfl
    have g26 : (tm.getD 26 undef) = .bool (!([t, tc, g].all rightM)) := hG 7 26 (by decide) rfl
    have htm := arr_of tm ((.agg #[.int .i64 t.fst, .slice pt t.snd.length ct, .int .i64 tc.fst, .slice ptc tc.snd.length ctc] : Value) :: (.agg #[.int .i64 g.fst, .slice pg g.snd.length cg] : Value) :: (.int .i64 cat : Value) :: (.pointer (some ⟨w.heap.size, 0, none⟩) : Value) :: (.pointer (some ⟨w.heap.size + 1, 0, none⟩) : Value) :: (undef : Value) :: (.bool false : Value) :: (undef : Value) :: (undef : Value) :: (undef : Value) :: (undef : Value) :: (undef : Value) :: (undef : Value) :: (undef : Value) :: (undef : Value) :: (undef : Value) :: (undef : Value) :: (.bool true : Value) :: (.bool false : Value) :: (tm.getD 19 undef : Value) :: (tm.getD 20 undef : Value) :: (tm.getD 21 undef : Value) :: (tm.getD 22 undef : Value) :: (tm.getD 23 undef : Value) :: (tm.getD 24 undef : Value) :: (tm.getD 25 undef : Value) :: (tm.getD 26 undef : Value) :: (undef : Value) :: (undef : Value) :: (undef : Value) :: (undef : Value) :: (undef : Value) :: (undef : Value) :: (undef : Value) :: (undef : Value) :: (undef : Value) :: (undef : Value) :: (undef : Value) :: (undef : Value) :: (undef : Value) :: (undef : Value) :: (undef : Value) :: (undef : Value) :: (undef : Value) :: (undef : Value) :: (undef : Value) :: (undef : Value) :: (undef : Value) :: (undef : Value) :: (undef : Value) :: (undef : Value) :: (undef : Value) :: (undef : Value) :: (undef : Value) :: (undef : Value) :: (undef : Value) :: (undef : Value) :: (undef : Value) :: (undef : Value) :: (undef : Value) :: (undef : Value) :: (undef : Value) :: (undef : Value) :: (undef : Value) :: (undef : Value) :: (undef : Value) :: (undef : Value) :: (undef : Value) :: (undef : Value) :: (undef : Value) :: (undef : Value) :: (undef : Value) :: (undef : Value) :: (undef : Value) :: (undef : Value) :: (undef : Value) :: (undef : Value) :: (undef : Value) :: (undef : Value) :: (undef : Value) :: (undef : Value) :: (undef : Value) :: (undef : Value) :: (undef : Value) :: []) hs (by show (tm.getD 0 undef :: tm.getD 1 undef :: tm.getD 2 undef :: tm.getD 3 undef :: tm.getD 4 undef :: tm.getD 5 undef :: tm.getD 6 undef :: tm.getD 7 undef :: tm.getD 8 undef :: tm.getD 9 undef :: tm.getD 10 undef :: tm.getD 11 undef :: tm.getD 12 undef :: tm.getD 13 undef :: tm.getD 14 undef :: tm.getD 15 undef :: tm.getD 16 undef :: tm.getD 17 undef :: tm.getD 18 undef :: tm.getD 19 undef :: tm.getD 20 undef :: tm.getD 21 undef :: tm.getD 22 undef :: tm.getD 23 undef :: tm.getD 24 undef :: tm.getD 25 undef :: tm.getD 26 undef :: tm.getD 27 undef :: tm.getD 28 undef :: tm.getD 29 undef :: tm.getD 30 undef :: tm.getD 31 undef :: tm.getD 32 undef :: tm.getD 33 undef :: tm.getD 34 undef :: tm.getD 35 undef :: tm.getD 36 undef :: tm.getD 37 undef :: tm.getD 38 undef :: tm.getD 39 undef :: tm.getD 40 undef :: tm.getD 41 undef :: tm.getD 42 undef :: tm.getD 43 undef :: tm.getD 44 undef :: tm.getD 45 undef :: tm.getD 46 undef :: tm.getD 47 undef :: tm.getD 48 undef :: tm.getD 49 undef :: tm.getD 50 undef :: tm.getD 51 undef :: tm.getD 52 undef :: tm.getD 53 undef :: tm.getD 54 undef :: tm.getD 55 undef :: tm.getD 56 undef :: tm.getD 57 undef :: tm.getD 58 undef :: tm.getD 59 undef :: tm.getD 60 undef :: tm.getD 61 undef :: tm.getD 62 undef :: tm.getD 63 undef :: tm.getD 64 undef :: tm.getD 65 undef :: tm.getD 66 undef :: tm.getD 67 undef :: tm.getD 68 undef :: tm.getD 69 undef :: tm.getD 70 undef :: tm.getD 71 undef :: tm.getD 72 undef :: tm.getD 73 undef :: tm.getD 74 undef :: tm.getD 75 undef :: tm.getD 76 undef :: tm.getD 77 undef :: tm.getD 78 undef :: tm.getD 79 undef :: tm.getD 80 undef :: tm.getD 81 undef :: tm.getD 82 undef :: tm.getD 83 undef :: []) = _; rw [e0, e1, e2, e3, e4, e5, e6, e7, e8, e9, e10, e11, e12, e13, e14, e15, e16, e17, e18, e27, e28, e29, e30, e31, e32, e33, e34, e35, e36, e37, e38, e39, e40, e41, e42, e43, e44, e45, e46, e47, e48, e49, e50, e51, e52, e53, e54, e55, e56, e57, e58, e59, e60, e61, e62, e63, e64, e65, e66, e67, e68, e69, e70, e71, e72, e73, e74, e75, e76, e77, e78, e79, e80, e81, e82, e83]; try rfl)
    clear hs hk hG e0 e1 e2 e3 e4 e5 e6 e7 e8 e9 e10 e11 e12 e13 e14 e15 e16 e17 e18 e27 e28 e29 e30 e31 e32 e33 e34 e35 e36 e37 e38 e39 e40 e41 e42 e43 e44 e45 e46 e47 e48 e49 e50 e51 e52 e53 e54 e55 e56 e57 e58 e59 e60 e61 e62 e63 e64 e65 e66 e67 e68 e69 e70 e71 e72 e73 e74 e75 e76 e77 e78 e79 e80 e81 e82 e83
    generalize tm.getD 19 undef = t19 at htm g19
    generalize tm.getD 20 undef = t20 at htm g20
    generalize tm.getD 21 undef = t21 at htm g21
    generalize tm.getD 22 undef = t22 at htm g22
    generalize tm.getD 23 undef = t23 at htm g23
    generalize tm.getD 24 undef = t24 at htm g24
    generalize tm.getD 25 undef = t25 at htm g25
    generalize tm.getD 26 undef = t26 at htm g26
    subst htm
    subst g19
    subst g21
    subst g25
    subst g26
    simp only [List.drop_succ_cons, List.drop_zero]
    have hA2 : Below w.heap.size w W := hA1.trans (hB.mono hA1.size)
    have hdt := hct.below hB
    have hdtc := hctc.below hB
    have hdg := hcg.below hB
    clear g20 g22 g23 g24
    obtain ⟨x0, hx⟩ : ∃ x0, ([t, tc, g].all rightM) = x0 := ⟨_, rfl⟩
    simp only [hx]
    cases x0 with
    | false =>
      clear hx
      go_wp2
      go_ret
      exact ⟨rfl, hA2⟩
    | true =>
      have hR : rightM t = true ∧ rightM tc = true ∧ rightM g = true := by simpa using hx
      obtain ⟨rt, rtc, rg⟩ := hR
      obtain ⟨oa, ob, oe, ho⟩ : ∃ oa ob oe, ownM t tc cat = (oa, ob, oe) := ⟨_, _, _, rfl⟩
      obtain ⟨fa, hfa⟩ : ∃ fa, floM t g = fa := ⟨_, rfl⟩
      obtain ⟨fe, hfe⟩ : ∃ fe, floE t g = fe := ⟨_, rfl⟩
      have HO1 : Hid (∀ v u z W, LV t v W → LV tc u W → z = .int .i64 cat → Calls Try.prog 19 #[v, u, z] W fun e W' => ∃ v', e = .returned v' ∧ Below W.heap.size W W' ∧ T3V oa ob oe v' W') := fun v u z W h h' hz => Own_t rt rtc ho h h' hz
      have HO2 : Hid (∀ v u z W, LV t v W → LV tc u W → z = .int .i64 cat → Calls Try.prog 20 #[v, u, z] W fun e W' => ∃ v', e = .returned v' ∧ Below W.heap.size W W' ∧ T3V oa ob oe v' W') := fun v u z W h h' hz => rOwn_t rt rtc ho h h' hz
      have HF1 : Hid (∀ v u W, LV t v W → LV g u W → Calls Try.prog 21 #[v, u] W fun e W' => ∃ v', e = .returned v' ∧ Below W.heap.size W W' ∧ T2V fa fe v' W') := fun v u W h h' => Floor_t rt rg hfa hfe h h'
      have HF2 : Hid (∀ v u W, LV t v W → LV g u W → Calls Try.prog 22 #[v, u] W fun e W' => ∃ v', e = .returned v' ∧ Below W.heap.size W W' ∧ T2V fa fe v' W') := fun v u W h h' => rFloor_t rt rg hfa hfe h h'
      have het := hdt.ok (right16 rt)
      have hetc := hdtc.ok (right16 rtc)
      have heg := hdg.ok (right16 rg)
      clear hx rt rtc rg ho hfa hfe hdt hdtc hdg
      go_upto_region 5 with fail
      refine wp_region_monoG 6 (fun kq v W => match kq with | 28 => v = .pointer (some ⟨w.heap.size, 0, none⟩) | 29 => LV t v W | 30 => v = .pointer (some ⟨w.heap.size, 2, none⟩) | 31 => LV tc v W | 32 => v = .int .i64 cat | 33 => (T3V oa ob oe) v W | _ => True) (by kernel_rfl) (by kernel_rfl) (by simp) ?_ ?_ ?_
      · intro kq v W W' h hb
        revert h
        try dsimp only
        split
        · intro h; exact h
        · intro h; exact LV.below h hb
        · intro h; exact h
        · intro h; exact LV.below h hb
        · intro h; exact h
        · intro h; exact T3V.below h hb
        · intro h; trivial
      · intro a' W hB hs hk i o d ho hd hG
        match i, ho with
        | 0, ho =>
          obtain rfl : _ = o := Option.some.inj ho
          obtain rfl : 28 = d := Option.some.inj hd
          exact .inr ⟨rfl, .inl ⟨_, W, run_fa0 (hk 3 (by kernel_rfl)), Below.refl _ _, rfl⟩⟩
        | 1, ho =>
          obtain rfl : _ = o := Option.some.inj ho
          obtain rfl : 29 = d := Option.some.inj hd
          have g28 : (a'.eval (.tmp 28)) = .pointer (some ⟨w.heap.size, 0, none⟩) := hG ⟨0, .data⟩ (by simp) rfl 28 rfl
          obtain ⟨v, hr, hv⟩ := run_loadL (ev := a'.eval) (W := W) g28 (het.below hB)
          exact .inr ⟨rfl, .inl ⟨v, W, hr, Below.refl _ _, hv⟩⟩
        | 2, ho =>
          obtain rfl : _ = o := Option.some.inj ho
          obtain rfl : 30 = d := Option.some.inj hd
          exact .inr ⟨rfl, .inl ⟨_, W, run_fa1 (hk 3 (by kernel_rfl)), Below.refl _ _, rfl⟩⟩
        | 3, ho =>
          obtain rfl : _ = o := Option.some.inj ho
          obtain rfl : 31 = d := Option.some.inj hd
          have g30 : (a'.eval (.tmp 30)) = .pointer (some ⟨w.heap.size, 2, none⟩) := hG ⟨2, .data⟩ (by simp) rfl 30 rfl
          obtain ⟨v, hr, hv⟩ := run_loadL (ev := a'.eval) (W := W) g30 (hetc.below hB)
          exact .inr ⟨rfl, .inl ⟨v, W, hr, Below.refl _ _, hv⟩⟩
        | 4, ho =>
          obtain rfl : _ = o := Option.some.inj ho
          obtain rfl : 32 = d := Option.some.inj hd
          exact .inr ⟨rfl, .inl ⟨_, W, run_move (hk 2 (by kernel_rfl)), Below.refl _ _, rfl⟩⟩
        | 5, ho =>
          obtain rfl : _ = o := Option.some.inj ho
          obtain rfl : 33 = d := Option.some.inj hd
          have g29 : LV t (a'.eval (.tmp 29)) W := hG ⟨1, .data⟩ (by simp) rfl 29 rfl
          have g31 : LV tc (a'.eval (.tmp 31)) W := hG ⟨3, .data⟩ (by simp) rfl 31 rfl
          have g32 : (a'.eval (.tmp 32)) = .int .i64 cat := hG ⟨4, .data⟩ (by simp) rfl 32 rfl
          exact .inr ⟨rfl, .inr ⟨_, _, run_call rfl map_3 ent_passage_Own, HO1.out _ _ _ _ g29 g31 g32⟩⟩
        | j + 6, ho => simp at ho
      · intro a' W hB hs hdf hk hG
        obtain ⟨tm, df⟩ := a'
        obtain rfl : df = [] := hdf
        have e0 : tm.getD 0 undef = .agg #[.int .i64 t.fst, .slice pt t.snd.length ct, .int .i64 tc.fst, .slice ptc tc.snd.length ctc] := hk 0 (by kernel_rfl)
        have e1 : tm.getD 1 undef = .agg #[.int .i64 g.fst, .slice pg g.snd.length cg] := hk 1 (by kernel_rfl)
        have e2 : tm.getD 2 undef = .int .i64 cat := hk 2 (by kernel_rfl)
        have e3 : tm.getD 3 undef = .pointer (some ⟨w.heap.size, 0, none⟩) := hk 3 (by kernel_rfl)
        have e4 : tm.getD 4 undef = .pointer (some ⟨w.heap.size + 1, 0, none⟩) := hk 4 (by kernel_rfl)
        have e5 : tm.getD 5 undef = undef := hk 5 (by kernel_rfl)
        have e6 : tm.getD 6 undef = .bool false := hk 6 (by kernel_rfl)
        have e7 : tm.getD 7 undef = undef := hk 7 (by kernel_rfl)
        have e8 : tm.getD 8 undef = undef := hk 8 (by kernel_rfl)
        have e9 : tm.getD 9 undef = undef := hk 9 (by kernel_rfl)
        have e10 : tm.getD 10 undef = undef := hk 10 (by kernel_rfl)
        have e11 : tm.getD 11 undef = undef := hk 11 (by kernel_rfl)
        have e12 : tm.getD 12 undef = undef := hk 12 (by kernel_rfl)
        have e13 : tm.getD 13 undef = undef := hk 13 (by kernel_rfl)
        have e14 : tm.getD 14 undef = undef := hk 14 (by kernel_rfl)
        have e15 : tm.getD 15 undef = undef := hk 15 (by kernel_rfl)
        have e16 : tm.getD 16 undef = undef := hk 16 (by kernel_rfl)
        have e17 : tm.getD 17 undef = .bool true := hk 17 (by kernel_rfl)
        have e18 : tm.getD 18 undef = .bool false := hk 18 (by kernel_rfl)
        have e19 : tm.getD 19 undef = .pointer (some ⟨w.heap.size, 0, none⟩) := hk 19 (by kernel_rfl)
        have e20 : tm.getD 20 undef = t20 := hk 20 (by kernel_rfl)
        have e21 : tm.getD 21 undef = .pointer (some ⟨w.heap.size, 2, none⟩) := hk 21 (by kernel_rfl)
        have e22 : tm.getD 22 undef = t22 := hk 22 (by kernel_rfl)
        have e23 : tm.getD 23 undef = t23 := hk 23 (by kernel_rfl)
        have e24 : tm.getD 24 undef = t24 := hk 24 (by kernel_rfl)
        have e25 : tm.getD 25 undef = .bool true := hk 25 (by kernel_rfl)
        have e26 : tm.getD 26 undef = .bool !true := hk 26 (by kernel_rfl)
        have e27 : tm.getD 27 undef = undef := hk 27 (by kernel_rfl)
        have e34 : tm.getD 34 undef = undef := hk 34 (by kernel_rfl)
        have e35 : tm.getD 35 undef = undef := hk 35 (by kernel_rfl)
        have e36 : tm.getD 36 undef = undef := hk 36 (by kernel_rfl)
        have e37 : tm.getD 37 undef = undef := hk 37 (by kernel_rfl)
        have e38 : tm.getD 38 undef = undef := hk 38 (by kernel_rfl)
        have e39 : tm.getD 39 undef = undef := hk 39 (by kernel_rfl)
        have e40 : tm.getD 40 undef = undef := hk 40 (by kernel_rfl)
        have e41 : tm.getD 41 undef = undef := hk 41 (by kernel_rfl)
        have e42 : tm.getD 42 undef = undef := hk 42 (by kernel_rfl)
        have e43 : tm.getD 43 undef = undef := hk 43 (by kernel_rfl)
        have e44 : tm.getD 44 undef = undef := hk 44 (by kernel_rfl)
        have e45 : tm.getD 45 undef = undef := hk 45 (by kernel_rfl)
        have e46 : tm.getD 46 undef = undef := hk 46 (by kernel_rfl)
        have e47 : tm.getD 47 undef = undef := hk 47 (by kernel_rfl)
        have e48 : tm.getD 48 undef = undef := hk 48 (by kernel_rfl)
        have e49 : tm.getD 49 undef = undef := hk 49 (by kernel_rfl)
        have e50 : tm.getD 50 undef = undef := hk 50 (by kernel_rfl)
        have e51 : tm.getD 51 undef = undef := hk 51 (by kernel_rfl)
        have e52 : tm.getD 52 undef = undef := hk 52 (by kernel_rfl)
        have e53 : tm.getD 53 undef = undef := hk 53 (by kernel_rfl)
        have e54 : tm.getD 54 undef = undef := hk 54 (by kernel_rfl)
        have e55 : tm.getD 55 undef = undef := hk 55 (by kernel_rfl)
        have e56 : tm.getD 56 undef = undef := hk 56 (by kernel_rfl)
        have e57 : tm.getD 57 undef = undef := hk 57 (by kernel_rfl)
        have e58 : tm.getD 58 undef = undef := hk 58 (by kernel_rfl)
        have e59 : tm.getD 59 undef = undef := hk 59 (by kernel_rfl)
        have e60 : tm.getD 60 undef = undef := hk 60 (by kernel_rfl)
        have e61 : tm.getD 61 undef = undef := hk 61 (by kernel_rfl)
        have e62 : tm.getD 62 undef = undef := hk 62 (by kernel_rfl)
        have e63 : tm.getD 63 undef = undef := hk 63 (by kernel_rfl)
        have e64 : tm.getD 64 undef = undef := hk 64 (by kernel_rfl)
        have e65 : tm.getD 65 undef = undef := hk 65 (by kernel_rfl)
        have e66 : tm.getD 66 undef = undef := hk 66 (by kernel_rfl)
        have e67 : tm.getD 67 undef = undef := hk 67 (by kernel_rfl)
        have e68 : tm.getD 68 undef = undef := hk 68 (by kernel_rfl)
        have e69 : tm.getD 69 undef = undef := hk 69 (by kernel_rfl)
        have e70 : tm.getD 70 undef = undef := hk 70 (by kernel_rfl)
        have e71 : tm.getD 71 undef = undef := hk 71 (by kernel_rfl)
        have e72 : tm.getD 72 undef = undef := hk 72 (by kernel_rfl)
        have e73 : tm.getD 73 undef = undef := hk 73 (by kernel_rfl)
        have e74 : tm.getD 74 undef = undef := hk 74 (by kernel_rfl)
        have e75 : tm.getD 75 undef = undef := hk 75 (by kernel_rfl)
        have e76 : tm.getD 76 undef = undef := hk 76 (by kernel_rfl)
        have e77 : tm.getD 77 undef = undef := hk 77 (by kernel_rfl)
        have e78 : tm.getD 78 undef = undef := hk 78 (by kernel_rfl)
        have e79 : tm.getD 79 undef = undef := hk 79 (by kernel_rfl)
        have e80 : tm.getD 80 undef = undef := hk 80 (by kernel_rfl)
        have e81 : tm.getD 81 undef = undef := hk 81 (by kernel_rfl)
        have e82 : tm.getD 82 undef = undef := hk 82 (by kernel_rfl)
        have e83 : tm.getD 83 undef = undef := hk 83 (by kernel_rfl)
        have g28 : (tm.getD 28 undef) = .pointer (some ⟨w.heap.size, 0, none⟩) := hG 0 28 (by decide) rfl
        have g29 : LV t (tm.getD 29 undef) W := hG 1 29 (by decide) rfl
        have g30 : (tm.getD 30 undef) = .pointer (some ⟨w.heap.size, 2, none⟩) := hG 2 30 (by decide) rfl
        have g31 : LV tc (tm.getD 31 undef) W := hG 3 31 (by decide) rfl
        have g32 : (tm.getD 32 undef) = .int .i64 cat := hG 4 32 (by decide) rfl
        have g33 : (T3V oa ob oe) (tm.getD 33 undef) W := hG 5 33 (by decide) rfl
        have htm := arr_of tm ((.agg #[.int .i64 t.fst, .slice pt t.snd.length ct, .int .i64 tc.fst, .slice ptc tc.snd.length ctc] : Value) :: (.agg #[.int .i64 g.fst, .slice pg g.snd.length cg] : Value) :: (.int .i64 cat : Value) :: (.pointer (some ⟨w.heap.size, 0, none⟩) : Value) :: (.pointer (some ⟨w.heap.size + 1, 0, none⟩) : Value) :: (undef : Value) :: (.bool false : Value) :: (undef : Value) :: (undef : Value) :: (undef : Value) :: (undef : Value) :: (undef : Value) :: (undef : Value) :: (undef : Value) :: (undef : Value) :: (undef : Value) :: (undef : Value) :: (.bool true : Value) :: (.bool false : Value) :: (.pointer (some ⟨w.heap.size, 0, none⟩) : Value) :: (t20 : Value) :: (.pointer (some ⟨w.heap.size, 2, none⟩) : Value) :: (t22 : Value) :: (t23 : Value) :: (t24 : Value) :: (.bool true : Value) :: (.bool !true : Value) :: (undef : Value) :: (tm.getD 28 undef : Value) :: (tm.getD 29 undef : Value) :: (tm.getD 30 undef : Value) :: (tm.getD 31 undef : Value) :: (tm.getD 32 undef : Value) :: (tm.getD 33 undef : Value) :: (undef : Value) :: (undef : Value) :: (undef : Value) :: (undef : Value) :: (undef : Value) :: (undef : Value) :: (undef : Value) :: (undef : Value) :: (undef : Value) :: (undef : Value) :: (undef : Value) :: (undef : Value) :: (undef : Value) :: (undef : Value) :: (undef : Value) :: (undef : Value) :: (undef : Value) :: (undef : Value) :: (undef : Value) :: (undef : Value) :: (undef : Value) :: (undef : Value) :: (undef : Value) :: (undef : Value) :: (undef : Value) :: (undef : Value) :: (undef : Value) :: (undef : Value) :: (undef : Value) :: (undef : Value) :: (undef : Value) :: (undef : Value) :: (undef : Value) :: (undef : Value) :: (undef : Value) :: (undef : Value) :: (undef : Value) :: (undef : Value) :: (undef : Value) :: (undef : Value) :: (undef : Value) :: (undef : Value) :: (undef : Value) :: (undef : Value) :: (undef : Value) :: (undef : Value) :: (undef : Value) :: (undef : Value) :: (undef : Value) :: (undef : Value) :: []) hs (by show (tm.getD 0 undef :: tm.getD 1 undef :: tm.getD 2 undef :: tm.getD 3 undef :: tm.getD 4 undef :: tm.getD 5 undef :: tm.getD 6 undef :: tm.getD 7 undef :: tm.getD 8 undef :: tm.getD 9 undef :: tm.getD 10 undef :: tm.getD 11 undef :: tm.getD 12 undef :: tm.getD 13 undef :: tm.getD 14 undef :: tm.getD 15 undef :: tm.getD 16 undef :: tm.getD 17 undef :: tm.getD 18 undef :: tm.getD 19 undef :: tm.getD 20 undef :: tm.getD 21 undef :: tm.getD 22 undef :: tm.getD 23 undef :: tm.getD 24 undef :: tm.getD 25 undef :: tm.getD 26 undef :: tm.getD 27 undef :: tm.getD 28 undef :: tm.getD 29 undef :: tm.getD 30 undef :: tm.getD 31 undef :: tm.getD 32 undef :: tm.getD 33 undef :: tm.getD 34 undef :: tm.getD 35 undef :: tm.getD 36 undef :: tm.getD 37 undef :: tm.getD 38 undef :: tm.getD 39 undef :: tm.getD 40 undef :: tm.getD 41 undef :: tm.getD 42 undef :: tm.getD 43 undef :: tm.getD 44 undef :: tm.getD 45 undef :: tm.getD 46 undef :: tm.getD 47 undef :: tm.getD 48 undef :: tm.getD 49 undef :: tm.getD 50 undef :: tm.getD 51 undef :: tm.getD 52 undef :: tm.getD 53 undef :: tm.getD 54 undef :: tm.getD 55 undef :: tm.getD 56 undef :: tm.getD 57 undef :: tm.getD 58 undef :: tm.getD 59 undef :: tm.getD 60 undef :: tm.getD 61 undef :: tm.getD 62 undef :: tm.getD 63 undef :: tm.getD 64 undef :: tm.getD 65 undef :: tm.getD 66 undef :: tm.getD 67 undef :: tm.getD 68 undef :: tm.getD 69 undef :: tm.getD 70 undef :: tm.getD 71 undef :: tm.getD 72 undef :: tm.getD 73 undef :: tm.getD 74 undef :: tm.getD 75 undef :: tm.getD 76 undef :: tm.getD 77 undef :: tm.getD 78 undef :: tm.getD 79 undef :: tm.getD 80 undef :: tm.getD 81 undef :: tm.getD 82 undef :: tm.getD 83 undef :: []) = _; rw [e0, e1, e2, e3, e4, e5, e6, e7, e8, e9, e10, e11, e12, e13, e14, e15, e16, e17, e18, e19, e20, e21, e22, e23, e24, e25, e26, e27, e34, e35, e36, e37, e38, e39, e40, e41, e42, e43, e44, e45, e46, e47, e48, e49, e50, e51, e52, e53, e54, e55, e56, e57, e58, e59, e60, e61, e62, e63, e64, e65, e66, e67, e68, e69, e70, e71, e72, e73, e74, e75, e76, e77, e78, e79, e80, e81, e82, e83]; try rfl)
        clear hs hk hG e0 e1 e2 e3 e4 e5 e6 e7 e8 e9 e10 e11 e12 e13 e14 e15 e16 e17 e18 e19 e20 e21 e22 e23 e24 e25 e26 e27 e34 e35 e36 e37 e38 e39 e40 e41 e42 e43 e44 e45 e46 e47 e48 e49 e50 e51 e52 e53 e54 e55 e56 e57 e58 e59 e60 e61 e62 e63 e64 e65 e66 e67 e68 e69 e70 e71 e72 e73 e74 e75 e76 e77 e78 e79 e80 e81 e82 e83
        generalize tm.getD 28 undef = t28 at htm g28
        generalize tm.getD 29 undef = t29 at htm g29
        generalize tm.getD 30 undef = t30 at htm g30
        generalize tm.getD 31 undef = t31 at htm g31
        generalize tm.getD 32 undef = t32 at htm g32
        generalize tm.getD 33 undef = t33 at htm g33
        subst htm
        subst g28
        subst g30
        subst g32
        simp only [List.drop_succ_cons, List.drop_zero]
        obtain ⟨x5, y5, rfl, hx5, hy5⟩ := g33
        obtain ⟨px5, cx5, rfl, hxc5, hxl5, hxm5⟩ := hx5
        obtain ⟨py5, cy5, rfl, hyc5, hyl5, hym5⟩ := hy5
        have hPre : Below w.heap.size w W := hA2.trans (hB.mono hA2.size)
        have hqt := het.below hB
        have hqtc := hetc.below hB
        have hqg := heg.below hB
        clear g29 g31 het hetc heg hB hA2 
        go_upto_region 6 with fail
        obtain ⟨X5, hX5⟩ : ∃ X, X = (W.alloc (.cells #[.int .i64 oa.1, .slice px5 oa.2.length cx5] 24)).alloc (.cells #[.int .i64 ob.1, .slice py5 ob.2.length cy5] 24) := ⟨_, rfl⟩
        have hbX : Below W.heap.size W X5 := by rw [hX5]; go_grown
        obtain ⟨n5, hn5⟩ : ∃ n, n = W.heap.size := ⟨_, rfl⟩
        have hE5a : LBg oa X5 W.heap.size 0 := lbg_new (by rw [hX5]; simp <;> omega) (by rw [hX5]; simp [go_sem]) (by rw [hX5]; simp [go_sem]) hxc5 hbX hxl5 hxm5
        have hE5b : LBg ob X5 (W.heap.size + 1) 0 := lbg_new (by rw [hX5]; simp) (by rw [hX5]; simp [go_sem]) (by rw [hX5]; simp [go_sem]) hyc5 hbX hyl5 hym5
        have hft := hqt.below hbX
        have hftc := hqtc.below hbX
        have hfg := hqg.below hbX
        have hA3 : Below w.heap.size w X5 := hPre.trans (hbX.mono hPre.size)
        rw [← hX5]
        rw [← hn5] at hE5a hE5b ⊢
        clear hX5 hbX hn5 hPre hqt hqtc hqg  hxc5 hyc5
        refine wp_region_monoG 6 (fun kq v W => match kq with | 38 => v = .pointer (some ⟨w.heap.size, 0, none⟩) | 39 => LV t v W | 40 => v = .pointer (some ⟨w.heap.size, 2, none⟩) | 41 => LV tc v W | 42 => v = .int .i64 cat | 43 => (T3V oa ob oe) v W | _ => True) (by kernel_rfl) (by kernel_rfl) (by simp) ?_ ?_ ?_
        · intro kq v W W' h hb
          revert h
          try dsimp only
          split
          · intro h; exact h
          · intro h; exact LV.below h hb
          · intro h; exact h
          · intro h; exact LV.below h hb
          · intro h; exact h
          · intro h; exact T3V.below h hb
          · intro h; trivial
        · intro a' W hB hs hk i o d ho hd hG
          match i, ho with
          | 0, ho =>
            obtain rfl : _ = o := Option.some.inj ho
            obtain rfl : 38 = d := Option.some.inj hd
            exact .inr ⟨rfl, .inl ⟨_, W, run_fa0 (hk 3 (by kernel_rfl)), Below.refl _ _, rfl⟩⟩
          | 1, ho =>
            obtain rfl : _ = o := Option.some.inj ho
            obtain rfl : 39 = d := Option.some.inj hd
            have g38 : (a'.eval (.tmp 38)) = .pointer (some ⟨w.heap.size, 0, none⟩) := hG ⟨0, .data⟩ (by simp) rfl 38 rfl
            obtain ⟨v, hr, hv⟩ := run_loadL (ev := a'.eval) (W := W) g38 (hft.below hB)
            exact .inr ⟨rfl, .inl ⟨v, W, hr, Below.refl _ _, hv⟩⟩
          | 2, ho =>
            obtain rfl : _ = o := Option.some.inj ho
            obtain rfl : 40 = d := Option.some.inj hd
            exact .inr ⟨rfl, .inl ⟨_, W, run_fa1 (hk 3 (by kernel_rfl)), Below.refl _ _, rfl⟩⟩
          | 3, ho =>
            obtain rfl : _ = o := Option.some.inj ho
            obtain rfl : 41 = d := Option.some.inj hd
            have g40 : (a'.eval (.tmp 40)) = .pointer (some ⟨w.heap.size, 2, none⟩) := hG ⟨2, .data⟩ (by simp) rfl 40 rfl
            obtain ⟨v, hr, hv⟩ := run_loadL (ev := a'.eval) (W := W) g40 (hftc.below hB)
            exact .inr ⟨rfl, .inl ⟨v, W, hr, Below.refl _ _, hv⟩⟩
          | 4, ho =>
            obtain rfl : _ = o := Option.some.inj ho
            obtain rfl : 42 = d := Option.some.inj hd
            exact .inr ⟨rfl, .inl ⟨_, W, run_move (hk 2 (by kernel_rfl)), Below.refl _ _, rfl⟩⟩
          | 5, ho =>
            obtain rfl : _ = o := Option.some.inj ho
            obtain rfl : 43 = d := Option.some.inj hd
            have g39 : LV t (a'.eval (.tmp 39)) W := hG ⟨1, .data⟩ (by simp) rfl 39 rfl
            have g41 : LV tc (a'.eval (.tmp 41)) W := hG ⟨3, .data⟩ (by simp) rfl 41 rfl
            have g42 : (a'.eval (.tmp 42)) = .int .i64 cat := hG ⟨4, .data⟩ (by simp) rfl 42 rfl
            exact .inr ⟨rfl, .inr ⟨_, _, run_call rfl map_3 ent_gatehouseref07_Own, HO2.out _ _ _ _ g39 g41 g42⟩⟩
          | j + 6, ho => simp at ho
        · intro a' W hB hs hdf hk hG
          obtain ⟨tm, df⟩ := a'
          obtain rfl : df = [] := hdf
          have e0 : tm.getD 0 undef = .agg #[.int .i64 t.fst, .slice pt t.snd.length ct, .int .i64 tc.fst, .slice ptc tc.snd.length ctc] := hk 0 (by kernel_rfl)
          have e1 : tm.getD 1 undef = .agg #[.int .i64 g.fst, .slice pg g.snd.length cg] := hk 1 (by kernel_rfl)
          have e2 : tm.getD 2 undef = .int .i64 cat := hk 2 (by kernel_rfl)
          have e3 : tm.getD 3 undef = .pointer (some ⟨w.heap.size, 0, none⟩) := hk 3 (by kernel_rfl)
          have e4 : tm.getD 4 undef = .pointer (some ⟨w.heap.size + 1, 0, none⟩) := hk 4 (by kernel_rfl)
          have e5 : tm.getD 5 undef = undef := hk 5 (by kernel_rfl)
          have e6 : tm.getD 6 undef = .bool false := hk 6 (by kernel_rfl)
          have e7 : tm.getD 7 undef = .pointer (some ⟨n5, 0, none⟩) := hk 7 (by kernel_rfl)
          have e8 : tm.getD 8 undef = .pointer (some ⟨n5 + 1, 0, none⟩) := hk 8 (by kernel_rfl)
          have e9 : tm.getD 9 undef = .int .i64 oe := hk 9 (by kernel_rfl)
          have e10 : tm.getD 10 undef = undef := hk 10 (by kernel_rfl)
          have e11 : tm.getD 11 undef = undef := hk 11 (by kernel_rfl)
          have e12 : tm.getD 12 undef = undef := hk 12 (by kernel_rfl)
          have e13 : tm.getD 13 undef = undef := hk 13 (by kernel_rfl)
          have e14 : tm.getD 14 undef = undef := hk 14 (by kernel_rfl)
          have e15 : tm.getD 15 undef = undef := hk 15 (by kernel_rfl)
          have e16 : tm.getD 16 undef = undef := hk 16 (by kernel_rfl)
          have e17 : tm.getD 17 undef = .bool true := hk 17 (by kernel_rfl)
          have e18 : tm.getD 18 undef = .bool false := hk 18 (by kernel_rfl)
          have e19 : tm.getD 19 undef = .pointer (some ⟨w.heap.size, 0, none⟩) := hk 19 (by kernel_rfl)
          have e20 : tm.getD 20 undef = t20 := hk 20 (by kernel_rfl)
          have e21 : tm.getD 21 undef = .pointer (some ⟨w.heap.size, 2, none⟩) := hk 21 (by kernel_rfl)
          have e22 : tm.getD 22 undef = t22 := hk 22 (by kernel_rfl)
          have e23 : tm.getD 23 undef = t23 := hk 23 (by kernel_rfl)
          have e24 : tm.getD 24 undef = t24 := hk 24 (by kernel_rfl)
          have e25 : tm.getD 25 undef = .bool true := hk 25 (by kernel_rfl)
          have e26 : tm.getD 26 undef = .bool !true := hk 26 (by kernel_rfl)
          have e27 : tm.getD 27 undef = .tuple #[.agg #[.int .i64 oa.fst, .slice px5 oa.snd.length cx5], .agg #[.int .i64 ob.fst, .slice py5 ob.snd.length cy5], .int .i64 oe] := hk 27 (by kernel_rfl)
          have e28 : tm.getD 28 undef = .pointer (some ⟨w.heap.size, 0, none⟩) := hk 28 (by kernel_rfl)
          have e29 : tm.getD 29 undef = t29 := hk 29 (by kernel_rfl)
          have e30 : tm.getD 30 undef = .pointer (some ⟨w.heap.size, 2, none⟩) := hk 30 (by kernel_rfl)
          have e31 : tm.getD 31 undef = t31 := hk 31 (by kernel_rfl)
          have e32 : tm.getD 32 undef = .int .i64 cat := hk 32 (by kernel_rfl)
          have e33 : tm.getD 33 undef = .tuple #[.agg #[.int .i64 oa.fst, .slice px5 oa.snd.length cx5], .agg #[.int .i64 ob.fst, .slice py5 ob.snd.length cy5], .int .i64 oe] := hk 33 (by kernel_rfl)
          have e34 : tm.getD 34 undef = .agg #[.int .i64 oa.fst, .slice px5 oa.snd.length cx5] := hk 34 (by kernel_rfl)
          have e35 : tm.getD 35 undef = .agg #[.int .i64 ob.fst, .slice py5 ob.snd.length cy5] := hk 35 (by kernel_rfl)
          have e36 : tm.getD 36 undef = .int .i64 oe := hk 36 (by kernel_rfl)
          have e37 : tm.getD 37 undef = undef := hk 37 (by kernel_rfl)
          have e44 : tm.getD 44 undef = undef := hk 44 (by kernel_rfl)
          have e45 : tm.getD 45 undef = undef := hk 45 (by kernel_rfl)
          have e46 : tm.getD 46 undef = undef := hk 46 (by kernel_rfl)
          have e47 : tm.getD 47 undef = undef := hk 47 (by kernel_rfl)
          have e48 : tm.getD 48 undef = undef := hk 48 (by kernel_rfl)
          have e49 : tm.getD 49 undef = undef := hk 49 (by kernel_rfl)
          have e50 : tm.getD 50 undef = undef := hk 50 (by kernel_rfl)
          have e51 : tm.getD 51 undef = undef := hk 51 (by kernel_rfl)
          have e52 : tm.getD 52 undef = undef := hk 52 (by kernel_rfl)
          have e53 : tm.getD 53 undef = undef := hk 53 (by kernel_rfl)
          have e54 : tm.getD 54 undef = undef := hk 54 (by kernel_rfl)
          have e55 : tm.getD 55 undef = undef := hk 55 (by kernel_rfl)
          have e56 : tm.getD 56 undef = undef := hk 56 (by kernel_rfl)
          have e57 : tm.getD 57 undef = undef := hk 57 (by kernel_rfl)
          have e58 : tm.getD 58 undef = undef := hk 58 (by kernel_rfl)
          have e59 : tm.getD 59 undef = undef := hk 59 (by kernel_rfl)
          have e60 : tm.getD 60 undef = undef := hk 60 (by kernel_rfl)
          have e61 : tm.getD 61 undef = undef := hk 61 (by kernel_rfl)
          have e62 : tm.getD 62 undef = undef := hk 62 (by kernel_rfl)
          have e63 : tm.getD 63 undef = undef := hk 63 (by kernel_rfl)
          have e64 : tm.getD 64 undef = undef := hk 64 (by kernel_rfl)
          have e65 : tm.getD 65 undef = undef := hk 65 (by kernel_rfl)
          have e66 : tm.getD 66 undef = undef := hk 66 (by kernel_rfl)
          have e67 : tm.getD 67 undef = undef := hk 67 (by kernel_rfl)
          have e68 : tm.getD 68 undef = undef := hk 68 (by kernel_rfl)
          have e69 : tm.getD 69 undef = undef := hk 69 (by kernel_rfl)
          have e70 : tm.getD 70 undef = undef := hk 70 (by kernel_rfl)
          have e71 : tm.getD 71 undef = undef := hk 71 (by kernel_rfl)
          have e72 : tm.getD 72 undef = undef := hk 72 (by kernel_rfl)
          have e73 : tm.getD 73 undef = undef := hk 73 (by kernel_rfl)
          have e74 : tm.getD 74 undef = undef := hk 74 (by kernel_rfl)
          have e75 : tm.getD 75 undef = undef := hk 75 (by kernel_rfl)
          have e76 : tm.getD 76 undef = undef := hk 76 (by kernel_rfl)
          have e77 : tm.getD 77 undef = undef := hk 77 (by kernel_rfl)
          have e78 : tm.getD 78 undef = undef := hk 78 (by kernel_rfl)
          have e79 : tm.getD 79 undef = undef := hk 79 (by kernel_rfl)
          have e80 : tm.getD 80 undef = undef := hk 80 (by kernel_rfl)
          have e81 : tm.getD 81 undef = undef := hk 81 (by kernel_rfl)
          have e82 : tm.getD 82 undef = undef := hk 82 (by kernel_rfl)
          have e83 : tm.getD 83 undef = undef := hk 83 (by kernel_rfl)
          have g38 : (tm.getD 38 undef) = .pointer (some ⟨w.heap.size, 0, none⟩) := hG 0 38 (by decide) rfl
          have g39 : LV t (tm.getD 39 undef) W := hG 1 39 (by decide) rfl
          have g40 : (tm.getD 40 undef) = .pointer (some ⟨w.heap.size, 2, none⟩) := hG 2 40 (by decide) rfl
          have g41 : LV tc (tm.getD 41 undef) W := hG 3 41 (by decide) rfl
          have g42 : (tm.getD 42 undef) = .int .i64 cat := hG 4 42 (by decide) rfl
          have g43 : (T3V oa ob oe) (tm.getD 43 undef) W := hG 5 43 (by decide) rfl
          have htm := arr_of tm ((.agg #[.int .i64 t.fst, .slice pt t.snd.length ct, .int .i64 tc.fst, .slice ptc tc.snd.length ctc] : Value) :: (.agg #[.int .i64 g.fst, .slice pg g.snd.length cg] : Value) :: (.int .i64 cat : Value) :: (.pointer (some ⟨w.heap.size, 0, none⟩) : Value) :: (.pointer (some ⟨w.heap.size + 1, 0, none⟩) : Value) :: (undef : Value) :: (.bool false : Value) :: (.pointer (some ⟨n5, 0, none⟩) : Value) :: (.pointer (some ⟨n5 + 1, 0, none⟩) : Value) :: (.int .i64 oe : Value) :: (undef : Value) :: (undef : Value) :: (undef : Value) :: (undef : Value) :: (undef : Value) :: (undef : Value) :: (undef : Value) :: (.bool true : Value) :: (.bool false : Value) :: (.pointer (some ⟨w.heap.size, 0, none⟩) : Value) :: (t20 : Value) :: (.pointer (some ⟨w.heap.size, 2, none⟩) : Value) :: (t22 : Value) :: (t23 : Value) :: (t24 : Value) :: (.bool true : Value) :: (.bool !true : Value) :: (.tuple #[.agg #[.int .i64 oa.fst, .slice px5 oa.snd.length cx5], .agg #[.int .i64 ob.fst, .slice py5 ob.snd.length cy5], .int .i64 oe] : Value) :: (.pointer (some ⟨w.heap.size, 0, none⟩) : Value) :: (t29 : Value) :: (.pointer (some ⟨w.heap.size, 2, none⟩) : Value) :: (t31 : Value) :: (.int .i64 cat : Value) :: (.tuple #[.agg #[.int .i64 oa.fst, .slice px5 oa.snd.length cx5], .agg #[.int .i64 ob.fst, .slice py5 ob.snd.length cy5], .int .i64 oe] : Value) :: (.agg #[.int .i64 oa.fst, .slice px5 oa.snd.length cx5] : Value) :: (.agg #[.int .i64 ob.fst, .slice py5 ob.snd.length cy5] : Value) :: (.int .i64 oe : Value) :: (undef : Value) :: (tm.getD 38 undef : Value) :: (tm.getD 39 undef : Value) :: (tm.getD 40 undef : Value) :: (tm.getD 41 undef : Value) :: (tm.getD 42 undef : Value) :: (tm.getD 43 undef : Value) :: (undef : Value) :: (undef : Value) :: (undef : Value) :: (undef : Value) :: (undef : Value) :: (undef : Value) :: (undef : Value) :: (undef : Value) :: (undef : Value) :: (undef : Value) :: (undef : Value) :: (undef : Value) :: (undef : Value) :: (undef : Value) :: (undef : Value) :: (undef : Value) :: (undef : Value) :: (undef : Value) :: (undef : Value) :: (undef : Value) :: (undef : Value) :: (undef : Value) :: (undef : Value) :: (undef : Value) :: (undef : Value) :: (undef : Value) :: (undef : Value) :: (undef : Value) :: (undef : Value) :: (undef : Value) :: (undef : Value) :: (undef : Value) :: (undef : Value) :: (undef : Value) :: (undef : Value) :: (undef : Value) :: (undef : Value) :: (undef : Value) :: (undef : Value) :: (undef : Value) :: []) hs (by show (tm.getD 0 undef :: tm.getD 1 undef :: tm.getD 2 undef :: tm.getD 3 undef :: tm.getD 4 undef :: tm.getD 5 undef :: tm.getD 6 undef :: tm.getD 7 undef :: tm.getD 8 undef :: tm.getD 9 undef :: tm.getD 10 undef :: tm.getD 11 undef :: tm.getD 12 undef :: tm.getD 13 undef :: tm.getD 14 undef :: tm.getD 15 undef :: tm.getD 16 undef :: tm.getD 17 undef :: tm.getD 18 undef :: tm.getD 19 undef :: tm.getD 20 undef :: tm.getD 21 undef :: tm.getD 22 undef :: tm.getD 23 undef :: tm.getD 24 undef :: tm.getD 25 undef :: tm.getD 26 undef :: tm.getD 27 undef :: tm.getD 28 undef :: tm.getD 29 undef :: tm.getD 30 undef :: tm.getD 31 undef :: tm.getD 32 undef :: tm.getD 33 undef :: tm.getD 34 undef :: tm.getD 35 undef :: tm.getD 36 undef :: tm.getD 37 undef :: tm.getD 38 undef :: tm.getD 39 undef :: tm.getD 40 undef :: tm.getD 41 undef :: tm.getD 42 undef :: tm.getD 43 undef :: tm.getD 44 undef :: tm.getD 45 undef :: tm.getD 46 undef :: tm.getD 47 undef :: tm.getD 48 undef :: tm.getD 49 undef :: tm.getD 50 undef :: tm.getD 51 undef :: tm.getD 52 undef :: tm.getD 53 undef :: tm.getD 54 undef :: tm.getD 55 undef :: tm.getD 56 undef :: tm.getD 57 undef :: tm.getD 58 undef :: tm.getD 59 undef :: tm.getD 60 undef :: tm.getD 61 undef :: tm.getD 62 undef :: tm.getD 63 undef :: tm.getD 64 undef :: tm.getD 65 undef :: tm.getD 66 undef :: tm.getD 67 undef :: tm.getD 68 undef :: tm.getD 69 undef :: tm.getD 70 undef :: tm.getD 71 undef :: tm.getD 72 undef :: tm.getD 73 undef :: tm.getD 74 undef :: tm.getD 75 undef :: tm.getD 76 undef :: tm.getD 77 undef :: tm.getD 78 undef :: tm.getD 79 undef :: tm.getD 80 undef :: tm.getD 81 undef :: tm.getD 82 undef :: tm.getD 83 undef :: []) = _; rw [e0, e1, e2, e3, e4, e5, e6, e7, e8, e9, e10, e11, e12, e13, e14, e15, e16, e17, e18, e19, e20, e21, e22, e23, e24, e25, e26, e27, e28, e29, e30, e31, e32, e33, e34, e35, e36, e37, e44, e45, e46, e47, e48, e49, e50, e51, e52, e53, e54, e55, e56, e57, e58, e59, e60, e61, e62, e63, e64, e65, e66, e67, e68, e69, e70, e71, e72, e73, e74, e75, e76, e77, e78, e79, e80, e81, e82, e83]; try rfl)
          clear hs hk hG e0 e1 e2 e3 e4 e5 e6 e7 e8 e9 e10 e11 e12 e13 e14 e15 e16 e17 e18 e19 e20 e21 e22 e23 e24 e25 e26 e27 e28 e29 e30 e31 e32 e33 e34 e35 e36 e37 e44 e45 e46 e47 e48 e49 e50 e51 e52 e53 e54 e55 e56 e57 e58 e59 e60 e61 e62 e63 e64 e65 e66 e67 e68 e69 e70 e71 e72 e73 e74 e75 e76 e77 e78 e79 e80 e81 e82 e83
          generalize tm.getD 38 undef = t38 at htm g38
          generalize tm.getD 39 undef = t39 at htm g39
          generalize tm.getD 40 undef = t40 at htm g40
          generalize tm.getD 41 undef = t41 at htm g41
          generalize tm.getD 42 undef = t42 at htm g42
          generalize tm.getD 43 undef = t43 at htm g43
          subst htm
          subst g38
          subst g40
          subst g42
          simp only [List.drop_succ_cons, List.drop_zero]
          obtain ⟨x6, y6, rfl, hx6, hy6⟩ := g43
          obtain ⟨px6, cx6, rfl, hxc6, hxl6, hxm6⟩ := hx6
          obtain ⟨py6, cy6, rfl, hyc6, hyl6, hym6⟩ := hy6
          have hPre : Below w.heap.size w W := hA3.trans (hB.mono hA3.size)
          have hqt := hft.below hB
          have hqtc := hftc.below hB
          have hqg := hfg.below hB
          have hqE7 := hE5a.below hB
          have hqE8 := hE5b.below hB
          clear g39 g41 hft hftc hfg hB hA3 hE5a hE5b
          go_upto_region 7 with fail
          obtain ⟨X6, hX6⟩ : ∃ X, X = (W.alloc (.cells #[.int .i64 oa.1, .slice px6 oa.2.length cx6] 24)).alloc (.cells #[.int .i64 ob.1, .slice py6 ob.2.length cy6] 24) := ⟨_, rfl⟩
          have hbX : Below W.heap.size W X6 := by rw [hX6]; go_grown
          obtain ⟨n6, hn6⟩ : ∃ n, n = W.heap.size := ⟨_, rfl⟩
          have hE6a : LBg oa X6 W.heap.size 0 := lbg_new (by rw [hX6]; simp <;> omega) (by rw [hX6]; simp [go_sem]) (by rw [hX6]; simp [go_sem]) hxc6 hbX hxl6 hxm6
          have hE6b : LBg ob X6 (W.heap.size + 1) 0 := lbg_new (by rw [hX6]; simp) (by rw [hX6]; simp [go_sem]) (by rw [hX6]; simp [go_sem]) hyc6 hbX hyl6 hym6
          have hgt := hqt.below hbX
          have hgtc := hqtc.below hbX
          have hgg := hqg.below hbX
          have hE7_6 := hqE7.below hbX
          have hE8_6 := hqE8.below hbX
          have hA4 : Below w.heap.size w X6 := hPre.trans (hbX.mono hPre.size)
          rw [← hX6]
          rw [← hn6] at hE6a hE6b ⊢
          clear hX6 hbX hn6 hPre hqt hqtc hqg hqE7 hqE8 hxc6 hyc6
          refine wp_region_monoG 4 (fun kq v W => match kq with | 48 => v = .pointer (some ⟨w.heap.size, 0, none⟩) | 49 => LV t v W | 50 => LV g v W | 51 => (T2V fa fe) v W | _ => True) (by kernel_rfl) (by kernel_rfl) (by simp) ?_ ?_ ?_
          · intro kq v W W' h hb
            revert h
            try dsimp only
            split
            · intro h; exact h
            · intro h; exact LV.below h hb
            · intro h; exact LV.below h hb
            · intro h; exact T2V.below h hb
            · intro h; trivial
          · intro a' W hB hs hk i o d ho hd hG
            match i, ho with
            | 0, ho =>
              obtain rfl : _ = o := Option.some.inj ho
              obtain rfl : 48 = d := Option.some.inj hd
              exact .inr ⟨rfl, .inl ⟨_, W, run_fa0 (hk 3 (by kernel_rfl)), Below.refl _ _, rfl⟩⟩
            | 1, ho =>
              obtain rfl : _ = o := Option.some.inj ho
              obtain rfl : 49 = d := Option.some.inj hd
              have g48 : (a'.eval (.tmp 48)) = .pointer (some ⟨w.heap.size, 0, none⟩) := hG ⟨0, .data⟩ (by simp) rfl 48 rfl
              obtain ⟨v, hr, hv⟩ := run_loadL (ev := a'.eval) (W := W) g48 (hgt.below hB)
              exact .inr ⟨rfl, .inl ⟨v, W, hr, Below.refl _ _, hv⟩⟩
            | 2, ho =>
              obtain rfl : _ = o := Option.some.inj ho
              obtain rfl : 50 = d := Option.some.inj hd
              obtain ⟨v, hr, hv⟩ := run_loadL (ev := a'.eval) (W := W) (hk 4 (by kernel_rfl)) (hgg.below hB)
              exact .inr ⟨rfl, .inl ⟨v, W, hr, Below.refl _ _, hv⟩⟩
            | 3, ho =>
              obtain rfl : _ = o := Option.some.inj ho
              obtain rfl : 51 = d := Option.some.inj hd
              have g49 : LV t (a'.eval (.tmp 49)) W := hG ⟨1, .data⟩ (by simp) rfl 49 rfl
              have g50 : LV g (a'.eval (.tmp 50)) W := hG ⟨2, .data⟩ (by simp) rfl 50 rfl
              exact .inr ⟨rfl, .inr ⟨_, _, run_call rfl map_2 ent_passage_Floor, HF1.out _ _ _ g49 g50⟩⟩
            | j + 4, ho => simp at ho
          · intro a' W hB hs hdf hk hG
            obtain ⟨tm, df⟩ := a'
            obtain rfl : df = [] := hdf
            have e0 : tm.getD 0 undef = .agg #[.int .i64 t.fst, .slice pt t.snd.length ct, .int .i64 tc.fst, .slice ptc tc.snd.length ctc] := hk 0 (by kernel_rfl)
            have e1 : tm.getD 1 undef = .agg #[.int .i64 g.fst, .slice pg g.snd.length cg] := hk 1 (by kernel_rfl)
            have e2 : tm.getD 2 undef = .int .i64 cat := hk 2 (by kernel_rfl)
            have e3 : tm.getD 3 undef = .pointer (some ⟨w.heap.size, 0, none⟩) := hk 3 (by kernel_rfl)
            have e4 : tm.getD 4 undef = .pointer (some ⟨w.heap.size + 1, 0, none⟩) := hk 4 (by kernel_rfl)
            have e5 : tm.getD 5 undef = undef := hk 5 (by kernel_rfl)
            have e6 : tm.getD 6 undef = .bool false := hk 6 (by kernel_rfl)
            have e7 : tm.getD 7 undef = .pointer (some ⟨n5, 0, none⟩) := hk 7 (by kernel_rfl)
            have e8 : tm.getD 8 undef = .pointer (some ⟨n5 + 1, 0, none⟩) := hk 8 (by kernel_rfl)
            have e9 : tm.getD 9 undef = .int .i64 oe := hk 9 (by kernel_rfl)
            have e10 : tm.getD 10 undef = .pointer (some ⟨n6, 0, none⟩) := hk 10 (by kernel_rfl)
            have e11 : tm.getD 11 undef = .pointer (some ⟨n6 + 1, 0, none⟩) := hk 11 (by kernel_rfl)
            have e12 : tm.getD 12 undef = .int .i64 oe := hk 12 (by kernel_rfl)
            have e13 : tm.getD 13 undef = undef := hk 13 (by kernel_rfl)
            have e14 : tm.getD 14 undef = undef := hk 14 (by kernel_rfl)
            have e15 : tm.getD 15 undef = undef := hk 15 (by kernel_rfl)
            have e16 : tm.getD 16 undef = undef := hk 16 (by kernel_rfl)
            have e17 : tm.getD 17 undef = .bool true := hk 17 (by kernel_rfl)
            have e18 : tm.getD 18 undef = .bool false := hk 18 (by kernel_rfl)
            have e19 : tm.getD 19 undef = .pointer (some ⟨w.heap.size, 0, none⟩) := hk 19 (by kernel_rfl)
            have e20 : tm.getD 20 undef = t20 := hk 20 (by kernel_rfl)
            have e21 : tm.getD 21 undef = .pointer (some ⟨w.heap.size, 2, none⟩) := hk 21 (by kernel_rfl)
            have e22 : tm.getD 22 undef = t22 := hk 22 (by kernel_rfl)
            have e23 : tm.getD 23 undef = t23 := hk 23 (by kernel_rfl)
            have e24 : tm.getD 24 undef = t24 := hk 24 (by kernel_rfl)
            have e25 : tm.getD 25 undef = .bool true := hk 25 (by kernel_rfl)
            have e26 : tm.getD 26 undef = .bool !true := hk 26 (by kernel_rfl)
            have e27 : tm.getD 27 undef = .tuple #[.agg #[.int .i64 oa.fst, .slice px5 oa.snd.length cx5], .agg #[.int .i64 ob.fst, .slice py5 ob.snd.length cy5], .int .i64 oe] := hk 27 (by kernel_rfl)
            have e28 : tm.getD 28 undef = .pointer (some ⟨w.heap.size, 0, none⟩) := hk 28 (by kernel_rfl)
            have e29 : tm.getD 29 undef = t29 := hk 29 (by kernel_rfl)
            have e30 : tm.getD 30 undef = .pointer (some ⟨w.heap.size, 2, none⟩) := hk 30 (by kernel_rfl)
            have e31 : tm.getD 31 undef = t31 := hk 31 (by kernel_rfl)
            have e32 : tm.getD 32 undef = .int .i64 cat := hk 32 (by kernel_rfl)
            have e33 : tm.getD 33 undef = .tuple #[.agg #[.int .i64 oa.fst, .slice px5 oa.snd.length cx5], .agg #[.int .i64 ob.fst, .slice py5 ob.snd.length cy5], .int .i64 oe] := hk 33 (by kernel_rfl)
            have e34 : tm.getD 34 undef = .agg #[.int .i64 oa.fst, .slice px5 oa.snd.length cx5] := hk 34 (by kernel_rfl)
            have e35 : tm.getD 35 undef = .agg #[.int .i64 ob.fst, .slice py5 ob.snd.length cy5] := hk 35 (by kernel_rfl)
            have e36 : tm.getD 36 undef = .int .i64 oe := hk 36 (by kernel_rfl)
            have e37 : tm.getD 37 undef = .tuple #[.agg #[.int .i64 oa.fst, .slice px6 oa.snd.length cx6], .agg #[.int .i64 ob.fst, .slice py6 ob.snd.length cy6], .int .i64 oe] := hk 37 (by kernel_rfl)
            have e38 : tm.getD 38 undef = .pointer (some ⟨w.heap.size, 0, none⟩) := hk 38 (by kernel_rfl)
            have e39 : tm.getD 39 undef = t39 := hk 39 (by kernel_rfl)
            have e40 : tm.getD 40 undef = .pointer (some ⟨w.heap.size, 2, none⟩) := hk 40 (by kernel_rfl)
            have e41 : tm.getD 41 undef = t41 := hk 41 (by kernel_rfl)
            have e42 : tm.getD 42 undef = .int .i64 cat := hk 42 (by kernel_rfl)
            have e43 : tm.getD 43 undef = .tuple #[.agg #[.int .i64 oa.fst, .slice px6 oa.snd.length cx6], .agg #[.int .i64 ob.fst, .slice py6 ob.snd.length cy6], .int .i64 oe] := hk 43 (by kernel_rfl)
            have e44 : tm.getD 44 undef = .agg #[.int .i64 oa.fst, .slice px6 oa.snd.length cx6] := hk 44 (by kernel_rfl)
            have e45 : tm.getD 45 undef = .agg #[.int .i64 ob.fst, .slice py6 ob.snd.length cy6] := hk 45 (by kernel_rfl)
            have e46 : tm.getD 46 undef = .int .i64 oe := hk 46 (by kernel_rfl)
            have e47 : tm.getD 47 undef = undef := hk 47 (by kernel_rfl)
            have e52 : tm.getD 52 undef = undef := hk 52 (by kernel_rfl)
            have e53 : tm.getD 53 undef = undef := hk 53 (by kernel_rfl)
            have e54 : tm.getD 54 undef = undef := hk 54 (by kernel_rfl)
            have e55 : tm.getD 55 undef = undef := hk 55 (by kernel_rfl)
            have e56 : tm.getD 56 undef = undef := hk 56 (by kernel_rfl)
            have e57 : tm.getD 57 undef = undef := hk 57 (by kernel_rfl)
            have e58 : tm.getD 58 undef = undef := hk 58 (by kernel_rfl)
            have e59 : tm.getD 59 undef = undef := hk 59 (by kernel_rfl)
            have e60 : tm.getD 60 undef = undef := hk 60 (by kernel_rfl)
            have e61 : tm.getD 61 undef = undef := hk 61 (by kernel_rfl)
            have e62 : tm.getD 62 undef = undef := hk 62 (by kernel_rfl)
            have e63 : tm.getD 63 undef = undef := hk 63 (by kernel_rfl)
            have e64 : tm.getD 64 undef = undef := hk 64 (by kernel_rfl)
            have e65 : tm.getD 65 undef = undef := hk 65 (by kernel_rfl)
            have e66 : tm.getD 66 undef = undef := hk 66 (by kernel_rfl)
            have e67 : tm.getD 67 undef = undef := hk 67 (by kernel_rfl)
            have e68 : tm.getD 68 undef = undef := hk 68 (by kernel_rfl)
            have e69 : tm.getD 69 undef = undef := hk 69 (by kernel_rfl)
            have e70 : tm.getD 70 undef = undef := hk 70 (by kernel_rfl)
            have e71 : tm.getD 71 undef = undef := hk 71 (by kernel_rfl)
            have e72 : tm.getD 72 undef = undef := hk 72 (by kernel_rfl)
            have e73 : tm.getD 73 undef = undef := hk 73 (by kernel_rfl)
            have e74 : tm.getD 74 undef = undef := hk 74 (by kernel_rfl)
            have e75 : tm.getD 75 undef = undef := hk 75 (by kernel_rfl)
            have e76 : tm.getD 76 undef = undef := hk 76 (by kernel_rfl)
            have e77 : tm.getD 77 undef = undef := hk 77 (by kernel_rfl)
            have e78 : tm.getD 78 undef = undef := hk 78 (by kernel_rfl)
            have e79 : tm.getD 79 undef = undef := hk 79 (by kernel_rfl)
            have e80 : tm.getD 80 undef = undef := hk 80 (by kernel_rfl)
            have e81 : tm.getD 81 undef = undef := hk 81 (by kernel_rfl)
            have e82 : tm.getD 82 undef = undef := hk 82 (by kernel_rfl)
            have e83 : tm.getD 83 undef = undef := hk 83 (by kernel_rfl)
            have g48 : (tm.getD 48 undef) = .pointer (some ⟨w.heap.size, 0, none⟩) := hG 0 48 (by decide) rfl
            have g49 : LV t (tm.getD 49 undef) W := hG 1 49 (by decide) rfl
            have g50 : LV g (tm.getD 50 undef) W := hG 2 50 (by decide) rfl
            have g51 : (T2V fa fe) (tm.getD 51 undef) W := hG 3 51 (by decide) rfl
            have htm := arr_of tm ((.agg #[.int .i64 t.fst, .slice pt t.snd.length ct, .int .i64 tc.fst, .slice ptc tc.snd.length ctc] : Value) :: (.agg #[.int .i64 g.fst, .slice pg g.snd.length cg] : Value) :: (.int .i64 cat : Value) :: (.pointer (some ⟨w.heap.size, 0, none⟩) : Value) :: (.pointer (some ⟨w.heap.size + 1, 0, none⟩) : Value) :: (undef : Value) :: (.bool false : Value) :: (.pointer (some ⟨n5, 0, none⟩) : Value) :: (.pointer (some ⟨n5 + 1, 0, none⟩) : Value) :: (.int .i64 oe : Value) :: (.pointer (some ⟨n6, 0, none⟩) : Value) :: (.pointer (some ⟨n6 + 1, 0, none⟩) : Value) :: (.int .i64 oe : Value) :: (undef : Value) :: (undef : Value) :: (undef : Value) :: (undef : Value) :: (.bool true : Value) :: (.bool false : Value) :: (.pointer (some ⟨w.heap.size, 0, none⟩) : Value) :: (t20 : Value) :: (.pointer (some ⟨w.heap.size, 2, none⟩) : Value) :: (t22 : Value) :: (t23 : Value) :: (t24 : Value) :: (.bool true : Value) :: (.bool !true : Value) :: (.tuple #[.agg #[.int .i64 oa.fst, .slice px5 oa.snd.length cx5], .agg #[.int .i64 ob.fst, .slice py5 ob.snd.length cy5], .int .i64 oe] : Value) :: (.pointer (some ⟨w.heap.size, 0, none⟩) : Value) :: (t29 : Value) :: (.pointer (some ⟨w.heap.size, 2, none⟩) : Value) :: (t31 : Value) :: (.int .i64 cat : Value) :: (.tuple #[.agg #[.int .i64 oa.fst, .slice px5 oa.snd.length cx5], .agg #[.int .i64 ob.fst, .slice py5 ob.snd.length cy5], .int .i64 oe] : Value) :: (.agg #[.int .i64 oa.fst, .slice px5 oa.snd.length cx5] : Value) :: (.agg #[.int .i64 ob.fst, .slice py5 ob.snd.length cy5] : Value) :: (.int .i64 oe : Value) :: (.tuple #[.agg #[.int .i64 oa.fst, .slice px6 oa.snd.length cx6], .agg #[.int .i64 ob.fst, .slice py6 ob.snd.length cy6], .int .i64 oe] : Value) :: (.pointer (some ⟨w.heap.size, 0, none⟩) : Value) :: (t39 : Value) :: (.pointer (some ⟨w.heap.size, 2, none⟩) : Value) :: (t41 : Value) :: (.int .i64 cat : Value) :: (.tuple #[.agg #[.int .i64 oa.fst, .slice px6 oa.snd.length cx6], .agg #[.int .i64 ob.fst, .slice py6 ob.snd.length cy6], .int .i64 oe] : Value) :: (.agg #[.int .i64 oa.fst, .slice px6 oa.snd.length cx6] : Value) :: (.agg #[.int .i64 ob.fst, .slice py6 ob.snd.length cy6] : Value) :: (.int .i64 oe : Value) :: (undef : Value) :: (tm.getD 48 undef : Value) :: (tm.getD 49 undef : Value) :: (tm.getD 50 undef : Value) :: (tm.getD 51 undef : Value) :: (undef : Value) :: (undef : Value) :: (undef : Value) :: (undef : Value) :: (undef : Value) :: (undef : Value) :: (undef : Value) :: (undef : Value) :: (undef : Value) :: (undef : Value) :: (undef : Value) :: (undef : Value) :: (undef : Value) :: (undef : Value) :: (undef : Value) :: (undef : Value) :: (undef : Value) :: (undef : Value) :: (undef : Value) :: (undef : Value) :: (undef : Value) :: (undef : Value) :: (undef : Value) :: (undef : Value) :: (undef : Value) :: (undef : Value) :: (undef : Value) :: (undef : Value) :: (undef : Value) :: (undef : Value) :: (undef : Value) :: (undef : Value) :: []) hs (by show (tm.getD 0 undef :: tm.getD 1 undef :: tm.getD 2 undef :: tm.getD 3 undef :: tm.getD 4 undef :: tm.getD 5 undef :: tm.getD 6 undef :: tm.getD 7 undef :: tm.getD 8 undef :: tm.getD 9 undef :: tm.getD 10 undef :: tm.getD 11 undef :: tm.getD 12 undef :: tm.getD 13 undef :: tm.getD 14 undef :: tm.getD 15 undef :: tm.getD 16 undef :: tm.getD 17 undef :: tm.getD 18 undef :: tm.getD 19 undef :: tm.getD 20 undef :: tm.getD 21 undef :: tm.getD 22 undef :: tm.getD 23 undef :: tm.getD 24 undef :: tm.getD 25 undef :: tm.getD 26 undef :: tm.getD 27 undef :: tm.getD 28 undef :: tm.getD 29 undef :: tm.getD 30 undef :: tm.getD 31 undef :: tm.getD 32 undef :: tm.getD 33 undef :: tm.getD 34 undef :: tm.getD 35 undef :: tm.getD 36 undef :: tm.getD 37 undef :: tm.getD 38 undef :: tm.getD 39 undef :: tm.getD 40 undef :: tm.getD 41 undef :: tm.getD 42 undef :: tm.getD 43 undef :: tm.getD 44 undef :: tm.getD 45 undef :: tm.getD 46 undef :: tm.getD 47 undef :: tm.getD 48 undef :: tm.getD 49 undef :: tm.getD 50 undef :: tm.getD 51 undef :: tm.getD 52 undef :: tm.getD 53 undef :: tm.getD 54 undef :: tm.getD 55 undef :: tm.getD 56 undef :: tm.getD 57 undef :: tm.getD 58 undef :: tm.getD 59 undef :: tm.getD 60 undef :: tm.getD 61 undef :: tm.getD 62 undef :: tm.getD 63 undef :: tm.getD 64 undef :: tm.getD 65 undef :: tm.getD 66 undef :: tm.getD 67 undef :: tm.getD 68 undef :: tm.getD 69 undef :: tm.getD 70 undef :: tm.getD 71 undef :: tm.getD 72 undef :: tm.getD 73 undef :: tm.getD 74 undef :: tm.getD 75 undef :: tm.getD 76 undef :: tm.getD 77 undef :: tm.getD 78 undef :: tm.getD 79 undef :: tm.getD 80 undef :: tm.getD 81 undef :: tm.getD 82 undef :: tm.getD 83 undef :: []) = _; rw [e0, e1, e2, e3, e4, e5, e6, e7, e8, e9, e10, e11, e12, e13, e14, e15, e16, e17, e18, e19, e20, e21, e22, e23, e24, e25, e26, e27, e28, e29, e30, e31, e32, e33, e34, e35, e36, e37, e38, e39, e40, e41, e42, e43, e44, e45, e46, e47, e52, e53, e54, e55, e56, e57, e58, e59, e60, e61, e62, e63, e64, e65, e66, e67, e68, e69, e70, e71, e72, e73, e74, e75, e76, e77, e78, e79, e80, e81, e82, e83]; try rfl)
            clear hs hk hG e0 e1 e2 e3 e4 e5 e6 e7 e8 e9 e10 e11 e12 e13 e14 e15 e16 e17 e18 e19 e20 e21 e22 e23 e24 e25 e26 e27 e28 e29 e30 e31 e32 e33 e34 e35 e36 e37 e38 e39 e40 e41 e42 e43 e44 e45 e46 e47 e52 e53 e54 e55 e56 e57 e58 e59 e60 e61 e62 e63 e64 e65 e66 e67 e68 e69 e70 e71 e72 e73 e74 e75 e76 e77 e78 e79 e80 e81 e82 e83
            generalize tm.getD 48 undef = t48 at htm g48
            generalize tm.getD 49 undef = t49 at htm g49
            generalize tm.getD 50 undef = t50 at htm g50
            generalize tm.getD 51 undef = t51 at htm g51
            subst htm
            subst g48
            simp only [List.drop_succ_cons, List.drop_zero]
            obtain ⟨x7, rfl, hx7⟩ := g51
            obtain ⟨px7, cx7, rfl, hxc7, hxl7, hxm7⟩ := hx7
            have hPre : Below w.heap.size w W := hA4.trans (hB.mono hA4.size)
            have hqt := hgt.below hB
            have hqtc := hgtc.below hB
            have hqg := hgg.below hB
            have hqE7 := hE7_6.below hB
            have hqE8 := hE8_6.below hB
            have hqE10 := hE6a.below hB
            have hqE11 := hE6b.below hB
            clear g49 g50 hgt hgtc hgg hB hA4 hE7_6 hE8_6 hE6a hE6b
            go_upto_region 8 with fail
            obtain ⟨X7, hX7⟩ : ∃ X, X = W.alloc (.cells #[.int .i64 fa.1, .slice px7 fa.2.length cx7] 24) := ⟨_, rfl⟩
            have hbX : Below W.heap.size W X7 := by rw [hX7]; go_grown
            obtain ⟨n7, hn7⟩ : ∃ n, n = W.heap.size := ⟨_, rfl⟩
            have hE7a : LBg fa X7 W.heap.size 0 := lbg_new (by rw [hX7]; simp) (by rw [hX7]; simp [go_sem]) (by rw [hX7]; simp [go_sem]) hxc7 hbX hxl7 hxm7
            have hht := hqt.below hbX
            have hhtc := hqtc.below hbX
            have hhg := hqg.below hbX
            have hE7_7 := hqE7.below hbX
            have hE8_7 := hqE8.below hbX
            have hE10_7 := hqE10.below hbX
            have hE11_7 := hqE11.below hbX
            have hA5 : Below w.heap.size w X7 := hPre.trans (hbX.mono hPre.size)
            rw [← hX7]
            rw [← hn7] at hE7a ⊢
            clear hX7 hbX hn7 hPre hqt hqtc hqg hqE7 hqE8 hqE10 hqE11 hxc7
            refine wp_region_monoG 4 (fun kq v W => match kq with | 55 => v = .pointer (some ⟨w.heap.size, 0, none⟩) | 56 => LV t v W | 57 => LV g v W | 58 => (T2V fa fe) v W | _ => True) (by kernel_rfl) (by kernel_rfl) (by simp) ?_ ?_ ?_
            · intro kq v W W' h hb
              revert h
              try dsimp only
              split
              · intro h; exact h
              · intro h; exact LV.below h hb
              · intro h; exact LV.below h hb
              · intro h; exact T2V.below h hb
              · intro h; trivial
            · intro a' W hB hs hk i o d ho hd hG
              match i, ho with
              | 0, ho =>
                obtain rfl : _ = o := Option.some.inj ho
                obtain rfl : 55 = d := Option.some.inj hd
                exact .inr ⟨rfl, .inl ⟨_, W, run_fa0 (hk 3 (by kernel_rfl)), Below.refl _ _, rfl⟩⟩
              | 1, ho =>
                obtain rfl : _ = o := Option.some.inj ho
                obtain rfl : 56 = d := Option.some.inj hd
                have g55 : (a'.eval (.tmp 55)) = .pointer (some ⟨w.heap.size, 0, none⟩) := hG ⟨0, .data⟩ (by simp) rfl 55 rfl
                obtain ⟨v, hr, hv⟩ := run_loadL (ev := a'.eval) (W := W) g55 (hht.below hB)
                exact .inr ⟨rfl, .inl ⟨v, W, hr, Below.refl _ _, hv⟩⟩
              | 2, ho =>
                obtain rfl : _ = o := Option.some.inj ho
                obtain rfl : 57 = d := Option.some.inj hd
                obtain ⟨v, hr, hv⟩ := run_loadL (ev := a'.eval) (W := W) (hk 4 (by kernel_rfl)) (hhg.below hB)
                exact .inr ⟨rfl, .inl ⟨v, W, hr, Below.refl _ _, hv⟩⟩
              | 3, ho =>
                obtain rfl : _ = o := Option.some.inj ho
                obtain rfl : 58 = d := Option.some.inj hd
                have g56 : LV t (a'.eval (.tmp 56)) W := hG ⟨1, .data⟩ (by simp) rfl 56 rfl
                have g57 : LV g (a'.eval (.tmp 57)) W := hG ⟨2, .data⟩ (by simp) rfl 57 rfl
                exact .inr ⟨rfl, .inr ⟨_, _, run_call rfl map_2 ent_gatehouseref07_Floor, HF2.out _ _ _ g56 g57⟩⟩
              | j + 4, ho => simp at ho
            · intro a' W hB hs hdf hk hG
              obtain ⟨tm, df⟩ := a'
              obtain rfl : df = [] := hdf
              have e0 : tm.getD 0 undef = .agg #[.int .i64 t.fst, .slice pt t.snd.length ct, .int .i64 tc.fst, .slice ptc tc.snd.length ctc] := hk 0 (by kernel_rfl)
              have e1 : tm.getD 1 undef = .agg #[.int .i64 g.fst, .slice pg g.snd.length cg] := hk 1 (by kernel_rfl)
              have e2 : tm.getD 2 undef = .int .i64 cat := hk 2 (by kernel_rfl)
              have e3 : tm.getD 3 undef = .pointer (some ⟨w.heap.size, 0, none⟩) := hk 3 (by kernel_rfl)
              have e4 : tm.getD 4 undef = .pointer (some ⟨w.heap.size + 1, 0, none⟩) := hk 4 (by kernel_rfl)
              have e5 : tm.getD 5 undef = undef := hk 5 (by kernel_rfl)
              have e6 : tm.getD 6 undef = .bool false := hk 6 (by kernel_rfl)
              have e7 : tm.getD 7 undef = .pointer (some ⟨n5, 0, none⟩) := hk 7 (by kernel_rfl)
              have e8 : tm.getD 8 undef = .pointer (some ⟨n5 + 1, 0, none⟩) := hk 8 (by kernel_rfl)
              have e9 : tm.getD 9 undef = .int .i64 oe := hk 9 (by kernel_rfl)
              have e10 : tm.getD 10 undef = .pointer (some ⟨n6, 0, none⟩) := hk 10 (by kernel_rfl)
              have e11 : tm.getD 11 undef = .pointer (some ⟨n6 + 1, 0, none⟩) := hk 11 (by kernel_rfl)
              have e12 : tm.getD 12 undef = .int .i64 oe := hk 12 (by kernel_rfl)
              have e13 : tm.getD 13 undef = .pointer (some ⟨n7, 0, none⟩) := hk 13 (by kernel_rfl)
              have e14 : tm.getD 14 undef = .int .i64 fe := hk 14 (by kernel_rfl)
              have e15 : tm.getD 15 undef = undef := hk 15 (by kernel_rfl)
              have e16 : tm.getD 16 undef = undef := hk 16 (by kernel_rfl)
              have e17 : tm.getD 17 undef = .bool true := hk 17 (by kernel_rfl)
              have e18 : tm.getD 18 undef = .bool false := hk 18 (by kernel_rfl)
              have e19 : tm.getD 19 undef = .pointer (some ⟨w.heap.size, 0, none⟩) := hk 19 (by kernel_rfl)
              have e20 : tm.getD 20 undef = t20 := hk 20 (by kernel_rfl)
              have e21 : tm.getD 21 undef = .pointer (some ⟨w.heap.size, 2, none⟩) := hk 21 (by kernel_rfl)
              have e22 : tm.getD 22 undef = t22 := hk 22 (by kernel_rfl)
              have e23 : tm.getD 23 undef = t23 := hk 23 (by kernel_rfl)
              have e24 : tm.getD 24 undef = t24 := hk 24 (by kernel_rfl)
              have e25 : tm.getD 25 undef = .bool true := hk 25 (by kernel_rfl)
              have e26 : tm.getD 26 undef = .bool !true := hk 26 (by kernel_rfl)
              have e27 : tm.getD 27 undef = .tuple #[.agg #[.int .i64 oa.fst, .slice px5 oa.snd.length cx5], .agg #[.int .i64 ob.fst, .slice py5 ob.snd.length cy5], .int .i64 oe] := hk 27 (by kernel_rfl)
              have e28 : tm.getD 28 undef = .pointer (some ⟨w.heap.size, 0, none⟩) := hk 28 (by kernel_rfl)
              have e29 : tm.getD 29 undef = t29 := hk 29 (by kernel_rfl)
              have e30 : tm.getD 30 undef = .pointer (some ⟨w.heap.size, 2, none⟩) := hk 30 (by kernel_rfl)
              have e31 : tm.getD 31 undef = t31 := hk 31 (by kernel_rfl)
              have e32 : tm.getD 32 undef = .int .i64 cat := hk 32 (by kernel_rfl)
              have e33 : tm.getD 33 undef = .tuple #[.agg #[.int .i64 oa.fst, .slice px5 oa.snd.length cx5], .agg #[.int .i64 ob.fst, .slice py5 ob.snd.length cy5], .int .i64 oe] := hk 33 (by kernel_rfl)
              have e34 : tm.getD 34 undef = .agg #[.int .i64 oa.fst, .slice px5 oa.snd.length cx5] := hk 34 (by kernel_rfl)
              have e35 : tm.getD 35 undef = .agg #[.int .i64 ob.fst, .slice py5 ob.snd.length cy5] := hk 35 (by kernel_rfl)
              have e36 : tm.getD 36 undef = .int .i64 oe := hk 36 (by kernel_rfl)
              have e37 : tm.getD 37 undef = .tuple #[.agg #[.int .i64 oa.fst, .slice px6 oa.snd.length cx6], .agg #[.int .i64 ob.fst, .slice py6 ob.snd.length cy6], .int .i64 oe] := hk 37 (by kernel_rfl)
              have e38 : tm.getD 38 undef = .pointer (some ⟨w.heap.size, 0, none⟩) := hk 38 (by kernel_rfl)
              have e39 : tm.getD 39 undef = t39 := hk 39 (by kernel_rfl)
              have e40 : tm.getD 40 undef = .pointer (some ⟨w.heap.size, 2, none⟩) := hk 40 (by kernel_rfl)
              have e41 : tm.getD 41 undef = t41 := hk 41 (by kernel_rfl)
              have e42 : tm.getD 42 undef = .int .i64 cat := hk 42 (by kernel_rfl)
              have e43 : tm.getD 43 undef = .tuple #[.agg #[.int .i64 oa.fst, .slice px6 oa.snd.length cx6], .agg #[.int .i64 ob.fst, .slice py6 ob.snd.length cy6], .int .i64 oe] := hk 43 (by kernel_rfl)
              have e44 : tm.getD 44 undef = .agg #[.int .i64 oa.fst, .slice px6 oa.snd.length cx6] := hk 44 (by kernel_rfl)
              have e45 : tm.getD 45 undef = .agg #[.int .i64 ob.fst, .slice py6 ob.snd.length cy6] := hk 45 (by kernel_rfl)
              have e46 : tm.getD 46 undef = .int .i64 oe := hk 46 (by kernel_rfl)
              have e47 : tm.getD 47 undef = .tuple #[.agg #[.int .i64 fa.fst, .slice px7 fa.snd.length cx7], .int .i64 fe] := hk 47 (by kernel_rfl)
              have e48 : tm.getD 48 undef = .pointer (some ⟨w.heap.size, 0, none⟩) := hk 48 (by kernel_rfl)
              have e49 : tm.getD 49 undef = t49 := hk 49 (by kernel_rfl)
              have e50 : tm.getD 50 undef = t50 := hk 50 (by kernel_rfl)
              have e51 : tm.getD 51 undef = .tuple #[.agg #[.int .i64 fa.fst, .slice px7 fa.snd.length cx7], .int .i64 fe] := hk 51 (by kernel_rfl)
              have e52 : tm.getD 52 undef = .agg #[.int .i64 fa.fst, .slice px7 fa.snd.length cx7] := hk 52 (by kernel_rfl)
              have e53 : tm.getD 53 undef = .int .i64 fe := hk 53 (by kernel_rfl)
              have e54 : tm.getD 54 undef = undef := hk 54 (by kernel_rfl)
              have e59 : tm.getD 59 undef = undef := hk 59 (by kernel_rfl)
              have e60 : tm.getD 60 undef = undef := hk 60 (by kernel_rfl)
              have e61 : tm.getD 61 undef = undef := hk 61 (by kernel_rfl)
              have e62 : tm.getD 62 undef = undef := hk 62 (by kernel_rfl)
              have e63 : tm.getD 63 undef = undef := hk 63 (by kernel_rfl)
              have e64 : tm.getD 64 undef = undef := hk 64 (by kernel_rfl)
              have e65 : tm.getD 65 undef = undef := hk 65 (by kernel_rfl)
              have e66 : tm.getD 66 undef = undef := hk 66 (by kernel_rfl)
              have e67 : tm.getD 67 undef = undef := hk 67 (by kernel_rfl)
              have e68 : tm.getD 68 undef = undef := hk 68 (by kernel_rfl)
              have e69 : tm.getD 69 undef = undef := hk 69 (by kernel_rfl)
              have e70 : tm.getD 70 undef = undef := hk 70 (by kernel_rfl)
              have e71 : tm.getD 71 undef = undef := hk 71 (by kernel_rfl)
              have e72 : tm.getD 72 undef = undef := hk 72 (by kernel_rfl)
              have e73 : tm.getD 73 undef = undef := hk 73 (by kernel_rfl)
              have e74 : tm.getD 74 undef = undef := hk 74 (by kernel_rfl)
              have e75 : tm.getD 75 undef = undef := hk 75 (by kernel_rfl)
              have e76 : tm.getD 76 undef = undef := hk 76 (by kernel_rfl)
              have e77 : tm.getD 77 undef = undef := hk 77 (by kernel_rfl)
              have e78 : tm.getD 78 undef = undef := hk 78 (by kernel_rfl)
              have e79 : tm.getD 79 undef = undef := hk 79 (by kernel_rfl)
              have e80 : tm.getD 80 undef = undef := hk 80 (by kernel_rfl)
              have e81 : tm.getD 81 undef = undef := hk 81 (by kernel_rfl)
              have e82 : tm.getD 82 undef = undef := hk 82 (by kernel_rfl)
              have e83 : tm.getD 83 undef = undef := hk 83 (by kernel_rfl)
              have g55 : (tm.getD 55 undef) = .pointer (some ⟨w.heap.size, 0, none⟩) := hG 0 55 (by decide) rfl
              have g56 : LV t (tm.getD 56 undef) W := hG 1 56 (by decide) rfl
              have g57 : LV g (tm.getD 57 undef) W := hG 2 57 (by decide) rfl
              have g58 : (T2V fa fe) (tm.getD 58 undef) W := hG 3 58 (by decide) rfl
              have htm := arr_of tm ((.agg #[.int .i64 t.fst, .slice pt t.snd.length ct, .int .i64 tc.fst, .slice ptc tc.snd.length ctc] : Value) :: (.agg #[.int .i64 g.fst, .slice pg g.snd.length cg] : Value) :: (.int .i64 cat : Value) :: (.pointer (some ⟨w.heap.size, 0, none⟩) : Value) :: (.pointer (some ⟨w.heap.size + 1, 0, none⟩) : Value) :: (undef : Value) :: (.bool false : Value) :: (.pointer (some ⟨n5, 0, none⟩) : Value) :: (.pointer (some ⟨n5 + 1, 0, none⟩) : Value) :: (.int .i64 oe : Value) :: (.pointer (some ⟨n6, 0, none⟩) : Value) :: (.pointer (some ⟨n6 + 1, 0, none⟩) : Value) :: (.int .i64 oe : Value) :: (.pointer (some ⟨n7, 0, none⟩) : Value) :: (.int .i64 fe : Value) :: (undef : Value) :: (undef : Value) :: (.bool true : Value) :: (.bool false : Value) :: (.pointer (some ⟨w.heap.size, 0, none⟩) : Value) :: (t20 : Value) :: (.pointer (some ⟨w.heap.size, 2, none⟩) : Value) :: (t22 : Value) :: (t23 : Value) :: (t24 : Value) :: (.bool true : Value) :: (.bool !true : Value) :: (.tuple #[.agg #[.int .i64 oa.fst, .slice px5 oa.snd.length cx5], .agg #[.int .i64 ob.fst, .slice py5 ob.snd.length cy5], .int .i64 oe] : Value) :: (.pointer (some ⟨w.heap.size, 0, none⟩) : Value) :: (t29 : Value) :: (.pointer (some ⟨w.heap.size, 2, none⟩) : Value) :: (t31 : Value) :: (.int .i64 cat : Value) :: (.tuple #[.agg #[.int .i64 oa.fst, .slice px5 oa.snd.length cx5], .agg #[.int .i64 ob.fst, .slice py5 ob.snd.length cy5], .int .i64 oe] : Value) :: (.agg #[.int .i64 oa.fst, .slice px5 oa.snd.length cx5] : Value) :: (.agg #[.int .i64 ob.fst, .slice py5 ob.snd.length cy5] : Value) :: (.int .i64 oe : Value) :: (.tuple #[.agg #[.int .i64 oa.fst, .slice px6 oa.snd.length cx6], .agg #[.int .i64 ob.fst, .slice py6 ob.snd.length cy6], .int .i64 oe] : Value) :: (.pointer (some ⟨w.heap.size, 0, none⟩) : Value) :: (t39 : Value) :: (.pointer (some ⟨w.heap.size, 2, none⟩) : Value) :: (t41 : Value) :: (.int .i64 cat : Value) :: (.tuple #[.agg #[.int .i64 oa.fst, .slice px6 oa.snd.length cx6], .agg #[.int .i64 ob.fst, .slice py6 ob.snd.length cy6], .int .i64 oe] : Value) :: (.agg #[.int .i64 oa.fst, .slice px6 oa.snd.length cx6] : Value) :: (.agg #[.int .i64 ob.fst, .slice py6 ob.snd.length cy6] : Value) :: (.int .i64 oe : Value) :: (.tuple #[.agg #[.int .i64 fa.fst, .slice px7 fa.snd.length cx7], .int .i64 fe] : Value) :: (.pointer (some ⟨w.heap.size, 0, none⟩) : Value) :: (t49 : Value) :: (t50 : Value) :: (.tuple #[.agg #[.int .i64 fa.fst, .slice px7 fa.snd.length cx7], .int .i64 fe] : Value) :: (.agg #[.int .i64 fa.fst, .slice px7 fa.snd.length cx7] : Value) :: (.int .i64 fe : Value) :: (undef : Value) :: (tm.getD 55 undef : Value) :: (tm.getD 56 undef : Value) :: (tm.getD 57 undef : Value) :: (tm.getD 58 undef : Value) :: (undef : Value) :: (undef : Value) :: (undef : Value) :: (undef : Value) :: (undef : Value) :: (undef : Value) :: (undef : Value) :: (undef : Value) :: (undef : Value) :: (undef : Value) :: (undef : Value) :: (undef : Value) :: (undef : Value) :: (undef : Value) :: (undef : Value) :: (undef : Value) :: (undef : Value) :: (undef : Value) :: (undef : Value) :: (undef : Value) :: (undef : Value) :: (undef : Value) :: (undef : Value) :: (undef : Value) :: (undef : Value) :: []) hs (by show (tm.getD 0 undef :: tm.getD 1 undef :: tm.getD 2 undef :: tm.getD 3 undef :: tm.getD 4 undef :: tm.getD 5 undef :: tm.getD 6 undef :: tm.getD 7 undef :: tm.getD 8 undef :: tm.getD 9 undef :: tm.getD 10 undef :: tm.getD 11 undef :: tm.getD 12 undef :: tm.getD 13 undef :: tm.getD 14 undef :: tm.getD 15 undef :: tm.getD 16 undef :: tm.getD 17 undef :: tm.getD 18 undef :: tm.getD 19 undef :: tm.getD 20 undef :: tm.getD 21 undef :: tm.getD 22 undef :: tm.getD 23 undef :: tm.getD 24 undef :: tm.getD 25 undef :: tm.getD 26 undef :: tm.getD 27 undef :: tm.getD 28 undef :: tm.getD 29 undef :: tm.getD 30 undef :: tm.getD 31 undef :: tm.getD 32 undef :: tm.getD 33 undef :: tm.getD 34 undef :: tm.getD 35 undef :: tm.getD 36 undef :: tm.getD 37 undef :: tm.getD 38 undef :: tm.getD 39 undef :: tm.getD 40 undef :: tm.getD 41 undef :: tm.getD 42 undef :: tm.getD 43 undef :: tm.getD 44 undef :: tm.getD 45 undef :: tm.getD 46 undef :: tm.getD 47 undef :: tm.getD 48 undef :: tm.getD 49 undef :: tm.getD 50 undef :: tm.getD 51 undef :: tm.getD 52 undef :: tm.getD 53 undef :: tm.getD 54 undef :: tm.getD 55 undef :: tm.getD 56 undef :: tm.getD 57 undef :: tm.getD 58 undef :: tm.getD 59 undef :: tm.getD 60 undef :: tm.getD 61 undef :: tm.getD 62 undef :: tm.getD 63 undef :: tm.getD 64 undef :: tm.getD 65 undef :: tm.getD 66 undef :: tm.getD 67 undef :: tm.getD 68 undef :: tm.getD 69 undef :: tm.getD 70 undef :: tm.getD 71 undef :: tm.getD 72 undef :: tm.getD 73 undef :: tm.getD 74 undef :: tm.getD 75 undef :: tm.getD 76 undef :: tm.getD 77 undef :: tm.getD 78 undef :: tm.getD 79 undef :: tm.getD 80 undef :: tm.getD 81 undef :: tm.getD 82 undef :: tm.getD 83 undef :: []) = _; rw [e0, e1, e2, e3, e4, e5, e6, e7, e8, e9, e10, e11, e12, e13, e14, e15, e16, e17, e18, e19, e20, e21, e22, e23, e24, e25, e26, e27, e28, e29, e30, e31, e32, e33, e34, e35, e36, e37, e38, e39, e40, e41, e42, e43, e44, e45, e46, e47, e48, e49, e50, e51, e52, e53, e54, e59, e60, e61, e62, e63, e64, e65, e66, e67, e68, e69, e70, e71, e72, e73, e74, e75, e76, e77, e78, e79, e80, e81, e82, e83]; try rfl)
              clear hs hk hG e0 e1 e2 e3 e4 e5 e6 e7 e8 e9 e10 e11 e12 e13 e14 e15 e16 e17 e18 e19 e20 e21 e22 e23 e24 e25 e26 e27 e28 e29 e30 e31 e32 e33 e34 e35 e36 e37 e38 e39 e40 e41 e42 e43 e44 e45 e46 e47 e48 e49 e50 e51 e52 e53 e54 e59 e60 e61 e62 e63 e64 e65 e66 e67 e68 e69 e70 e71 e72 e73 e74 e75 e76 e77 e78 e79 e80 e81 e82 e83
              generalize tm.getD 55 undef = t55 at htm g55
              generalize tm.getD 56 undef = t56 at htm g56
              generalize tm.getD 57 undef = t57 at htm g57
              generalize tm.getD 58 undef = t58 at htm g58
              subst htm
              subst g55
              simp only [List.drop_succ_cons, List.drop_zero]
              obtain ⟨x8, rfl, hx8⟩ := g58
              obtain ⟨px8, cx8, rfl, hxc8, hxl8, hxm8⟩ := hx8
              have hPre : Below w.heap.size w W := hA5.trans (hB.mono hA5.size)
              have hqt := hht.below hB
              have hqtc := hhtc.below hB
              have hqg := hhg.below hB
              have hqE7 := hE7_7.below hB
              have hqE8 := hE8_7.below hB
              have hqE10 := hE10_7.below hB
              have hqE11 := hE11_7.below hB
              have hqE13 := hE7a.below hB
              clear g56 g57 hht hhtc hhg hB hA5 hE7_7 hE8_7 hE10_7 hE11_7 hE7a
              go_upto_region 9 with fail
              obtain ⟨X8, hX8⟩ : ∃ X, X = W.alloc (.cells #[.int .i64 fa.1, .slice px8 fa.2.length cx8] 24) := ⟨_, rfl⟩
              have hbX : Below W.heap.size W X8 := by rw [hX8]; go_grown
              obtain ⟨n8, hn8⟩ : ∃ n, n = W.heap.size := ⟨_, rfl⟩
              have hE8a : LBg fa X8 W.heap.size 0 := lbg_new (by rw [hX8]; simp) (by rw [hX8]; simp [go_sem]) (by rw [hX8]; simp [go_sem]) hxc8 hbX hxl8 hxm8
              have hit := hqt.below hbX
              have hitc := hqtc.below hbX
              have hig := hqg.below hbX
              have hE7_8 := hqE7.below hbX
              have hE8_8 := hqE8.below hbX
              have hE10_8 := hqE10.below hbX
              have hE11_8 := hqE11.below hbX
              have hE13_8 := hqE13.below hbX
              have hA6 : Below w.heap.size w X8 := hPre.trans (hbX.mono hPre.size)
              rw [← hX8]
              rw [← hn8] at hE8a ⊢
              clear hX8 hbX hn8 hPre hqt hqtc hqg hqE7 hqE8 hqE10 hqE11 hqE13 hxc8
              refine wp_region_monoF 23 (fun kq v W => match kq with | 61 => v = .int .i64 oe | 62 => v = .int .i64 oe | 63 => v = .bool (oe == oe) | 64 => v = .bool (oe == oe) | 65 => ((oe == oe) = true → LVg oa v W) | 66 => ((oe == oe) = true → LVg oa v W) | 67 => ((oe == oe) = true → v = .bool (sameS oa.1 oa.1 oa.2 oa.2)) | 68 => v = .bool ((oe == oe) && (sameS oa.1 oa.1 oa.2 oa.2)) | 69 => v = .bool ((oe == oe) && (sameS oa.1 oa.1 oa.2 oa.2)) | 70 => (((oe == oe) && (sameS oa.1 oa.1 oa.2 oa.2)) = true → LVg ob v W) | 71 => (((oe == oe) && (sameS oa.1 oa.1 oa.2 oa.2)) = true → LVg ob v W) | 72 => (((oe == oe) && (sameS oa.1 oa.1 oa.2 oa.2)) = true → v = .bool (sameS ob.1 ob.1 ob.2 ob.2)) | 73 => v = .bool (((oe == oe) && (sameS oa.1 oa.1 oa.2 oa.2)) && (sameS ob.1 ob.1 ob.2 ob.2)) | 74 => v = .bool (((oe == oe) && (sameS oa.1 oa.1 oa.2 oa.2)) && (sameS ob.1 ob.1 ob.2 ob.2)) | 75 => ((((oe == oe) && (sameS oa.1 oa.1 oa.2 oa.2)) && (sameS ob.1 ob.1 ob.2 ob.2)) = true → v = .int .i64 fe) | 76 => ((((oe == oe) && (sameS oa.1 oa.1 oa.2 oa.2)) && (sameS ob.1 ob.1 ob.2 ob.2)) = true → v = .int .i64 fe) | 77 => ((((oe == oe) && (sameS oa.1 oa.1 oa.2 oa.2)) && (sameS ob.1 ob.1 ob.2 ob.2)) = true → v = .bool (fe == fe)) | 78 => v = .bool ((((oe == oe) && (sameS oa.1 oa.1 oa.2 oa.2)) && (sameS ob.1 ob.1 ob.2 ob.2)) && (fe == fe)) | 79 => v = .bool ((((oe == oe) && (sameS oa.1 oa.1 oa.2 oa.2)) && (sameS ob.1 ob.1 ob.2 ob.2)) && (fe == fe)) | 80 => (((((oe == oe) && (sameS oa.1 oa.1 oa.2 oa.2)) && (sameS ob.1 ob.1 ob.2 ob.2)) && (fe == fe)) = true → LVg fa v W) | 81 => (((((oe == oe) && (sameS oa.1 oa.1 oa.2 oa.2)) && (sameS ob.1 ob.1 ob.2 ob.2)) && (fe == fe)) = true → LVg fa v W) | 82 => (((((oe == oe) && (sameS oa.1 oa.1 oa.2 oa.2)) && (sameS ob.1 ob.1 ob.2 ob.2)) && (fe == fe)) = true → v = .bool (sameS fa.1 fa.1 fa.2 fa.2)) | 83 => v = .bool (((((oe == oe) && (sameS oa.1 oa.1 oa.2 oa.2)) && (sameS ob.1 ob.1 ob.2 ob.2)) && (fe == fe)) && (sameS fa.1 fa.1 fa.2 fa.2)) | _ => True) (by kernel_rfl) (by kernel_rfl) (by simp) ?_ ?_ ?_
              · intro kq v W W' h hb
                revert h
                try dsimp only
                split
                · intro h; exact h
                · intro h; exact h
                · intro h; exact h
                · intro h; exact h
                · intro h' e; have h := h' e; exact LVg.below h hb
                · intro h' e; have h := h' e; exact LVg.below h hb
                · intro h' e; have h := h' e; exact h
                · intro h; exact h
                · intro h; exact h
                · intro h' e; have h := h' e; exact LVg.below h hb
                · intro h' e; have h := h' e; exact LVg.below h hb
                · intro h' e; have h := h' e; exact h
                · intro h; exact h
                · intro h; exact h
                · intro h' e; have h := h' e; exact h
                · intro h' e; have h := h' e; exact h
                · intro h' e; have h := h' e; exact h
                · intro h; exact h
                · intro h; exact h
                · intro h' e; have h := h' e; exact LVg.below h hb
                · intro h' e; have h := h' e; exact LVg.below h hb
                · intro h' e; have h := h' e; exact h
                · intro h; exact h
                · intro h; trivial
              · intro a' W hB hs hk i o d ho hd hG
                match i, ho with
                | 0, ho =>
                  obtain rfl : _ = o := Option.some.inj ho
                  obtain rfl : 61 = d := Option.some.inj hd
                  exact .inr ⟨rfl, .inl ⟨_, W, run_move (hk 9 (by kernel_rfl)), Below.refl _ _, rfl⟩⟩
                | 1, ho =>
                  obtain rfl : _ = o := Option.some.inj ho
                  obtain rfl : 62 = d := Option.some.inj hd
                  exact .inr ⟨rfl, .inl ⟨_, W, run_move (hk 12 (by kernel_rfl)), Below.refl _ _, rfl⟩⟩
                | 2, ho =>
                  obtain rfl : _ = o := Option.some.inj ho
                  obtain rfl : 63 = d := Option.some.inj hd
                  have g61 : (a'.eval (.tmp 61)) = .int .i64 oe := hG ⟨0, .data⟩ (by simp) rfl 61 rfl
                  have g62 : (a'.eval (.tmp 62)) = .int .i64 oe := hG ⟨1, .data⟩ (by simp) rfl 62 rfl
                  exact .inr ⟨rfl, .inl ⟨_, W, run_eqE g61 g62, Below.refl _ _, rfl⟩⟩
                | 3, ho =>
                  obtain rfl : _ = o := Option.some.inj ho
                  obtain rfl : 64 = d := Option.some.inj hd
                  have g63 : (a'.eval (.tmp 63)) = .bool (oe == oe) := hG ⟨2, .data⟩ (by simp) rfl 63 rfl
                  exact .inr ⟨rfl, .inl ⟨_, W, run_move rfl, Below.refl _ _, g63⟩⟩
                | 4, ho =>
                  obtain rfl : _ = o := Option.some.inj ho
                  obtain rfl : 65 = d := Option.some.inj hd
                  have gg : a'.eval (.tmp 64) = .bool (oe == oe) := hG ⟨3, .guard⟩ (by simp) rfl 64 rfl
                  by_cases hgc_ : (oe == oe) = true
                  · obtain ⟨v, hr, hv⟩ := run_loadLg (ev := a'.eval) (W := W) (hk 7 (by kernel_rfl)) (hE7_8.below hB)
                    exact .inr ⟨want_yes (n := 84) (d := 64) rfl hs (by decide) rfl (gg.trans (by rw [hgc_])), .inl ⟨v, W, hr, Below.refl _ _, fun _ => hv⟩⟩
                  · exact .inl ⟨want_no (n := 84) (d := 64) rfl hs (by decide) rfl gg hgc_, fun e => absurd e hgc_⟩
                | 5, ho =>
                  obtain rfl : _ = o := Option.some.inj ho
                  obtain rfl : 66 = d := Option.some.inj hd
                  have gg : a'.eval (.tmp 64) = .bool (oe == oe) := hG ⟨3, .guard⟩ (by simp) rfl 64 rfl
                  by_cases hgc_ : (oe == oe) = true
                  · obtain ⟨v, hr, hv⟩ := run_loadLg (ev := a'.eval) (W := W) (hk 10 (by kernel_rfl)) (hE10_8.below hB)
                    exact .inr ⟨want_yes (n := 84) (d := 64) rfl hs (by decide) rfl (gg.trans (by rw [hgc_])), .inl ⟨v, W, hr, Below.refl _ _, fun _ => hv⟩⟩
                  · exact .inl ⟨want_no (n := 84) (d := 64) rfl hs (by decide) rfl gg hgc_, fun e => absurd e hgc_⟩
                | 6, ho =>
                  obtain rfl : _ = o := Option.some.inj ho
                  obtain rfl : 67 = d := Option.some.inj hd
                  have gg : a'.eval (.tmp 64) = .bool (oe == oe) := hG ⟨3, .guard⟩ (by simp) rfl 64 rfl
                  by_cases hgc_ : (oe == oe) = true
                  · have g65 : LVg oa (a'.eval (.tmp 65)) W := hG ⟨4, .data⟩ (by simp) rfl 65 rfl hgc_
                    have g66 : LVg oa (a'.eval (.tmp 66)) W := hG ⟨5, .data⟩ (by simp) rfl 66 rfl hgc_
                    exact .inr ⟨want_yes (n := 84) (d := 64) rfl hs (by decide) rfl (gg.trans (by rw [hgc_])), .inr ⟨_, _, run_call rfl map_2 ent_gatehouseref01_Same, (Same_g g65 g66).mono (fun e W' ⟨v, he, hb, hv⟩ => ⟨v, he, hb, fun _ => hv⟩)⟩⟩
                  · exact .inl ⟨want_no (n := 84) (d := 64) rfl hs (by decide) rfl gg hgc_, fun e => absurd e hgc_⟩
                | 7, ho =>
                  obtain rfl : _ = o := Option.some.inj ho
                  obtain rfl : 68 = d := Option.some.inj hd
                  have g64 : (a'.eval (.tmp 64)) = .bool (oe == oe) := hG ⟨3, .data⟩ (by simp) rfl 64 rfl
                  by_cases hq : (oe == oe) = true
                  · exact .inr ⟨rfl, .inl ⟨_, W, run_pick_yes (g64.trans (by rw [hq])) (hG ⟨6, .data⟩ (by simp) rfl 67 rfl hq), Below.refl _ _, by rw [hq]; rfl⟩⟩
                  · have hq' : (oe == oe) = false := eq_false_of_ne_true hq
                    exact .inr ⟨rfl, .inl ⟨_, W, run_pick_no (g64.trans (by rw [hq'])) rfl, Below.refl _ _, by rw [hq']; rfl⟩⟩
                | 8, ho =>
                  obtain rfl : _ = o := Option.some.inj ho
                  obtain rfl : 69 = d := Option.some.inj hd
                  have g68 : (a'.eval (.tmp 68)) = .bool ((oe == oe) && (sameS oa.1 oa.1 oa.2 oa.2)) := hG ⟨7, .data⟩ (by simp) rfl 68 rfl
                  exact .inr ⟨rfl, .inl ⟨_, W, run_move rfl, Below.refl _ _, g68⟩⟩
                | 9, ho =>
                  obtain rfl : _ = o := Option.some.inj ho
                  obtain rfl : 70 = d := Option.some.inj hd
                  have gg : a'.eval (.tmp 69) = .bool ((oe == oe) && (sameS oa.1 oa.1 oa.2 oa.2)) := hG ⟨8, .guard⟩ (by simp) rfl 69 rfl
                  by_cases hgc_ : ((oe == oe) && (sameS oa.1 oa.1 oa.2 oa.2)) = true
                  · obtain ⟨v, hr, hv⟩ := run_loadLg (ev := a'.eval) (W := W) (hk 8 (by kernel_rfl)) (hE8_8.below hB)
                    exact .inr ⟨want_yes (n := 84) (d := 69) rfl hs (by decide) rfl (gg.trans (by rw [hgc_])), .inl ⟨v, W, hr, Below.refl _ _, fun _ => hv⟩⟩
                  · exact .inl ⟨want_no (n := 84) (d := 69) rfl hs (by decide) rfl gg hgc_, fun e => absurd e hgc_⟩
                | 10, ho =>
                  obtain rfl : _ = o := Option.some.inj ho
                  obtain rfl : 71 = d := Option.some.inj hd
                  have gg : a'.eval (.tmp 69) = .bool ((oe == oe) && (sameS oa.1 oa.1 oa.2 oa.2)) := hG ⟨8, .guard⟩ (by simp) rfl 69 rfl
                  by_cases hgc_ : ((oe == oe) && (sameS oa.1 oa.1 oa.2 oa.2)) = true
                  · obtain ⟨v, hr, hv⟩ := run_loadLg (ev := a'.eval) (W := W) (hk 11 (by kernel_rfl)) (hE11_8.below hB)
                    exact .inr ⟨want_yes (n := 84) (d := 69) rfl hs (by decide) rfl (gg.trans (by rw [hgc_])), .inl ⟨v, W, hr, Below.refl _ _, fun _ => hv⟩⟩
                  · exact .inl ⟨want_no (n := 84) (d := 69) rfl hs (by decide) rfl gg hgc_, fun e => absurd e hgc_⟩
                | 11, ho =>
                  obtain rfl : _ = o := Option.some.inj ho
                  obtain rfl : 72 = d := Option.some.inj hd
                  have gg : a'.eval (.tmp 69) = .bool ((oe == oe) && (sameS oa.1 oa.1 oa.2 oa.2)) := hG ⟨8, .guard⟩ (by simp) rfl 69 rfl
                  by_cases hgc_ : ((oe == oe) && (sameS oa.1 oa.1 oa.2 oa.2)) = true
                  · have g70 : LVg ob (a'.eval (.tmp 70)) W := hG ⟨9, .data⟩ (by simp) rfl 70 rfl hgc_
                    have g71 : LVg ob (a'.eval (.tmp 71)) W := hG ⟨10, .data⟩ (by simp) rfl 71 rfl hgc_
                    exact .inr ⟨want_yes (n := 84) (d := 69) rfl hs (by decide) rfl (gg.trans (by rw [hgc_])), .inr ⟨_, _, run_call rfl map_2 ent_gatehouseref01_Same, (Same_g g70 g71).mono (fun e W' ⟨v, he, hb, hv⟩ => ⟨v, he, hb, fun _ => hv⟩)⟩⟩
                  · exact .inl ⟨want_no (n := 84) (d := 69) rfl hs (by decide) rfl gg hgc_, fun e => absurd e hgc_⟩
                | 12, ho =>
                  obtain rfl : _ = o := Option.some.inj ho
                  obtain rfl : 73 = d := Option.some.inj hd
                  have g69 : (a'.eval (.tmp 69)) = .bool ((oe == oe) && (sameS oa.1 oa.1 oa.2 oa.2)) := hG ⟨8, .data⟩ (by simp) rfl 69 rfl
                  by_cases hq : ((oe == oe) && (sameS oa.1 oa.1 oa.2 oa.2)) = true
                  · exact .inr ⟨rfl, .inl ⟨_, W, run_pick_yes (g69.trans (by rw [hq])) (hG ⟨11, .data⟩ (by simp) rfl 72 rfl hq), Below.refl _ _, by rw [hq]; rfl⟩⟩
                  · have hq' : ((oe == oe) && (sameS oa.1 oa.1 oa.2 oa.2)) = false := eq_false_of_ne_true hq
                    exact .inr ⟨rfl, .inl ⟨_, W, run_pick_no (g69.trans (by rw [hq'])) rfl, Below.refl _ _, by rw [hq']; rfl⟩⟩
                | 13, ho =>
                  obtain rfl : _ = o := Option.some.inj ho
                  obtain rfl : 74 = d := Option.some.inj hd
                  have g73 : (a'.eval (.tmp 73)) = .bool (((oe == oe) && (sameS oa.1 oa.1 oa.2 oa.2)) && (sameS ob.1 ob.1 ob.2 ob.2)) := hG ⟨12, .data⟩ (by simp) rfl 73 rfl
                  exact .inr ⟨rfl, .inl ⟨_, W, run_move rfl, Below.refl _ _, g73⟩⟩
                | 14, ho =>
                  obtain rfl : _ = o := Option.some.inj ho
                  obtain rfl : 75 = d := Option.some.inj hd
                  have gg : a'.eval (.tmp 74) = .bool (((oe == oe) && (sameS oa.1 oa.1 oa.2 oa.2)) && (sameS ob.1 ob.1 ob.2 ob.2)) := hG ⟨13, .guard⟩ (by simp) rfl 74 rfl
                  by_cases hgc_ : (((oe == oe) && (sameS oa.1 oa.1 oa.2 oa.2)) && (sameS ob.1 ob.1 ob.2 ob.2)) = true
                  · exact .inr ⟨want_yes (n := 84) (d := 74) rfl hs (by decide) rfl (gg.trans (by rw [hgc_])), .inl ⟨_, W, run_move (hk 14 (by kernel_rfl)), Below.refl _ _, fun _ => rfl⟩⟩
                  · exact .inl ⟨want_no (n := 84) (d := 74) rfl hs (by decide) rfl gg hgc_, fun e => absurd e hgc_⟩
                | 15, ho =>
                  obtain rfl : _ = o := Option.some.inj ho
                  obtain rfl : 76 = d := Option.some.inj hd
                  have gg : a'.eval (.tmp 74) = .bool (((oe == oe) && (sameS oa.1 oa.1 oa.2 oa.2)) && (sameS ob.1 ob.1 ob.2 ob.2)) := hG ⟨13, .guard⟩ (by simp) rfl 74 rfl
                  by_cases hgc_ : (((oe == oe) && (sameS oa.1 oa.1 oa.2 oa.2)) && (sameS ob.1 ob.1 ob.2 ob.2)) = true
                  · exact .inr ⟨want_yes (n := 84) (d := 74) rfl hs (by decide) rfl (gg.trans (by rw [hgc_])), .inl ⟨_, W, run_move (hk 16 (by kernel_rfl)), Below.refl _ _, fun _ => rfl⟩⟩
                  · exact .inl ⟨want_no (n := 84) (d := 74) rfl hs (by decide) rfl gg hgc_, fun e => absurd e hgc_⟩
                | 16, ho =>
                  obtain rfl : _ = o := Option.some.inj ho
                  obtain rfl : 77 = d := Option.some.inj hd
                  have gg : a'.eval (.tmp 74) = .bool (((oe == oe) && (sameS oa.1 oa.1 oa.2 oa.2)) && (sameS ob.1 ob.1 ob.2 ob.2)) := hG ⟨13, .guard⟩ (by simp) rfl 74 rfl
                  by_cases hgc_ : (((oe == oe) && (sameS oa.1 oa.1 oa.2 oa.2)) && (sameS ob.1 ob.1 ob.2 ob.2)) = true
                  · have g75 : (a'.eval (.tmp 75)) = .int .i64 fe := hG ⟨14, .data⟩ (by simp) rfl 75 rfl hgc_
                    have g76 : (a'.eval (.tmp 76)) = .int .i64 fe := hG ⟨15, .data⟩ (by simp) rfl 76 rfl hgc_
                    exact .inr ⟨want_yes (n := 84) (d := 74) rfl hs (by decide) rfl (gg.trans (by rw [hgc_])), .inl ⟨_, W, run_eqE g75 g76, Below.refl _ _, fun _ => rfl⟩⟩
                  · exact .inl ⟨want_no (n := 84) (d := 74) rfl hs (by decide) rfl gg hgc_, fun e => absurd e hgc_⟩
                | 17, ho =>
                  obtain rfl : _ = o := Option.some.inj ho
                  obtain rfl : 78 = d := Option.some.inj hd
                  have g74 : (a'.eval (.tmp 74)) = .bool (((oe == oe) && (sameS oa.1 oa.1 oa.2 oa.2)) && (sameS ob.1 ob.1 ob.2 ob.2)) := hG ⟨13, .data⟩ (by simp) rfl 74 rfl
                  by_cases hq : (((oe == oe) && (sameS oa.1 oa.1 oa.2 oa.2)) && (sameS ob.1 ob.1 ob.2 ob.2)) = true
                  · exact .inr ⟨rfl, .inl ⟨_, W, run_pick_yes (g74.trans (by rw [hq])) (hG ⟨16, .data⟩ (by simp) rfl 77 rfl hq), Below.refl _ _, by rw [hq]; rfl⟩⟩
                  · have hq' : (((oe == oe) && (sameS oa.1 oa.1 oa.2 oa.2)) && (sameS ob.1 ob.1 ob.2 ob.2)) = false := eq_false_of_ne_true hq
                    exact .inr ⟨rfl, .inl ⟨_, W, run_pick_no (g74.trans (by rw [hq'])) rfl, Below.refl _ _, by rw [hq']; rfl⟩⟩
                | 18, ho =>
                  obtain rfl : _ = o := Option.some.inj ho
                  obtain rfl : 79 = d := Option.some.inj hd
                  have g78 : (a'.eval (.tmp 78)) = .bool ((((oe == oe) && (sameS oa.1 oa.1 oa.2 oa.2)) && (sameS ob.1 ob.1 ob.2 ob.2)) && (fe == fe)) := hG ⟨17, .data⟩ (by simp) rfl 78 rfl
                  exact .inr ⟨rfl, .inl ⟨_, W, run_move rfl, Below.refl _ _, g78⟩⟩
                | 19, ho =>
                  obtain rfl : _ = o := Option.some.inj ho
                  obtain rfl : 80 = d := Option.some.inj hd
                  have gg : a'.eval (.tmp 79) = .bool ((((oe == oe) && (sameS oa.1 oa.1 oa.2 oa.2)) && (sameS ob.1 ob.1 ob.2 ob.2)) && (fe == fe)) := hG ⟨18, .guard⟩ (by simp) rfl 79 rfl
                  by_cases hgc_ : ((((oe == oe) && (sameS oa.1 oa.1 oa.2 oa.2)) && (sameS ob.1 ob.1 ob.2 ob.2)) && (fe == fe)) = true
                  · obtain ⟨v, hr, hv⟩ := run_loadLg (ev := a'.eval) (W := W) (hk 13 (by kernel_rfl)) (hE13_8.below hB)
                    exact .inr ⟨want_yes (n := 84) (d := 79) rfl hs (by decide) rfl (gg.trans (by rw [hgc_])), .inl ⟨v, W, hr, Below.refl _ _, fun _ => hv⟩⟩
                  · exact .inl ⟨want_no (n := 84) (d := 79) rfl hs (by decide) rfl gg hgc_, fun e => absurd e hgc_⟩
                | 20, ho =>
                  obtain rfl : _ = o := Option.some.inj ho
                  obtain rfl : 81 = d := Option.some.inj hd
                  have gg : a'.eval (.tmp 79) = .bool ((((oe == oe) && (sameS oa.1 oa.1 oa.2 oa.2)) && (sameS ob.1 ob.1 ob.2 ob.2)) && (fe == fe)) := hG ⟨18, .guard⟩ (by simp) rfl 79 rfl
                  by_cases hgc_ : ((((oe == oe) && (sameS oa.1 oa.1 oa.2 oa.2)) && (sameS ob.1 ob.1 ob.2 ob.2)) && (fe == fe)) = true
                  · obtain ⟨v, hr, hv⟩ := run_loadLg (ev := a'.eval) (W := W) (hk 15 (by kernel_rfl)) (hE8a.below hB)
                    exact .inr ⟨want_yes (n := 84) (d := 79) rfl hs (by decide) rfl (gg.trans (by rw [hgc_])), .inl ⟨v, W, hr, Below.refl _ _, fun _ => hv⟩⟩
                  · exact .inl ⟨want_no (n := 84) (d := 79) rfl hs (by decide) rfl gg hgc_, fun e => absurd e hgc_⟩
                | 21, ho =>
                  obtain rfl : _ = o := Option.some.inj ho
                  obtain rfl : 82 = d := Option.some.inj hd
                  have gg : a'.eval (.tmp 79) = .bool ((((oe == oe) && (sameS oa.1 oa.1 oa.2 oa.2)) && (sameS ob.1 ob.1 ob.2 ob.2)) && (fe == fe)) := hG ⟨18, .guard⟩ (by simp) rfl 79 rfl
                  by_cases hgc_ : ((((oe == oe) && (sameS oa.1 oa.1 oa.2 oa.2)) && (sameS ob.1 ob.1 ob.2 ob.2)) && (fe == fe)) = true
                  · have g80 : LVg fa (a'.eval (.tmp 80)) W := hG ⟨19, .data⟩ (by simp) rfl 80 rfl hgc_
                    have g81 : LVg fa (a'.eval (.tmp 81)) W := hG ⟨20, .data⟩ (by simp) rfl 81 rfl hgc_
                    exact .inr ⟨want_yes (n := 84) (d := 79) rfl hs (by decide) rfl (gg.trans (by rw [hgc_])), .inr ⟨_, _, run_call rfl map_2 ent_gatehouseref01_Same, (Same_g g80 g81).mono (fun e W' ⟨v, he, hb, hv⟩ => ⟨v, he, hb, fun _ => hv⟩)⟩⟩
                  · exact .inl ⟨want_no (n := 84) (d := 79) rfl hs (by decide) rfl gg hgc_, fun e => absurd e hgc_⟩
                | 22, ho =>
                  obtain rfl : _ = o := Option.some.inj ho
                  obtain rfl : 83 = d := Option.some.inj hd
                  have g79 : (a'.eval (.tmp 79)) = .bool ((((oe == oe) && (sameS oa.1 oa.1 oa.2 oa.2)) && (sameS ob.1 ob.1 ob.2 ob.2)) && (fe == fe)) := hG ⟨18, .data⟩ (by simp) rfl 79 rfl
                  by_cases hq : ((((oe == oe) && (sameS oa.1 oa.1 oa.2 oa.2)) && (sameS ob.1 ob.1 ob.2 ob.2)) && (fe == fe)) = true
                  · exact .inr ⟨rfl, .inl ⟨_, W, run_pick_yes (g79.trans (by rw [hq])) (hG ⟨21, .data⟩ (by simp) rfl 82 rfl hq), Below.refl _ _, by rw [hq]; rfl⟩⟩
                  · have hq' : ((((oe == oe) && (sameS oa.1 oa.1 oa.2 oa.2)) && (sameS ob.1 ob.1 ob.2 ob.2)) && (fe == fe)) = false := eq_false_of_ne_true hq
                    exact .inr ⟨rfl, .inl ⟨_, W, run_pick_no (g79.trans (by rw [hq'])) rfl, Below.refl _ _, by rw [hq']; rfl⟩⟩
                | j + 23, ho => simp at ho
              · intro a' W hB hs hdf hk hG
                obtain ⟨tm, df⟩ := a'
                obtain rfl : df = [] := hdf
                have e0 : tm.getD 0 undef = .agg #[.int .i64 t.fst, .slice pt t.snd.length ct, .int .i64 tc.fst, .slice ptc tc.snd.length ctc] := hk 0 (by kernel_rfl)
                have e1 : tm.getD 1 undef = .agg #[.int .i64 g.fst, .slice pg g.snd.length cg] := hk 1 (by kernel_rfl)
                have e2 : tm.getD 2 undef = .int .i64 cat := hk 2 (by kernel_rfl)
                have e3 : tm.getD 3 undef = .pointer (some ⟨w.heap.size, 0, none⟩) := hk 3 (by kernel_rfl)
                have e4 : tm.getD 4 undef = .pointer (some ⟨w.heap.size + 1, 0, none⟩) := hk 4 (by kernel_rfl)
                have e5 : tm.getD 5 undef = undef := hk 5 (by kernel_rfl)
                have e6 : tm.getD 6 undef = .bool false := hk 6 (by kernel_rfl)
                have e7 : tm.getD 7 undef = .pointer (some ⟨n5, 0, none⟩) := hk 7 (by kernel_rfl)
                have e8 : tm.getD 8 undef = .pointer (some ⟨n5 + 1, 0, none⟩) := hk 8 (by kernel_rfl)
                have e9 : tm.getD 9 undef = .int .i64 oe := hk 9 (by kernel_rfl)
                have e10 : tm.getD 10 undef = .pointer (some ⟨n6, 0, none⟩) := hk 10 (by kernel_rfl)
                have e11 : tm.getD 11 undef = .pointer (some ⟨n6 + 1, 0, none⟩) := hk 11 (by kernel_rfl)
                have e12 : tm.getD 12 undef = .int .i64 oe := hk 12 (by kernel_rfl)
                have e13 : tm.getD 13 undef = .pointer (some ⟨n7, 0, none⟩) := hk 13 (by kernel_rfl)
                have e14 : tm.getD 14 undef = .int .i64 fe := hk 14 (by kernel_rfl)
                have e15 : tm.getD 15 undef = .pointer (some ⟨n8, 0, none⟩) := hk 15 (by kernel_rfl)
                have e16 : tm.getD 16 undef = .int .i64 fe := hk 16 (by kernel_rfl)
                have e17 : tm.getD 17 undef = .bool true := hk 17 (by kernel_rfl)
                have e18 : tm.getD 18 undef = .bool false := hk 18 (by kernel_rfl)
                have e19 : tm.getD 19 undef = .pointer (some ⟨w.heap.size, 0, none⟩) := hk 19 (by kernel_rfl)
                have e20 : tm.getD 20 undef = t20 := hk 20 (by kernel_rfl)
                have e21 : tm.getD 21 undef = .pointer (some ⟨w.heap.size, 2, none⟩) := hk 21 (by kernel_rfl)
                have e22 : tm.getD 22 undef = t22 := hk 22 (by kernel_rfl)
                have e23 : tm.getD 23 undef = t23 := hk 23 (by kernel_rfl)
                have e24 : tm.getD 24 undef = t24 := hk 24 (by kernel_rfl)
                have e25 : tm.getD 25 undef = .bool true := hk 25 (by kernel_rfl)
                have e26 : tm.getD 26 undef = .bool !true := hk 26 (by kernel_rfl)
                have e27 : tm.getD 27 undef = .tuple #[.agg #[.int .i64 oa.fst, .slice px5 oa.snd.length cx5], .agg #[.int .i64 ob.fst, .slice py5 ob.snd.length cy5], .int .i64 oe] := hk 27 (by kernel_rfl)
                have e28 : tm.getD 28 undef = .pointer (some ⟨w.heap.size, 0, none⟩) := hk 28 (by kernel_rfl)
                have e29 : tm.getD 29 undef = t29 := hk 29 (by kernel_rfl)
                have e30 : tm.getD 30 undef = .pointer (some ⟨w.heap.size, 2, none⟩) := hk 30 (by kernel_rfl)
                have e31 : tm.getD 31 undef = t31 := hk 31 (by kernel_rfl)
                have e32 : tm.getD 32 undef = .int .i64 cat := hk 32 (by kernel_rfl)
                have e33 : tm.getD 33 undef = .tuple #[.agg #[.int .i64 oa.fst, .slice px5 oa.snd.length cx5], .agg #[.int .i64 ob.fst, .slice py5 ob.snd.length cy5], .int .i64 oe] := hk 33 (by kernel_rfl)
                have e34 : tm.getD 34 undef = .agg #[.int .i64 oa.fst, .slice px5 oa.snd.length cx5] := hk 34 (by kernel_rfl)
                have e35 : tm.getD 35 undef = .agg #[.int .i64 ob.fst, .slice py5 ob.snd.length cy5] := hk 35 (by kernel_rfl)
                have e36 : tm.getD 36 undef = .int .i64 oe := hk 36 (by kernel_rfl)
                have e37 : tm.getD 37 undef = .tuple #[.agg #[.int .i64 oa.fst, .slice px6 oa.snd.length cx6], .agg #[.int .i64 ob.fst, .slice py6 ob.snd.length cy6], .int .i64 oe] := hk 37 (by kernel_rfl)
                have e38 : tm.getD 38 undef = .pointer (some ⟨w.heap.size, 0, none⟩) := hk 38 (by kernel_rfl)
                have e39 : tm.getD 39 undef = t39 := hk 39 (by kernel_rfl)
                have e40 : tm.getD 40 undef = .pointer (some ⟨w.heap.size, 2, none⟩) := hk 40 (by kernel_rfl)
                have e41 : tm.getD 41 undef = t41 := hk 41 (by kernel_rfl)
                have e42 : tm.getD 42 undef = .int .i64 cat := hk 42 (by kernel_rfl)
                have e43 : tm.getD 43 undef = .tuple #[.agg #[.int .i64 oa.fst, .slice px6 oa.snd.length cx6], .agg #[.int .i64 ob.fst, .slice py6 ob.snd.length cy6], .int .i64 oe] := hk 43 (by kernel_rfl)
                have e44 : tm.getD 44 undef = .agg #[.int .i64 oa.fst, .slice px6 oa.snd.length cx6] := hk 44 (by kernel_rfl)
                have e45 : tm.getD 45 undef = .agg #[.int .i64 ob.fst, .slice py6 ob.snd.length cy6] := hk 45 (by kernel_rfl)
                have e46 : tm.getD 46 undef = .int .i64 oe := hk 46 (by kernel_rfl)
                have e47 : tm.getD 47 undef = .tuple #[.agg #[.int .i64 fa.fst, .slice px7 fa.snd.length cx7], .int .i64 fe] := hk 47 (by kernel_rfl)
                have e48 : tm.getD 48 undef = .pointer (some ⟨w.heap.size, 0, none⟩) := hk 48 (by kernel_rfl)
                have e49 : tm.getD 49 undef = t49 := hk 49 (by kernel_rfl)
                have e50 : tm.getD 50 undef = t50 := hk 50 (by kernel_rfl)
                have e51 : tm.getD 51 undef = .tuple #[.agg #[.int .i64 fa.fst, .slice px7 fa.snd.length cx7], .int .i64 fe] := hk 51 (by kernel_rfl)
                have e52 : tm.getD 52 undef = .agg #[.int .i64 fa.fst, .slice px7 fa.snd.length cx7] := hk 52 (by kernel_rfl)
                have e53 : tm.getD 53 undef = .int .i64 fe := hk 53 (by kernel_rfl)
                have e54 : tm.getD 54 undef = .tuple #[.agg #[.int .i64 fa.fst, .slice px8 fa.snd.length cx8], .int .i64 fe] := hk 54 (by kernel_rfl)
                have e55 : tm.getD 55 undef = .pointer (some ⟨w.heap.size, 0, none⟩) := hk 55 (by kernel_rfl)
                have e56 : tm.getD 56 undef = t56 := hk 56 (by kernel_rfl)
                have e57 : tm.getD 57 undef = t57 := hk 57 (by kernel_rfl)
                have e58 : tm.getD 58 undef = .tuple #[.agg #[.int .i64 fa.fst, .slice px8 fa.snd.length cx8], .int .i64 fe] := hk 58 (by kernel_rfl)
                have e59 : tm.getD 59 undef = .agg #[.int .i64 fa.fst, .slice px8 fa.snd.length cx8] := hk 59 (by kernel_rfl)
                have e60 : tm.getD 60 undef = .int .i64 fe := hk 60 (by kernel_rfl)
                have g61 : (tm.getD 61 undef) = .int .i64 oe := hG 0 61 (by decide) rfl
                have g62 : (tm.getD 62 undef) = .int .i64 oe := hG 1 62 (by decide) rfl
                have g63 : (tm.getD 63 undef) = .bool (oe == oe) := hG 2 63 (by decide) rfl
                have g64 : (tm.getD 64 undef) = .bool (oe == oe) := hG 3 64 (by decide) rfl
                have g65 : (oe == oe) = true → LVg oa (tm.getD 65 undef) W := hG 4 65 (by decide) rfl
                have g66 : (oe == oe) = true → LVg oa (tm.getD 66 undef) W := hG 5 66 (by decide) rfl
                have g67 : (oe == oe) = true → (tm.getD 67 undef) = .bool (sameS oa.1 oa.1 oa.2 oa.2) := hG 6 67 (by decide) rfl
                have g68 : (tm.getD 68 undef) = .bool ((oe == oe) && (sameS oa.1 oa.1 oa.2 oa.2)) := hG 7 68 (by decide) rfl
                have g69 : (tm.getD 69 undef) = .bool ((oe == oe) && (sameS oa.1 oa.1 oa.2 oa.2)) := hG 8 69 (by decide) rfl
                have g70 : ((oe == oe) && (sameS oa.1 oa.1 oa.2 oa.2)) = true → LVg ob (tm.getD 70 undef) W := hG 9 70 (by decide) rfl
                have g71 : ((oe == oe) && (sameS oa.1 oa.1 oa.2 oa.2)) = true → LVg ob (tm.getD 71 undef) W := hG 10 71 (by decide) rfl
                have g72 : ((oe == oe) && (sameS oa.1 oa.1 oa.2 oa.2)) = true → (tm.getD 72 undef) = .bool (sameS ob.1 ob.1 ob.2 ob.2) := hG 11 72 (by decide) rfl
                have g73 : (tm.getD 73 undef) = .bool (((oe == oe) && (sameS oa.1 oa.1 oa.2 oa.2)) && (sameS ob.1 ob.1 ob.2 ob.2)) := hG 12 73 (by decide) rfl
                have g74 : (tm.getD 74 undef) = .bool (((oe == oe) && (sameS oa.1 oa.1 oa.2 oa.2)) && (sameS ob.1 ob.1 ob.2 ob.2)) := hG 13 74 (by decide) rfl
                have g75 : (((oe == oe) && (sameS oa.1 oa.1 oa.2 oa.2)) && (sameS ob.1 ob.1 ob.2 ob.2)) = true → (tm.getD 75 undef) = .int .i64 fe := hG 14 75 (by decide) rfl
                have g76 : (((oe == oe) && (sameS oa.1 oa.1 oa.2 oa.2)) && (sameS ob.1 ob.1 ob.2 ob.2)) = true → (tm.getD 76 undef) = .int .i64 fe := hG 15 76 (by decide) rfl
                have g77 : (((oe == oe) && (sameS oa.1 oa.1 oa.2 oa.2)) && (sameS ob.1 ob.1 ob.2 ob.2)) = true → (tm.getD 77 undef) = .bool (fe == fe) := hG 16 77 (by decide) rfl
                have g78 : (tm.getD 78 undef) = .bool ((((oe == oe) && (sameS oa.1 oa.1 oa.2 oa.2)) && (sameS ob.1 ob.1 ob.2 ob.2)) && (fe == fe)) := hG 17 78 (by decide) rfl
                have g79 : (tm.getD 79 undef) = .bool ((((oe == oe) && (sameS oa.1 oa.1 oa.2 oa.2)) && (sameS ob.1 ob.1 ob.2 ob.2)) && (fe == fe)) := hG 18 79 (by decide) rfl
                have g80 : ((((oe == oe) && (sameS oa.1 oa.1 oa.2 oa.2)) && (sameS ob.1 ob.1 ob.2 ob.2)) && (fe == fe)) = true → LVg fa (tm.getD 80 undef) W := hG 19 80 (by decide) rfl
                have g81 : ((((oe == oe) && (sameS oa.1 oa.1 oa.2 oa.2)) && (sameS ob.1 ob.1 ob.2 ob.2)) && (fe == fe)) = true → LVg fa (tm.getD 81 undef) W := hG 20 81 (by decide) rfl
                have g82 : ((((oe == oe) && (sameS oa.1 oa.1 oa.2 oa.2)) && (sameS ob.1 ob.1 ob.2 ob.2)) && (fe == fe)) = true → (tm.getD 82 undef) = .bool (sameS fa.1 fa.1 fa.2 fa.2) := hG 21 82 (by decide) rfl
                have g83 : (tm.getD 83 undef) = .bool (((((oe == oe) && (sameS oa.1 oa.1 oa.2 oa.2)) && (sameS ob.1 ob.1 ob.2 ob.2)) && (fe == fe)) && (sameS fa.1 fa.1 fa.2 fa.2)) := hG 22 83 (by decide) rfl
                have htm := arr_of tm ((.agg #[.int .i64 t.fst, .slice pt t.snd.length ct, .int .i64 tc.fst, .slice ptc tc.snd.length ctc] : Value) :: (.agg #[.int .i64 g.fst, .slice pg g.snd.length cg] : Value) :: (.int .i64 cat : Value) :: (.pointer (some ⟨w.heap.size, 0, none⟩) : Value) :: (.pointer (some ⟨w.heap.size + 1, 0, none⟩) : Value) :: (undef : Value) :: (.bool false : Value) :: (.pointer (some ⟨n5, 0, none⟩) : Value) :: (.pointer (some ⟨n5 + 1, 0, none⟩) : Value) :: (.int .i64 oe : Value) :: (.pointer (some ⟨n6, 0, none⟩) : Value) :: (.pointer (some ⟨n6 + 1, 0, none⟩) : Value) :: (.int .i64 oe : Value) :: (.pointer (some ⟨n7, 0, none⟩) : Value) :: (.int .i64 fe : Value) :: (.pointer (some ⟨n8, 0, none⟩) : Value) :: (.int .i64 fe : Value) :: (.bool true : Value) :: (.bool false : Value) :: (.pointer (some ⟨w.heap.size, 0, none⟩) : Value) :: (t20 : Value) :: (.pointer (some ⟨w.heap.size, 2, none⟩) : Value) :: (t22 : Value) :: (t23 : Value) :: (t24 : Value) :: (.bool true : Value) :: (.bool !true : Value) :: (.tuple #[.agg #[.int .i64 oa.fst, .slice px5 oa.snd.length cx5], .agg #[.int .i64 ob.fst, .slice py5 ob.snd.length cy5], .int .i64 oe] : Value) :: (.pointer (some ⟨w.heap.size, 0, none⟩) : Value) :: (t29 : Value) :: (.pointer (some ⟨w.heap.size, 2, none⟩) : Value) :: (t31 : Value) :: (.int .i64 cat : Value) :: (.tuple #[.agg #[.int .i64 oa.fst, .slice px5 oa.snd.length cx5], .agg #[.int .i64 ob.fst, .slice py5 ob.snd.length cy5], .int .i64 oe] : Value) :: (.agg #[.int .i64 oa.fst, .slice px5 oa.snd.length cx5] : Value) :: (.agg #[.int .i64 ob.fst, .slice py5 ob.snd.length cy5] : Value) :: (.int .i64 oe : Value) :: (.tuple #[.agg #[.int .i64 oa.fst, .slice px6 oa.snd.length cx6], .agg #[.int .i64 ob.fst, .slice py6 ob.snd.length cy6], .int .i64 oe] : Value) :: (.pointer (some ⟨w.heap.size, 0, none⟩) : Value) :: (t39 : Value) :: (.pointer (some ⟨w.heap.size, 2, none⟩) : Value) :: (t41 : Value) :: (.int .i64 cat : Value) :: (.tuple #[.agg #[.int .i64 oa.fst, .slice px6 oa.snd.length cx6], .agg #[.int .i64 ob.fst, .slice py6 ob.snd.length cy6], .int .i64 oe] : Value) :: (.agg #[.int .i64 oa.fst, .slice px6 oa.snd.length cx6] : Value) :: (.agg #[.int .i64 ob.fst, .slice py6 ob.snd.length cy6] : Value) :: (.int .i64 oe : Value) :: (.tuple #[.agg #[.int .i64 fa.fst, .slice px7 fa.snd.length cx7], .int .i64 fe] : Value) :: (.pointer (some ⟨w.heap.size, 0, none⟩) : Value) :: (t49 : Value) :: (t50 : Value) :: (.tuple #[.agg #[.int .i64 fa.fst, .slice px7 fa.snd.length cx7], .int .i64 fe] : Value) :: (.agg #[.int .i64 fa.fst, .slice px7 fa.snd.length cx7] : Value) :: (.int .i64 fe : Value) :: (.tuple #[.agg #[.int .i64 fa.fst, .slice px8 fa.snd.length cx8], .int .i64 fe] : Value) :: (.pointer (some ⟨w.heap.size, 0, none⟩) : Value) :: (t56 : Value) :: (t57 : Value) :: (.tuple #[.agg #[.int .i64 fa.fst, .slice px8 fa.snd.length cx8], .int .i64 fe] : Value) :: (.agg #[.int .i64 fa.fst, .slice px8 fa.snd.length cx8] : Value) :: (.int .i64 fe : Value) :: (tm.getD 61 undef : Value) :: (tm.getD 62 undef : Value) :: (tm.getD 63 undef : Value) :: (tm.getD 64 undef : Value) :: (tm.getD 65 undef : Value) :: (tm.getD 66 undef : Value) :: (tm.getD 67 undef : Value) :: (tm.getD 68 undef : Value) :: (tm.getD 69 undef : Value) :: (tm.getD 70 undef : Value) :: (tm.getD 71 undef : Value) :: (tm.getD 72 undef : Value) :: (tm.getD 73 undef : Value) :: (tm.getD 74 undef : Value) :: (tm.getD 75 undef : Value) :: (tm.getD 76 undef : Value) :: (tm.getD 77 undef : Value) :: (tm.getD 78 undef : Value) :: (tm.getD 79 undef : Value) :: (tm.getD 80 undef : Value) :: (tm.getD 81 undef : Value) :: (tm.getD 82 undef : Value) :: (tm.getD 83 undef : Value) :: []) hs (by show (tm.getD 0 undef :: tm.getD 1 undef :: tm.getD 2 undef :: tm.getD 3 undef :: tm.getD 4 undef :: tm.getD 5 undef :: tm.getD 6 undef :: tm.getD 7 undef :: tm.getD 8 undef :: tm.getD 9 undef :: tm.getD 10 undef :: tm.getD 11 undef :: tm.getD 12 undef :: tm.getD 13 undef :: tm.getD 14 undef :: tm.getD 15 undef :: tm.getD 16 undef :: tm.getD 17 undef :: tm.getD 18 undef :: tm.getD 19 undef :: tm.getD 20 undef :: tm.getD 21 undef :: tm.getD 22 undef :: tm.getD 23 undef :: tm.getD 24 undef :: tm.getD 25 undef :: tm.getD 26 undef :: tm.getD 27 undef :: tm.getD 28 undef :: tm.getD 29 undef :: tm.getD 30 undef :: tm.getD 31 undef :: tm.getD 32 undef :: tm.getD 33 undef :: tm.getD 34 undef :: tm.getD 35 undef :: tm.getD 36 undef :: tm.getD 37 undef :: tm.getD 38 undef :: tm.getD 39 undef :: tm.getD 40 undef :: tm.getD 41 undef :: tm.getD 42 undef :: tm.getD 43 undef :: tm.getD 44 undef :: tm.getD 45 undef :: tm.getD 46 undef :: tm.getD 47 undef :: tm.getD 48 undef :: tm.getD 49 undef :: tm.getD 50 undef :: tm.getD 51 undef :: tm.getD 52 undef :: tm.getD 53 undef :: tm.getD 54 undef :: tm.getD 55 undef :: tm.getD 56 undef :: tm.getD 57 undef :: tm.getD 58 undef :: tm.getD 59 undef :: tm.getD 60 undef :: tm.getD 61 undef :: tm.getD 62 undef :: tm.getD 63 undef :: tm.getD 64 undef :: tm.getD 65 undef :: tm.getD 66 undef :: tm.getD 67 undef :: tm.getD 68 undef :: tm.getD 69 undef :: tm.getD 70 undef :: tm.getD 71 undef :: tm.getD 72 undef :: tm.getD 73 undef :: tm.getD 74 undef :: tm.getD 75 undef :: tm.getD 76 undef :: tm.getD 77 undef :: tm.getD 78 undef :: tm.getD 79 undef :: tm.getD 80 undef :: tm.getD 81 undef :: tm.getD 82 undef :: tm.getD 83 undef :: []) = _; rw [e0, e1, e2, e3, e4, e5, e6, e7, e8, e9, e10, e11, e12, e13, e14, e15, e16, e17, e18, e19, e20, e21, e22, e23, e24, e25, e26, e27, e28, e29, e30, e31, e32, e33, e34, e35, e36, e37, e38, e39, e40, e41, e42, e43, e44, e45, e46, e47, e48, e49, e50, e51, e52, e53, e54, e55, e56, e57, e58, e59, e60]; try rfl)
                clear hs hk hG e0 e1 e2 e3 e4 e5 e6 e7 e8 e9 e10 e11 e12 e13 e14 e15 e16 e17 e18 e19 e20 e21 e22 e23 e24 e25 e26 e27 e28 e29 e30 e31 e32 e33 e34 e35 e36 e37 e38 e39 e40 e41 e42 e43 e44 e45 e46 e47 e48 e49 e50 e51 e52 e53 e54 e55 e56 e57 e58 e59 e60
                generalize tm.getD 61 undef = t61 at htm g61
                generalize tm.getD 62 undef = t62 at htm g62
                generalize tm.getD 63 undef = t63 at htm g63
                generalize tm.getD 64 undef = t64 at htm g64
                generalize tm.getD 65 undef = t65 at htm g65
                generalize tm.getD 66 undef = t66 at htm g66
                generalize tm.getD 67 undef = t67 at htm g67
                generalize tm.getD 68 undef = t68 at htm g68
                generalize tm.getD 69 undef = t69 at htm g69
                generalize tm.getD 70 undef = t70 at htm g70
                generalize tm.getD 71 undef = t71 at htm g71
                generalize tm.getD 72 undef = t72 at htm g72
                generalize tm.getD 73 undef = t73 at htm g73
                generalize tm.getD 74 undef = t74 at htm g74
                generalize tm.getD 75 undef = t75 at htm g75
                generalize tm.getD 76 undef = t76 at htm g76
                generalize tm.getD 77 undef = t77 at htm g77
                generalize tm.getD 78 undef = t78 at htm g78
                generalize tm.getD 79 undef = t79 at htm g79
                generalize tm.getD 80 undef = t80 at htm g80
                generalize tm.getD 81 undef = t81 at htm g81
                generalize tm.getD 82 undef = t82 at htm g82
                generalize tm.getD 83 undef = t83 at htm g83
                subst htm
                subst g61
                subst g62
                subst g63
                subst g64
                subst g68
                subst g69
                subst g73
                subst g74
                subst g78
                subst g79
                subst g83
                simp only [List.drop_succ_cons, List.drop_zero]
                have HB : Hid (Below w.heap.size w W) := hA6.trans (hB.mono hA6.size)
                have HV : Hid ((((((oe == oe) && (sameS oa.1 oa.1 oa.2 oa.2)) && (sameS ob.1 ob.1 ob.2 ob.2)) && (fe == fe)) && (sameS fa.1 fa.1 fa.2 fa.2)) = true) := by
                  show (((((oe == oe) && (sameS oa.1 oa.1 oa.2 oa.2)) && (sameS ob.1 ob.1 ob.2 ob.2)) && (fe == fe)) && (sameS fa.1 fa.1 fa.2 fa.2)) = true
                  rw [same_self, same_self, same_self]; simp
                go_wp2
                go_ret
                exact ⟨by rw [← HV.out]; rfl, HB.out⟩
end Go.Proofs.Ytnjmgholoigpkaa
