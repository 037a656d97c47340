/- What Make, Lend, Rise and Clear of package passage answer. -/
import Derived.Test.YtnjmgholoigpkaaAtM
namespace Go.Proofs.Ytnjmgholoigpkaa
open Go.RowKit Go.Sort
theorem ent_label_Alters : Enters 32 := fun args W => by go_simp
theorem ent_passage_atMost : Enters 33 := fun args W => by go_simp
theorem ent_passage_allow : Enters 31 := fun args W => by go_simp
def makeI (t c box l : ML) : Int := allowI [altersS t.1 box.1 t.2 box.2, atMB t [l], atMB l [c], atMB box [upM l, ((2, []) : ML)]]
set_option maxRecDepth 100000 in
set_option maxHeartbeats 1000000 in
theorem Make_c {t c box l : ML} {vt vc vbox vl : Value} {w : World} (ht : LV t vt w) (hc : LV c vc w) (hbox : LV box vbox w) (hl : LV l vl w) :
    Calls Try.prog 11 #[vt, vc, vbox, vl] w fun e w' => ∃ v', e = .returned v' ∧ Below w.heap.size w w' ∧ v' = .int .i64 (makeI t c box l) := by
  obtain ⟨pt, ct, rfl, ht1, ht2, ht3⟩ := id ht
  obtain ⟨pc, cc, rfl, hc1, hc2, hc3⟩ := id hc
  obtain ⟨pbox, cbox, rfl, hbox1, hbox2, hbox3⟩ := id hbox
  obtain ⟨pl, cl, rfl, hl1, hl2, hl3⟩ := id hl
  have hA : Below w.heap.size w ((((w.alloc (.cells #[.int .i64 t.1, .slice pt t.2.length ct] 24)).alloc (.cells #[.int .i64 c.1, .slice pc c.2.length cc] 24)).alloc (.cells #[.int .i64 box.1, .slice pbox box.2.length cbox] 24)).alloc (.cells #[.int .i64 l.1, .slice pl l.2.length cl] 24)) := by go_grown
  have hbt : LBox t ((((w.alloc (.cells #[.int .i64 t.1, .slice pt t.2.length ct] 24)).alloc (.cells #[.int .i64 c.1, .slice pc c.2.length cc] 24)).alloc (.cells #[.int .i64 box.1, .slice pbox box.2.length cbox] 24)).alloc (.cells #[.int .i64 l.1, .slice pl l.2.length cl] 24)) w.heap.size 0 := ⟨pt, ct, by simp <;> omega, by simp [go_sem], by simp [go_sem], ht1.below hA, ht2, ht3⟩
  have hbc : LBox c ((((w.alloc (.cells #[.int .i64 t.1, .slice pt t.2.length ct] 24)).alloc (.cells #[.int .i64 c.1, .slice pc c.2.length cc] 24)).alloc (.cells #[.int .i64 box.1, .slice pbox box.2.length cbox] 24)).alloc (.cells #[.int .i64 l.1, .slice pl l.2.length cl] 24)) (w.heap.size + 1) 0 := ⟨pc, cc, by simp <;> omega, by simp [go_sem], by simp [go_sem], hc1.below hA, hc2, hc3⟩
  have hbbox : LBox box ((((w.alloc (.cells #[.int .i64 t.1, .slice pt t.2.length ct] 24)).alloc (.cells #[.int .i64 c.1, .slice pc c.2.length cc] 24)).alloc (.cells #[.int .i64 box.1, .slice pbox box.2.length cbox] 24)).alloc (.cells #[.int .i64 l.1, .slice pl l.2.length cl] 24)) (w.heap.size + 1 + 1) 0 := ⟨pbox, cbox, by simp <;> omega, by simp [go_sem], by simp [go_sem], hbox1.below hA, hbox2, hbox3⟩
  have hbl : LBox l ((((w.alloc (.cells #[.int .i64 t.1, .slice pt t.2.length ct] 24)).alloc (.cells #[.int .i64 c.1, .slice pc c.2.length cc] 24)).alloc (.cells #[.int .i64 box.1, .slice pbox box.2.length cbox] 24)).alloc (.cells #[.int .i64 l.1, .slice pl l.2.length cl] 24)) (w.heap.size + 1 + 1 + 1) 0 := ⟨pl, cl, by simp <;> omega, by simp [go_sem], by simp [go_sem], hl1.below hA, hl2, hl3⟩
  go_enter Try.func11, Try.ntmps11
  go_wp2_with fail
  refine wp_region_mono 19 (fun k v W => match k with | 9 => LV t v W | 10 => LV box v W | 11 => v = .bool (altersS t.1 box.1 t.2 box.2) | 12 => LV t v W | 13 => LV l v W | 14 => LsV [l] v W | 15 => v = .bool (atMB t [l]) | 16 => LV l v W | 17 => LV c v W | 18 => LsV [c] v W | 19 => v = .bool (atMB l [c]) | 20 => LV box v W | 21 => LV l v W | 22 => LV (upM l) v W | 23 => LV ((2, []) : ML) v W | 24 => LsV [(upM l), ((2, []) : ML)] v W | 25 => v = .bool (atMB box [(upM l), ((2, []) : ML)]) | 26 => BsV [(altersS t.1 box.1 t.2 box.2), (atMB t [l]), (atMB l [c]), (atMB box [(upM l), ((2, []) : ML)])] v W | 27 => v = .int .i64 (allowI [(altersS t.1 box.1 t.2 box.2), (atMB t [l]), (atMB l [c]), (atMB box [(upM l), ((2, []) : ML)])]) | _ => True) (by kernel_rfl) (by kernel_rfl) (by kernel_rfl) (by kernel_rfl) (by simp) (by kernel_rfl) ?_ ?_ ?_
  · intro k v W W' h hb
    revert h
    try dsimp only
    split
    · intro h; exact LV.below h hb
    · intro h; exact LV.below h hb
    · intro h; exact h
    · intro h; exact LV.below h hb
    · intro h; exact LV.below h hb
    · intro h; exact LsV.below h hb
    · intro h; exact h
    · intro h; exact LV.below h hb
    · intro h; exact LV.below h hb
    · intro h; exact LsV.below h hb
    · intro h; exact h
    · intro h; exact LV.below h hb
    · intro h; exact LV.below h hb
    · intro h; exact LV.below h hb
    · intro h; exact LV.below h hb
    · intro h; exact LsV.below h hb
    · intro h; exact h
    · intro h; exact BsV.below h hb
    · intro h; exact h
    · intro h; trivial
  · intro a' W hB hs hk i o d ho hd hG
    match i, ho with
    | 0, ho =>
      obtain rfl : _ = o := Option.some.inj ho
      obtain rfl : 9 = d := Option.some.inj hd
      obtain ⟨v, hr, hv⟩ := run_loadL (ev := a'.eval) (W := W) (hk 4 (by kernel_rfl)) (hbt.below hB)
      exact .inr ⟨rfl, .inl ⟨v, W, hr, Below.refl _ _, hv⟩⟩
    | 1, ho =>
      obtain rfl : _ = o := Option.some.inj ho
      obtain rfl : 10 = d := Option.some.inj hd
      obtain ⟨v, hr, hv⟩ := run_loadL (ev := a'.eval) (W := W) (hk 6 (by kernel_rfl)) (hbbox.below hB)
      exact .inr ⟨rfl, .inl ⟨v, W, hr, Below.refl _ _, hv⟩⟩
    | 2, ho =>
      obtain rfl : _ = o := Option.some.inj ho
      obtain rfl : 11 = d := Option.some.inj hd
      have g9 : LV t (a'.eval (.tmp 9)) W := hG ⟨0, .data⟩ (by simp) rfl 9 rfl
      have g10 : LV box (a'.eval (.tmp 10)) W := hG ⟨1, .data⟩ (by simp) rfl 10 rfl
      exact .inr ⟨rfl, .inr ⟨_, _, run_call rfl map_2 ent_label_Alters, Alters_c g9 g10⟩⟩
    | 3, ho =>
      obtain rfl : _ = o := Option.some.inj ho
      obtain rfl : 12 = d := Option.some.inj hd
      obtain ⟨v, hr, hv⟩ := run_loadL (ev := a'.eval) (W := W) (hk 4 (by kernel_rfl)) (hbt.below hB)
      exact .inr ⟨rfl, .inl ⟨v, W, hr, Below.refl _ _, hv⟩⟩
    | 4, ho =>
      obtain rfl : _ = o := Option.some.inj ho
      obtain rfl : 13 = d := Option.some.inj hd
      obtain ⟨v, hr, hv⟩ := run_loadL (ev := a'.eval) (W := W) (hk 7 (by kernel_rfl)) (hbl.below hB)
      exact .inr ⟨rfl, .inl ⟨v, W, hr, Below.refl _ _, hv⟩⟩
    | 5, ho =>
      obtain rfl : _ = o := Option.some.inj ho
      obtain rfl : 14 = d := Option.some.inj hd
      have g13 : LV l (a'.eval (.tmp 13)) W := hG ⟨4, .data⟩ (by simp) rfl 13 rfl
      obtain ⟨v, W', hr, hb, hv⟩ := run_slice1 (ev := a'.eval) (W := W) rfl g13
      exact .inr ⟨rfl, .inl ⟨v, W', hr, hb, hv⟩⟩
    | 6, ho =>
      obtain rfl : _ = o := Option.some.inj ho
      obtain rfl : 15 = d := Option.some.inj hd
      have g12 : LV t (a'.eval (.tmp 12)) W := hG ⟨3, .data⟩ (by simp) rfl 12 rfl
      have g14 : LsV [l] (a'.eval (.tmp 14)) W := hG ⟨5, .data⟩ (by simp) rfl 14 rfl
      exact .inr ⟨rfl, .inr ⟨_, _, run_call rfl map_2 ent_passage_atMost, atMost_c g12 g14 (by simp)⟩⟩
    | 7, ho =>
      obtain rfl : _ = o := Option.some.inj ho
      obtain rfl : 16 = d := Option.some.inj hd
      obtain ⟨v, hr, hv⟩ := run_loadL (ev := a'.eval) (W := W) (hk 7 (by kernel_rfl)) (hbl.below hB)
      exact .inr ⟨rfl, .inl ⟨v, W, hr, Below.refl _ _, hv⟩⟩
    | 8, ho =>
      obtain rfl : _ = o := Option.some.inj ho
      obtain rfl : 17 = d := Option.some.inj hd
      obtain ⟨v, hr, hv⟩ := run_loadL (ev := a'.eval) (W := W) (hk 5 (by kernel_rfl)) (hbc.below hB)
      exact .inr ⟨rfl, .inl ⟨v, W, hr, Below.refl _ _, hv⟩⟩
    | 9, ho =>
      obtain rfl : _ = o := Option.some.inj ho
      obtain rfl : 18 = d := Option.some.inj hd
      have g17 : LV c (a'.eval (.tmp 17)) W := hG ⟨8, .data⟩ (by simp) rfl 17 rfl
      obtain ⟨v, W', hr, hb, hv⟩ := run_slice1 (ev := a'.eval) (W := W) rfl g17
      exact .inr ⟨rfl, .inl ⟨v, W', hr, hb, hv⟩⟩
    | 10, ho =>
      obtain rfl : _ = o := Option.some.inj ho
      obtain rfl : 19 = d := Option.some.inj hd
      have g16 : LV l (a'.eval (.tmp 16)) W := hG ⟨7, .data⟩ (by simp) rfl 16 rfl
      have g18 : LsV [c] (a'.eval (.tmp 18)) W := hG ⟨9, .data⟩ (by simp) rfl 18 rfl
      exact .inr ⟨rfl, .inr ⟨_, _, run_call rfl map_2 ent_passage_atMost, atMost_c g16 g18 (by simp)⟩⟩
    | 11, ho =>
      obtain rfl : _ = o := Option.some.inj ho
      obtain rfl : 20 = d := Option.some.inj hd
      obtain ⟨v, hr, hv⟩ := run_loadL (ev := a'.eval) (W := W) (hk 6 (by kernel_rfl)) (hbbox.below hB)
      exact .inr ⟨rfl, .inl ⟨v, W, hr, Below.refl _ _, hv⟩⟩
    | 12, ho =>
      obtain rfl : _ = o := Option.some.inj ho
      obtain rfl : 21 = d := Option.some.inj hd
      obtain ⟨v, hr, hv⟩ := run_loadL (ev := a'.eval) (W := W) (hk 7 (by kernel_rfl)) (hbl.below hB)
      exact .inr ⟨rfl, .inl ⟨v, W, hr, Below.refl _ _, hv⟩⟩
    | 13, ho =>
      obtain rfl : _ = o := Option.some.inj ho
      obtain rfl : 22 = d := Option.some.inj hd
      have g21 : LV l (a'.eval (.tmp 21)) W := hG ⟨12, .data⟩ (by simp) rfl 21 rfl
      exact .inr ⟨rfl, .inr ⟨_, _, run_call rfl map_1 ent_label_Up, Up_c g21⟩⟩
    | 14, ho =>
      obtain rfl : _ = o := Option.some.inj ho
      obtain rfl : 23 = d := Option.some.inj hd
      exact .inr ⟨rfl, .inl ⟨_, W, run_build _ 2 rfl, Below.refl _ _, lv_nil 2 W⟩⟩
    | 15, ho =>
      obtain rfl : _ = o := Option.some.inj ho
      obtain rfl : 24 = d := Option.some.inj hd
      have g22 : LV (upM l) (a'.eval (.tmp 22)) W := hG ⟨13, .data⟩ (by simp) rfl 22 rfl
      have g23 : LV ((2, []) : ML) (a'.eval (.tmp 23)) W := hG ⟨14, .data⟩ (by simp) rfl 23 rfl
      obtain ⟨v, W', hr, hb, hv⟩ := run_slice2 (ev := a'.eval) (W := W) rfl rfl g22 g23
      exact .inr ⟨rfl, .inl ⟨v, W', hr, hb, hv⟩⟩
    | 16, ho =>
      obtain rfl : _ = o := Option.some.inj ho
      obtain rfl : 25 = d := Option.some.inj hd
      have g20 : LV box (a'.eval (.tmp 20)) W := hG ⟨11, .data⟩ (by simp) rfl 20 rfl
      have g24 : LsV [(upM l), ((2, []) : ML)] (a'.eval (.tmp 24)) W := hG ⟨15, .data⟩ (by simp) rfl 24 rfl
      exact .inr ⟨rfl, .inr ⟨_, _, run_call rfl map_2 ent_passage_atMost, atMost_c g20 g24 (by simp)⟩⟩
    | 17, ho =>
      obtain rfl : _ = o := Option.some.inj ho
      obtain rfl : 26 = d := Option.some.inj hd
      have g11 : (a'.eval (.tmp 11)) = .bool (altersS t.1 box.1 t.2 box.2) := hG ⟨2, .data⟩ (by simp) rfl 11 rfl
      have g15 : (a'.eval (.tmp 15)) = .bool (atMB t [l]) := hG ⟨6, .data⟩ (by simp) rfl 15 rfl
      have g19 : (a'.eval (.tmp 19)) = .bool (atMB l [c]) := hG ⟨10, .data⟩ (by simp) rfl 19 rfl
      have g25 : (a'.eval (.tmp 25)) = .bool (atMB box [(upM l), ((2, []) : ML)]) := hG ⟨16, .data⟩ (by simp) rfl 25 rfl
      obtain ⟨v, W', hr, hb, hv⟩ := run_bools4 (ev := a'.eval) (W := W) g11 g15 g19 g25
      exact .inr ⟨rfl, .inl ⟨v, W', hr, hb, hv⟩⟩
    | 18, ho =>
      obtain rfl : _ = o := Option.some.inj ho
      obtain rfl : 27 = d := Option.some.inj hd
      have g26 : BsV [(altersS t.1 box.1 t.2 box.2), (atMB t [l]), (atMB l [c]), (atMB box [(upM l), ((2, []) : ML)])] (a'.eval (.tmp 26)) W := hG ⟨17, .data⟩ (by simp) rfl 26 rfl
      exact .inr ⟨rfl, .inr ⟨_, _, run_call rfl map_1 ent_passage_allow, allow_c g26 (by simp)⟩⟩
    | j + 19, ho => simp at ho
  · intro a' W hB hs hdf hk hG
    obtain ⟨tm, df⟩ := a'
    obtain rfl : df = [] := hdf
    have e0 : tm.getD 0 undef = .agg #[.int .i64 t.fst, .slice pt t.snd.length ct] := hk 0 (by kernel_rfl)
    have e1 : tm.getD 1 undef = .agg #[.int .i64 c.fst, .slice pc c.snd.length cc] := hk 1 (by kernel_rfl)
    have e2 : tm.getD 2 undef = .agg #[.int .i64 box.fst, .slice pbox box.snd.length cbox] := hk 2 (by kernel_rfl)
    have e3 : tm.getD 3 undef = .agg #[.int .i64 l.fst, .slice pl l.snd.length cl] := hk 3 (by kernel_rfl)
    have e4 : tm.getD 4 undef = .pointer (some ⟨w.heap.size, 0, none⟩) := hk 4 (by kernel_rfl)
    have e5 : tm.getD 5 undef = .pointer (some ⟨w.heap.size + 1, 0, none⟩) := hk 5 (by kernel_rfl)
    have e6 : tm.getD 6 undef = .pointer (some ⟨w.heap.size + 1 + 1, 0, none⟩) := hk 6 (by kernel_rfl)
    have e7 : tm.getD 7 undef = .pointer (some ⟨w.heap.size + 1 + 1 + 1, 0, none⟩) := hk 7 (by kernel_rfl)
    have e8 : tm.getD 8 undef = .int .i64 0 := hk 8 (by kernel_rfl)
    have g9 : LV t (tm.getD 9 undef) W := hG 0 9 (by decide) rfl
    have g10 : LV box (tm.getD 10 undef) W := hG 1 10 (by decide) rfl
    have g11 : (tm.getD 11 undef) = .bool (altersS t.1 box.1 t.2 box.2) := hG 2 11 (by decide) rfl
    have g12 : LV t (tm.getD 12 undef) W := hG 3 12 (by decide) rfl
    have g13 : LV l (tm.getD 13 undef) W := hG 4 13 (by decide) rfl
    have g14 : LsV [l] (tm.getD 14 undef) W := hG 5 14 (by decide) rfl
    have g15 : (tm.getD 15 undef) = .bool (atMB t [l]) := hG 6 15 (by decide) rfl
    have g16 : LV l (tm.getD 16 undef) W := hG 7 16 (by decide) rfl
    have g17 : LV c (tm.getD 17 undef) W := hG 8 17 (by decide) rfl
    have g18 : LsV [c] (tm.getD 18 undef) W := hG 9 18 (by decide) rfl
    have g19 : (tm.getD 19 undef) = .bool (atMB l [c]) := hG 10 19 (by decide) rfl
    have g20 : LV box (tm.getD 20 undef) W := hG 11 20 (by decide) rfl
    have g21 : LV l (tm.getD 21 undef) W := hG 12 21 (by decide) rfl
    have g22 : LV (upM l) (tm.getD 22 undef) W := hG 13 22 (by decide) rfl
    have g23 : LV ((2, []) : ML) (tm.getD 23 undef) W := hG 14 23 (by decide) rfl
    have g24 : LsV [(upM l), ((2, []) : ML)] (tm.getD 24 undef) W := hG 15 24 (by decide) rfl
    have g25 : (tm.getD 25 undef) = .bool (atMB box [(upM l), ((2, []) : ML)]) := hG 16 25 (by decide) rfl
    have g26 : BsV [(altersS t.1 box.1 t.2 box.2), (atMB t [l]), (atMB l [c]), (atMB box [(upM l), ((2, []) : ML)])] (tm.getD 26 undef) W := hG 17 26 (by decide) rfl
    have g27 : (tm.getD 27 undef) = .int .i64 (allowI [(altersS t.1 box.1 t.2 box.2), (atMB t [l]), (atMB l [c]), (atMB box [(upM l), ((2, []) : ML)])]) := hG 18 27 (by decide) rfl
    have htm := arr_of tm [.agg #[.int .i64 t.fst, .slice pt t.snd.length ct], .agg #[.int .i64 c.fst, .slice pc c.snd.length cc], .agg #[.int .i64 box.fst, .slice pbox box.snd.length cbox], .agg #[.int .i64 l.fst, .slice pl l.snd.length cl], .pointer (some ⟨w.heap.size, 0, none⟩), .pointer (some ⟨w.heap.size + 1, 0, none⟩), .pointer (some ⟨w.heap.size + 1 + 1, 0, none⟩), .pointer (some ⟨w.heap.size + 1 + 1 + 1, 0, none⟩), .int .i64 0, tm.getD 9 undef, tm.getD 10 undef, tm.getD 11 undef, tm.getD 12 undef, tm.getD 13 undef, tm.getD 14 undef, tm.getD 15 undef, tm.getD 16 undef, tm.getD 17 undef, tm.getD 18 undef, tm.getD 19 undef, tm.getD 20 undef, tm.getD 21 undef, tm.getD 22 undef, tm.getD 23 undef, tm.getD 24 undef, tm.getD 25 undef, tm.getD 26 undef, tm.getD 27 undef] hs (by show [tm.getD 0 undef, tm.getD 1 undef, tm.getD 2 undef, tm.getD 3 undef, tm.getD 4 undef, tm.getD 5 undef, tm.getD 6 undef, tm.getD 7 undef, tm.getD 8 undef, tm.getD 9 undef, tm.getD 10 undef, tm.getD 11 undef, tm.getD 12 undef, tm.getD 13 undef, tm.getD 14 undef, tm.getD 15 undef, tm.getD 16 undef, tm.getD 17 undef, tm.getD 18 undef, tm.getD 19 undef, tm.getD 20 undef, tm.getD 21 undef, tm.getD 22 undef, tm.getD 23 undef, tm.getD 24 undef, tm.getD 25 undef, tm.getD 26 undef, tm.getD 27 undef] = _; rw [e0, e1, e2, e3, e4, e5, e6, e7, e8])
    clear hs hk hG e0 e1 e2 e3 e4 e5 e6 e7 e8
    generalize tm.getD 9 undef = t9 at htm g9
    generalize tm.getD 10 undef = t10 at htm g10
    generalize tm.getD 11 undef = t11 at htm g11
    generalize tm.getD 12 undef = t12 at htm g12
    generalize tm.getD 13 undef = t13 at htm g13
    generalize tm.getD 14 undef = t14 at htm g14
    generalize tm.getD 15 undef = t15 at htm g15
    generalize tm.getD 16 undef = t16 at htm g16
    generalize tm.getD 17 undef = t17 at htm g17
    generalize tm.getD 18 undef = t18 at htm g18
    generalize tm.getD 19 undef = t19 at htm g19
    generalize tm.getD 20 undef = t20 at htm g20
    generalize tm.getD 21 undef = t21 at htm g21
    generalize tm.getD 22 undef = t22 at htm g22
    generalize tm.getD 23 undef = t23 at htm g23
    generalize tm.getD 24 undef = t24 at htm g24
    generalize tm.getD 25 undef = t25 at htm g25
    generalize tm.getD 26 undef = t26 at htm g26
    generalize tm.getD 27 undef = t27 at htm g27
    subst htm
    subst g11
    subst g15
    subst g19
    subst g25
    subst g27
    simp only [List.drop_succ_cons, List.drop_zero]
    go_wp2
    go_ret
    exact ⟨_, rfl, hA.trans (hB.mono hA.size), rfl⟩
def riseI (t c want : ML) : Int := if plainS want.1 want.2 = true then allowI [atMB t [want], atMB want [c]] else 1
set_option maxRecDepth 100000 in
set_option maxHeartbeats 1000000 in
theorem Rise_c {t c want : ML} {vt vc vwant : Value} {w : World} (ht : LV t vt w) (hc : LV c vc w) (hwant : LV want vwant w) :
    Calls Try.prog 15 #[vt, vc, vwant] w fun e w' => ∃ v', e = .returned v' ∧ Below w.heap.size w w' ∧ v' = .int .i64 (riseI t c want) := by
  obtain ⟨pt, ct, rfl, ht1, ht2, ht3⟩ := id ht
  obtain ⟨pc, cc, rfl, hc1, hc2, hc3⟩ := id hc
  obtain ⟨pwant, cwant, rfl, hwant1, hwant2, hwant3⟩ := id hwant
  have hA : Below w.heap.size w (((w.alloc (.cells #[.int .i64 t.1, .slice pt t.2.length ct] 24)).alloc (.cells #[.int .i64 c.1, .slice pc c.2.length cc] 24)).alloc (.cells #[.int .i64 want.1, .slice pwant want.2.length cwant] 24)) := by go_grown
  have hbt : LBox t (((w.alloc (.cells #[.int .i64 t.1, .slice pt t.2.length ct] 24)).alloc (.cells #[.int .i64 c.1, .slice pc c.2.length cc] 24)).alloc (.cells #[.int .i64 want.1, .slice pwant want.2.length cwant] 24)) w.heap.size 0 := ⟨pt, ct, by simp <;> omega, by simp [go_sem], by simp [go_sem], ht1.below hA, ht2, ht3⟩
  have hbc : LBox c (((w.alloc (.cells #[.int .i64 t.1, .slice pt t.2.length ct] 24)).alloc (.cells #[.int .i64 c.1, .slice pc c.2.length cc] 24)).alloc (.cells #[.int .i64 want.1, .slice pwant want.2.length cwant] 24)) (w.heap.size + 1) 0 := ⟨pc, cc, by simp <;> omega, by simp [go_sem], by simp [go_sem], hc1.below hA, hc2, hc3⟩
  have hbwant : LBox want (((w.alloc (.cells #[.int .i64 t.1, .slice pt t.2.length ct] 24)).alloc (.cells #[.int .i64 c.1, .slice pc c.2.length cc] 24)).alloc (.cells #[.int .i64 want.1, .slice pwant want.2.length cwant] 24)) (w.heap.size + 1 + 1) 0 := ⟨pwant, cwant, by simp <;> omega, by simp [go_sem], by simp [go_sem], hwant1.below hA, hwant2, hwant3⟩
  have HP := Lib.hid (Plain_c (hwant.below hA))
  obtain ⟨x0, hx0⟩ : ∃ b, plainS want.1 want.2 = b := ⟨_, rfl⟩
  rw [hx0] at HP
  have HX := Lib.hid hx0
  clear hx0
  cases x0 with
  | true =>
    go_enter Try.func15, Try.ntmps15
    go_wp2_with (go_at_call 40; refine HP.out.mono ?_; rintro e w1 ⟨_, rfl, hb1, rfl⟩)
    have hAB : Below w.heap.size w w1 := hA.trans (hb1.mono hA.size)
    have hct := hbt.below hb1
    have hcc := hbc.below hb1
    have hcwant := hbwant.below hb1
    refine wp_region_mono 10 (fun k v W => match k with | 10 => LV t v W | 11 => LV want v W | 12 => LsV [want] v W | 13 => v = .bool (atMB t [want]) | 14 => LV want v W | 15 => LV c v W | 16 => LsV [c] v W | 17 => v = .bool (atMB want [c]) | 18 => BsV [(atMB t [want]), (atMB want [c])] v W | 19 => v = .int .i64 (allowI [(atMB t [want]), (atMB want [c])]) | _ => True) (by kernel_rfl) (by kernel_rfl) (by kernel_rfl) (by kernel_rfl) (by simp) (by kernel_rfl) ?_ ?_ ?_
    · intro k v W W' h hb
      revert h
      try dsimp only
      split
      · intro h; exact LV.below h hb
      · intro h; exact LV.below h hb
      · intro h; exact LsV.below h hb
      · intro h; exact h
      · intro h; exact LV.below h hb
      · intro h; exact LV.below h hb
      · intro h; exact LsV.below h hb
      · intro h; exact h
      · intro h; exact BsV.below h hb
      · intro h; exact h
      · intro h; trivial
    · intro a' W hB hs hk i o d ho hd hG
      match i, ho with
      | 0, ho =>
        obtain rfl : _ = o := Option.some.inj ho
        obtain rfl : 10 = d := Option.some.inj hd
        obtain ⟨v, hr, hv⟩ := run_loadL (ev := a'.eval) (W := W) (hk 3 (by kernel_rfl)) (hct.below hB)
        exact .inr ⟨rfl, .inl ⟨v, W, hr, Below.refl _ _, hv⟩⟩
      | 1, ho =>
        obtain rfl : _ = o := Option.some.inj ho
        obtain rfl : 11 = d := Option.some.inj hd
        obtain ⟨v, hr, hv⟩ := run_loadL (ev := a'.eval) (W := W) (hk 5 (by kernel_rfl)) (hcwant.below hB)
        exact .inr ⟨rfl, .inl ⟨v, W, hr, Below.refl _ _, hv⟩⟩
      | 2, ho =>
        obtain rfl : _ = o := Option.some.inj ho
        obtain rfl : 12 = d := Option.some.inj hd
        have g11 : LV want (a'.eval (.tmp 11)) W := hG ⟨1, .data⟩ (by simp) rfl 11 rfl
        obtain ⟨v, W', hr, hb, hv⟩ := run_slice1 (ev := a'.eval) (W := W) rfl g11
        exact .inr ⟨rfl, .inl ⟨v, W', hr, hb, hv⟩⟩
      | 3, ho =>
        obtain rfl : _ = o := Option.some.inj ho
        obtain rfl : 13 = d := Option.some.inj hd
        have g10 : LV t (a'.eval (.tmp 10)) W := hG ⟨0, .data⟩ (by simp) rfl 10 rfl
        have g12 : LsV [want] (a'.eval (.tmp 12)) W := hG ⟨2, .data⟩ (by simp) rfl 12 rfl
        exact .inr ⟨rfl, .inr ⟨_, _, run_call rfl map_2 ent_passage_atMost, atMost_c g10 g12 (by simp)⟩⟩
      | 4, ho =>
        obtain rfl : _ = o := Option.some.inj ho
        obtain rfl : 14 = d := Option.some.inj hd
        obtain ⟨v, hr, hv⟩ := run_loadL (ev := a'.eval) (W := W) (hk 5 (by kernel_rfl)) (hcwant.below hB)
        exact .inr ⟨rfl, .inl ⟨v, W, hr, Below.refl _ _, hv⟩⟩
      | 5, ho =>
        obtain rfl : _ = o := Option.some.inj ho
        obtain rfl : 15 = d := Option.some.inj hd
        obtain ⟨v, hr, hv⟩ := run_loadL (ev := a'.eval) (W := W) (hk 4 (by kernel_rfl)) (hcc.below hB)
        exact .inr ⟨rfl, .inl ⟨v, W, hr, Below.refl _ _, hv⟩⟩
      | 6, ho =>
        obtain rfl : _ = o := Option.some.inj ho
        obtain rfl : 16 = d := Option.some.inj hd
        have g15 : LV c (a'.eval (.tmp 15)) W := hG ⟨5, .data⟩ (by simp) rfl 15 rfl
        obtain ⟨v, W', hr, hb, hv⟩ := run_slice1 (ev := a'.eval) (W := W) rfl g15
        exact .inr ⟨rfl, .inl ⟨v, W', hr, hb, hv⟩⟩
      | 7, ho =>
        obtain rfl : _ = o := Option.some.inj ho
        obtain rfl : 17 = d := Option.some.inj hd
        have g14 : LV want (a'.eval (.tmp 14)) W := hG ⟨4, .data⟩ (by simp) rfl 14 rfl
        have g16 : LsV [c] (a'.eval (.tmp 16)) W := hG ⟨6, .data⟩ (by simp) rfl 16 rfl
        exact .inr ⟨rfl, .inr ⟨_, _, run_call rfl map_2 ent_passage_atMost, atMost_c g14 g16 (by simp)⟩⟩
      | 8, ho =>
        obtain rfl : _ = o := Option.some.inj ho
        obtain rfl : 18 = d := Option.some.inj hd
        have g13 : (a'.eval (.tmp 13)) = .bool (atMB t [want]) := hG ⟨3, .data⟩ (by simp) rfl 13 rfl
        have g17 : (a'.eval (.tmp 17)) = .bool (atMB want [c]) := hG ⟨7, .data⟩ (by simp) rfl 17 rfl
        obtain ⟨v, W', hr, hb, hv⟩ := run_bools2 (ev := a'.eval) (W := W) g13 g17
        exact .inr ⟨rfl, .inl ⟨v, W', hr, hb, hv⟩⟩
      | 9, ho =>
        obtain rfl : _ = o := Option.some.inj ho
        obtain rfl : 19 = d := Option.some.inj hd
        have g18 : BsV [(atMB t [want]), (atMB want [c])] (a'.eval (.tmp 18)) W := hG ⟨8, .data⟩ (by simp) rfl 18 rfl
        exact .inr ⟨rfl, .inr ⟨_, _, run_call rfl map_1 ent_passage_allow, allow_c g18 (by simp)⟩⟩
      | j + 10, ho => simp at ho
    · intro a' W hB hs hdf hk hG
      obtain ⟨tm, df⟩ := a'
      obtain rfl : df = [] := hdf
      have e0 : tm.getD 0 undef = .agg #[.int .i64 t.fst, .slice pt t.snd.length ct] := hk 0 (by kernel_rfl)
      have e1 : tm.getD 1 undef = .agg #[.int .i64 c.fst, .slice pc c.snd.length cc] := hk 1 (by kernel_rfl)
      have e2 : tm.getD 2 undef = .agg #[.int .i64 want.fst, .slice pwant want.snd.length cwant] := hk 2 (by kernel_rfl)
      have e3 : tm.getD 3 undef = .pointer (some ⟨w.heap.size, 0, none⟩) := hk 3 (by kernel_rfl)
      have e4 : tm.getD 4 undef = .pointer (some ⟨w.heap.size + 1, 0, none⟩) := hk 4 (by kernel_rfl)
      have e5 : tm.getD 5 undef = .pointer (some ⟨w.heap.size + 1 + 1, 0, none⟩) := hk 5 (by kernel_rfl)
      have e6 : tm.getD 6 undef = .int .i64 0 := hk 6 (by kernel_rfl)
      have e7 : tm.getD 7 undef = .agg #[.int .i64 want.fst, .slice pwant want.snd.length cwant] := hk 7 (by kernel_rfl)
      have e8 : tm.getD 8 undef = .bool true := hk 8 (by kernel_rfl)
      have e9 : tm.getD 9 undef = .bool false := hk 9 (by kernel_rfl)
      have g10 : LV t (tm.getD 10 undef) W := hG 0 10 (by decide) rfl
      have g11 : LV want (tm.getD 11 undef) W := hG 1 11 (by decide) rfl
      have g12 : LsV [want] (tm.getD 12 undef) W := hG 2 12 (by decide) rfl
      have g13 : (tm.getD 13 undef) = .bool (atMB t [want]) := hG 3 13 (by decide) rfl
      have g14 : LV want (tm.getD 14 undef) W := hG 4 14 (by decide) rfl
      have g15 : LV c (tm.getD 15 undef) W := hG 5 15 (by decide) rfl
      have g16 : LsV [c] (tm.getD 16 undef) W := hG 6 16 (by decide) rfl
      have g17 : (tm.getD 17 undef) = .bool (atMB want [c]) := hG 7 17 (by decide) rfl
      have g18 : BsV [(atMB t [want]), (atMB want [c])] (tm.getD 18 undef) W := hG 8 18 (by decide) rfl
      have g19 : (tm.getD 19 undef) = .int .i64 (allowI [(atMB t [want]), (atMB want [c])]) := hG 9 19 (by decide) rfl
      have htm := arr_of tm [.agg #[.int .i64 t.fst, .slice pt t.snd.length ct], .agg #[.int .i64 c.fst, .slice pc c.snd.length cc], .agg #[.int .i64 want.fst, .slice pwant want.snd.length cwant], .pointer (some ⟨w.heap.size, 0, none⟩), .pointer (some ⟨w.heap.size + 1, 0, none⟩), .pointer (some ⟨w.heap.size + 1 + 1, 0, none⟩), .int .i64 0, .agg #[.int .i64 want.fst, .slice pwant want.snd.length cwant], .bool true, .bool false, tm.getD 10 undef, tm.getD 11 undef, tm.getD 12 undef, tm.getD 13 undef, tm.getD 14 undef, tm.getD 15 undef, tm.getD 16 undef, tm.getD 17 undef, tm.getD 18 undef, tm.getD 19 undef] hs (by show [tm.getD 0 undef, tm.getD 1 undef, tm.getD 2 undef, tm.getD 3 undef, tm.getD 4 undef, tm.getD 5 undef, tm.getD 6 undef, tm.getD 7 undef, tm.getD 8 undef, tm.getD 9 undef, tm.getD 10 undef, tm.getD 11 undef, tm.getD 12 undef, tm.getD 13 undef, tm.getD 14 undef, tm.getD 15 undef, tm.getD 16 undef, tm.getD 17 undef, tm.getD 18 undef, tm.getD 19 undef] = _; rw [e0, e1, e2, e3, e4, e5, e6, e7, e8, e9])
      clear hs hk hG e0 e1 e2 e3 e4 e5 e6 e7 e8 e9
      generalize tm.getD 10 undef = t10 at htm g10
      generalize tm.getD 11 undef = t11 at htm g11
      generalize tm.getD 12 undef = t12 at htm g12
      generalize tm.getD 13 undef = t13 at htm g13
      generalize tm.getD 14 undef = t14 at htm g14
      generalize tm.getD 15 undef = t15 at htm g15
      generalize tm.getD 16 undef = t16 at htm g16
      generalize tm.getD 17 undef = t17 at htm g17
      generalize tm.getD 18 undef = t18 at htm g18
      generalize tm.getD 19 undef = t19 at htm g19
      subst htm
      subst g13
      subst g17
      subst g19
      simp only [List.drop_succ_cons, List.drop_zero]
      go_wp2
      go_ret
      exact ⟨_, rfl, hAB.trans (hB.mono hAB.size), by unfold riseI; rw [HX.out]; rfl⟩
  | false =>
    go_enter Try.func15, Try.ntmps15
    go_wp2_with (go_at_call 40; refine HP.out.mono ?_; rintro e w1 ⟨_, rfl, hb1, rfl⟩)
    go_ret
    exact ⟨_, rfl, hA.trans (hb1.mono hA.size), by unfold riseI; rw [HX.out]; rfl⟩
def clearI (t c want : ML) : Int := if freeS want.1 want.2 = true then allowI [atMB t [want], atMB want [c, upM t]] else 1
set_option maxRecDepth 100000 in
set_option maxHeartbeats 1000000 in
theorem Clear_c {t c want : ML} {vt vc vwant : Value} {w : World} (ht : LV t vt w) (hc : LV c vc w) (hwant : LV want vwant w) :
    Calls Try.prog 17 #[vt, vc, vwant] w fun e w' => ∃ v', e = .returned v' ∧ Below w.heap.size w w' ∧ v' = .int .i64 (clearI t c want) := by
  obtain ⟨pt, ct, rfl, ht1, ht2, ht3⟩ := id ht
  obtain ⟨pc, cc, rfl, hc1, hc2, hc3⟩ := id hc
  obtain ⟨pwant, cwant, rfl, hwant1, hwant2, hwant3⟩ := id hwant
  have hA : Below w.heap.size w (((w.alloc (.cells #[.int .i64 t.1, .slice pt t.2.length ct] 24)).alloc (.cells #[.int .i64 c.1, .slice pc c.2.length cc] 24)).alloc (.cells #[.int .i64 want.1, .slice pwant want.2.length cwant] 24)) := by go_grown
  have hbt : LBox t (((w.alloc (.cells #[.int .i64 t.1, .slice pt t.2.length ct] 24)).alloc (.cells #[.int .i64 c.1, .slice pc c.2.length cc] 24)).alloc (.cells #[.int .i64 want.1, .slice pwant want.2.length cwant] 24)) w.heap.size 0 := ⟨pt, ct, by simp <;> omega, by simp [go_sem], by simp [go_sem], ht1.below hA, ht2, ht3⟩
  have hbc : LBox c (((w.alloc (.cells #[.int .i64 t.1, .slice pt t.2.length ct] 24)).alloc (.cells #[.int .i64 c.1, .slice pc c.2.length cc] 24)).alloc (.cells #[.int .i64 want.1, .slice pwant want.2.length cwant] 24)) (w.heap.size + 1) 0 := ⟨pc, cc, by simp <;> omega, by simp [go_sem], by simp [go_sem], hc1.below hA, hc2, hc3⟩
  have hbwant : LBox want (((w.alloc (.cells #[.int .i64 t.1, .slice pt t.2.length ct] 24)).alloc (.cells #[.int .i64 c.1, .slice pc c.2.length cc] 24)).alloc (.cells #[.int .i64 want.1, .slice pwant want.2.length cwant] 24)) (w.heap.size + 1 + 1) 0 := ⟨pwant, cwant, by simp <;> omega, by simp [go_sem], by simp [go_sem], hwant1.below hA, hwant2, hwant3⟩
  have HP := Lib.hid (Free_c (hwant.below hA))
  obtain ⟨x0, hx0⟩ : ∃ b, freeS want.1 want.2 = b := ⟨_, rfl⟩
  rw [hx0] at HP
  have HX := Lib.hid hx0
  clear hx0
  cases x0 with
  | true =>
    go_enter Try.func17, Try.ntmps17
    go_wp2_with (go_at_call 41; refine HP.out.mono ?_; rintro e w1 ⟨_, rfl, hb1, rfl⟩)
    have hAB : Below w.heap.size w w1 := hA.trans (hb1.mono hA.size)
    have hct := hbt.below hb1
    have hcc := hbc.below hb1
    have hcwant := hbwant.below hb1
    refine wp_region_mono 12 (fun k v W => match k with | 10 => LV t v W | 11 => LV want v W | 12 => LsV [want] v W | 13 => v = .bool (atMB t [want]) | 14 => LV want v W | 15 => LV c v W | 16 => LV t v W | 17 => LV (upM t) v W | 18 => LsV [c, (upM t)] v W | 19 => v = .bool (atMB want [c, (upM t)]) | 20 => BsV [(atMB t [want]), (atMB want [c, (upM t)])] v W | 21 => v = .int .i64 (allowI [(atMB t [want]), (atMB want [c, (upM t)])]) | _ => True) (by kernel_rfl) (by kernel_rfl) (by kernel_rfl) (by kernel_rfl) (by simp) (by kernel_rfl) ?_ ?_ ?_
    · intro k v W W' h hb
      revert h
      try dsimp only
      split
      · intro h; exact LV.below h hb
      · intro h; exact LV.below h hb
      · intro h; exact LsV.below h hb
      · intro h; exact h
      · intro h; exact LV.below h hb
      · intro h; exact LV.below h hb
      · intro h; exact LV.below h hb
      · intro h; exact LV.below h hb
      · intro h; exact LsV.below h hb
      · intro h; exact h
      · intro h; exact BsV.below h hb
      · intro h; exact h
      · intro h; trivial
    · intro a' W hB hs hk i o d ho hd hG
      match i, ho with
      | 0, ho =>
        obtain rfl : _ = o := Option.some.inj ho
        obtain rfl : 10 = d := Option.some.inj hd
        obtain ⟨v, hr, hv⟩ := run_loadL (ev := a'.eval) (W := W) (hk 3 (by kernel_rfl)) (hct.below hB)
        exact .inr ⟨rfl, .inl ⟨v, W, hr, Below.refl _ _, hv⟩⟩
      | 1, ho =>
        obtain rfl : _ = o := Option.some.inj ho
        obtain rfl : 11 = d := Option.some.inj hd
        obtain ⟨v, hr, hv⟩ := run_loadL (ev := a'.eval) (W := W) (hk 5 (by kernel_rfl)) (hcwant.below hB)
        exact .inr ⟨rfl, .inl ⟨v, W, hr, Below.refl _ _, hv⟩⟩
      | 2, ho =>
        obtain rfl : _ = o := Option.some.inj ho
        obtain rfl : 12 = d := Option.some.inj hd
        have g11 : LV want (a'.eval (.tmp 11)) W := hG ⟨1, .data⟩ (by simp) rfl 11 rfl
        obtain ⟨v, W', hr, hb, hv⟩ := run_slice1 (ev := a'.eval) (W := W) rfl g11
        exact .inr ⟨rfl, .inl ⟨v, W', hr, hb, hv⟩⟩
      | 3, ho =>
        obtain rfl : _ = o := Option.some.inj ho
        obtain rfl : 13 = d := Option.some.inj hd
        have g10 : LV t (a'.eval (.tmp 10)) W := hG ⟨0, .data⟩ (by simp) rfl 10 rfl
        have g12 : LsV [want] (a'.eval (.tmp 12)) W := hG ⟨2, .data⟩ (by simp) rfl 12 rfl
        exact .inr ⟨rfl, .inr ⟨_, _, run_call rfl map_2 ent_passage_atMost, atMost_c g10 g12 (by simp)⟩⟩
      | 4, ho =>
        obtain rfl : _ = o := Option.some.inj ho
        obtain rfl : 14 = d := Option.some.inj hd
        obtain ⟨v, hr, hv⟩ := run_loadL (ev := a'.eval) (W := W) (hk 5 (by kernel_rfl)) (hcwant.below hB)
        exact .inr ⟨rfl, .inl ⟨v, W, hr, Below.refl _ _, hv⟩⟩
      | 5, ho =>
        obtain rfl : _ = o := Option.some.inj ho
        obtain rfl : 15 = d := Option.some.inj hd
        obtain ⟨v, hr, hv⟩ := run_loadL (ev := a'.eval) (W := W) (hk 4 (by kernel_rfl)) (hcc.below hB)
        exact .inr ⟨rfl, .inl ⟨v, W, hr, Below.refl _ _, hv⟩⟩
      | 6, ho =>
        obtain rfl : _ = o := Option.some.inj ho
        obtain rfl : 16 = d := Option.some.inj hd
        obtain ⟨v, hr, hv⟩ := run_loadL (ev := a'.eval) (W := W) (hk 3 (by kernel_rfl)) (hct.below hB)
        exact .inr ⟨rfl, .inl ⟨v, W, hr, Below.refl _ _, hv⟩⟩
      | 7, ho =>
        obtain rfl : _ = o := Option.some.inj ho
        obtain rfl : 17 = d := Option.some.inj hd
        have g16 : LV t (a'.eval (.tmp 16)) W := hG ⟨6, .data⟩ (by simp) rfl 16 rfl
        exact .inr ⟨rfl, .inr ⟨_, _, run_call rfl map_1 ent_label_Up, Up_c g16⟩⟩
      | 8, ho =>
        obtain rfl : _ = o := Option.some.inj ho
        obtain rfl : 18 = d := Option.some.inj hd
        have g15 : LV c (a'.eval (.tmp 15)) W := hG ⟨5, .data⟩ (by simp) rfl 15 rfl
        have g17 : LV (upM t) (a'.eval (.tmp 17)) W := hG ⟨7, .data⟩ (by simp) rfl 17 rfl
        obtain ⟨v, W', hr, hb, hv⟩ := run_slice2 (ev := a'.eval) (W := W) rfl rfl g15 g17
        exact .inr ⟨rfl, .inl ⟨v, W', hr, hb, hv⟩⟩
      | 9, ho =>
        obtain rfl : _ = o := Option.some.inj ho
        obtain rfl : 19 = d := Option.some.inj hd
        have g14 : LV want (a'.eval (.tmp 14)) W := hG ⟨4, .data⟩ (by simp) rfl 14 rfl
        have g18 : LsV [c, (upM t)] (a'.eval (.tmp 18)) W := hG ⟨8, .data⟩ (by simp) rfl 18 rfl
        exact .inr ⟨rfl, .inr ⟨_, _, run_call rfl map_2 ent_passage_atMost, atMost_c g14 g18 (by simp)⟩⟩
      | 10, ho =>
        obtain rfl : _ = o := Option.some.inj ho
        obtain rfl : 20 = d := Option.some.inj hd
        have g13 : (a'.eval (.tmp 13)) = .bool (atMB t [want]) := hG ⟨3, .data⟩ (by simp) rfl 13 rfl
        have g19 : (a'.eval (.tmp 19)) = .bool (atMB want [c, (upM t)]) := hG ⟨9, .data⟩ (by simp) rfl 19 rfl
        obtain ⟨v, W', hr, hb, hv⟩ := run_bools2 (ev := a'.eval) (W := W) g13 g19
        exact .inr ⟨rfl, .inl ⟨v, W', hr, hb, hv⟩⟩
      | 11, ho =>
        obtain rfl : _ = o := Option.some.inj ho
        obtain rfl : 21 = d := Option.some.inj hd
        have g20 : BsV [(atMB t [want]), (atMB want [c, (upM t)])] (a'.eval (.tmp 20)) W := hG ⟨10, .data⟩ (by simp) rfl 20 rfl
        exact .inr ⟨rfl, .inr ⟨_, _, run_call rfl map_1 ent_passage_allow, allow_c g20 (by simp)⟩⟩
      | j + 12, ho => simp at ho
    · intro a' W hB hs hdf hk hG
      obtain ⟨tm, df⟩ := a'
      obtain rfl : df = [] := hdf
      have e0 : tm.getD 0 undef = .agg #[.int .i64 t.fst, .slice pt t.snd.length ct] := hk 0 (by kernel_rfl)
      have e1 : tm.getD 1 undef = .agg #[.int .i64 c.fst, .slice pc c.snd.length cc] := hk 1 (by kernel_rfl)
      have e2 : tm.getD 2 undef = .agg #[.int .i64 want.fst, .slice pwant want.snd.length cwant] := hk 2 (by kernel_rfl)
      have e3 : tm.getD 3 undef = .pointer (some ⟨w.heap.size, 0, none⟩) := hk 3 (by kernel_rfl)
      have e4 : tm.getD 4 undef = .pointer (some ⟨w.heap.size + 1, 0, none⟩) := hk 4 (by kernel_rfl)
      have e5 : tm.getD 5 undef = .pointer (some ⟨w.heap.size + 1 + 1, 0, none⟩) := hk 5 (by kernel_rfl)
      have e6 : tm.getD 6 undef = .int .i64 0 := hk 6 (by kernel_rfl)
      have e7 : tm.getD 7 undef = .agg #[.int .i64 want.fst, .slice pwant want.snd.length cwant] := hk 7 (by kernel_rfl)
      have e8 : tm.getD 8 undef = .bool true := hk 8 (by kernel_rfl)
      have e9 : tm.getD 9 undef = .bool false := hk 9 (by kernel_rfl)
      have g10 : LV t (tm.getD 10 undef) W := hG 0 10 (by decide) rfl
      have g11 : LV want (tm.getD 11 undef) W := hG 1 11 (by decide) rfl
      have g12 : LsV [want] (tm.getD 12 undef) W := hG 2 12 (by decide) rfl
      have g13 : (tm.getD 13 undef) = .bool (atMB t [want]) := hG 3 13 (by decide) rfl
      have g14 : LV want (tm.getD 14 undef) W := hG 4 14 (by decide) rfl
      have g15 : LV c (tm.getD 15 undef) W := hG 5 15 (by decide) rfl
      have g16 : LV t (tm.getD 16 undef) W := hG 6 16 (by decide) rfl
      have g17 : LV (upM t) (tm.getD 17 undef) W := hG 7 17 (by decide) rfl
      have g18 : LsV [c, (upM t)] (tm.getD 18 undef) W := hG 8 18 (by decide) rfl
      have g19 : (tm.getD 19 undef) = .bool (atMB want [c, (upM t)]) := hG 9 19 (by decide) rfl
      have g20 : BsV [(atMB t [want]), (atMB want [c, (upM t)])] (tm.getD 20 undef) W := hG 10 20 (by decide) rfl
      have g21 : (tm.getD 21 undef) = .int .i64 (allowI [(atMB t [want]), (atMB want [c, (upM t)])]) := hG 11 21 (by decide) rfl
      have htm := arr_of tm [.agg #[.int .i64 t.fst, .slice pt t.snd.length ct], .agg #[.int .i64 c.fst, .slice pc c.snd.length cc], .agg #[.int .i64 want.fst, .slice pwant want.snd.length cwant], .pointer (some ⟨w.heap.size, 0, none⟩), .pointer (some ⟨w.heap.size + 1, 0, none⟩), .pointer (some ⟨w.heap.size + 1 + 1, 0, none⟩), .int .i64 0, .agg #[.int .i64 want.fst, .slice pwant want.snd.length cwant], .bool true, .bool false, tm.getD 10 undef, tm.getD 11 undef, tm.getD 12 undef, tm.getD 13 undef, tm.getD 14 undef, tm.getD 15 undef, tm.getD 16 undef, tm.getD 17 undef, tm.getD 18 undef, tm.getD 19 undef, tm.getD 20 undef, tm.getD 21 undef] hs (by show [tm.getD 0 undef, tm.getD 1 undef, tm.getD 2 undef, tm.getD 3 undef, tm.getD 4 undef, tm.getD 5 undef, tm.getD 6 undef, tm.getD 7 undef, tm.getD 8 undef, tm.getD 9 undef, tm.getD 10 undef, tm.getD 11 undef, tm.getD 12 undef, tm.getD 13 undef, tm.getD 14 undef, tm.getD 15 undef, tm.getD 16 undef, tm.getD 17 undef, tm.getD 18 undef, tm.getD 19 undef, tm.getD 20 undef, tm.getD 21 undef] = _; rw [e0, e1, e2, e3, e4, e5, e6, e7, e8, e9])
      clear hs hk hG e0 e1 e2 e3 e4 e5 e6 e7 e8 e9
      generalize tm.getD 10 undef = t10 at htm g10
      generalize tm.getD 11 undef = t11 at htm g11
      generalize tm.getD 12 undef = t12 at htm g12
      generalize tm.getD 13 undef = t13 at htm g13
      generalize tm.getD 14 undef = t14 at htm g14
      generalize tm.getD 15 undef = t15 at htm g15
      generalize tm.getD 16 undef = t16 at htm g16
      generalize tm.getD 17 undef = t17 at htm g17
      generalize tm.getD 18 undef = t18 at htm g18
      generalize tm.getD 19 undef = t19 at htm g19
      generalize tm.getD 20 undef = t20 at htm g20
      generalize tm.getD 21 undef = t21 at htm g21
      subst htm
      subst g13
      subst g19
      subst g21
      simp only [List.drop_succ_cons, List.drop_zero]
      go_wp2
      go_ret
      exact ⟨_, rfl, hAB.trans (hB.mono hAB.size), by unfold clearI; rw [HX.out]; rfl⟩
  | false =>
    go_enter Try.func17, Try.ntmps17
    go_wp2_with (go_at_call 41; refine HP.out.mono ?_; rintro e w1 ⟨_, rfl, hb1, rfl⟩)
    go_ret
    exact ⟨_, rfl, hA.trans (hb1.mono hA.size), by unfold clearI; rw [HX.out]; rfl⟩
def lendI (t c l m : ML) : Int := if plainS l.1 l.2 = true then (if freeS m.1 m.2 = true then allowI [atMB t [l], atMB l [m], atMB m [c]] else 1) else 1
set_option maxRecDepth 100000 in
set_option maxHeartbeats 1000000 in
theorem Lend_c {t c l m : ML} {vt vc vl vm : Value} {w : World} (ht : LV t vt w) (hc : LV c vc w) (hl : LV l vl w) (hm : LV m vm w) :
    Calls Try.prog 13 #[vt, vc, vl, vm] w fun e w' => ∃ v', e = .returned v' ∧ Below w.heap.size w w' ∧ v' = .int .i64 (lendI t c l m) := by
  obtain ⟨pt, ct, rfl, ht1, ht2, ht3⟩ := id ht
  obtain ⟨pc, cc, rfl, hc1, hc2, hc3⟩ := id hc
  obtain ⟨pl, cl, rfl, hl1, hl2, hl3⟩ := id hl
  obtain ⟨pm, cm, rfl, hm1, hm2, hm3⟩ := id hm
  have hA : Below w.heap.size w ((((w.alloc (.cells #[.int .i64 t.1, .slice pt t.2.length ct] 24)).alloc (.cells #[.int .i64 c.1, .slice pc c.2.length cc] 24)).alloc (.cells #[.int .i64 l.1, .slice pl l.2.length cl] 24)).alloc (.cells #[.int .i64 m.1, .slice pm m.2.length cm] 24)) := by go_grown
  have hbt : LBox t ((((w.alloc (.cells #[.int .i64 t.1, .slice pt t.2.length ct] 24)).alloc (.cells #[.int .i64 c.1, .slice pc c.2.length cc] 24)).alloc (.cells #[.int .i64 l.1, .slice pl l.2.length cl] 24)).alloc (.cells #[.int .i64 m.1, .slice pm m.2.length cm] 24)) w.heap.size 0 := ⟨pt, ct, by simp <;> omega, by simp [go_sem], by simp [go_sem], ht1.below hA, ht2, ht3⟩
  have hbc : LBox c ((((w.alloc (.cells #[.int .i64 t.1, .slice pt t.2.length ct] 24)).alloc (.cells #[.int .i64 c.1, .slice pc c.2.length cc] 24)).alloc (.cells #[.int .i64 l.1, .slice pl l.2.length cl] 24)).alloc (.cells #[.int .i64 m.1, .slice pm m.2.length cm] 24)) (w.heap.size + 1) 0 := ⟨pc, cc, by simp <;> omega, by simp [go_sem], by simp [go_sem], hc1.below hA, hc2, hc3⟩
  have hbl : LBox l ((((w.alloc (.cells #[.int .i64 t.1, .slice pt t.2.length ct] 24)).alloc (.cells #[.int .i64 c.1, .slice pc c.2.length cc] 24)).alloc (.cells #[.int .i64 l.1, .slice pl l.2.length cl] 24)).alloc (.cells #[.int .i64 m.1, .slice pm m.2.length cm] 24)) (w.heap.size + 1 + 1) 0 := ⟨pl, cl, by simp <;> omega, by simp [go_sem], by simp [go_sem], hl1.below hA, hl2, hl3⟩
  have hbm : LBox m ((((w.alloc (.cells #[.int .i64 t.1, .slice pt t.2.length ct] 24)).alloc (.cells #[.int .i64 c.1, .slice pc c.2.length cc] 24)).alloc (.cells #[.int .i64 l.1, .slice pl l.2.length cl] 24)).alloc (.cells #[.int .i64 m.1, .slice pm m.2.length cm] 24)) (w.heap.size + 1 + 1 + 1) 0 := ⟨pm, cm, by simp <;> omega, by simp [go_sem], by simp [go_sem], hm1.below hA, hm2, hm3⟩
  have HP := Lib.hid (Plain_c (hl.below hA))
  have HF : Hid (∀ W, Below w.heap.size w W → _) := fun W hW => Free_c (hm.below hW)
  obtain ⟨x0, hx0⟩ : ∃ b, plainS l.1 l.2 = b := ⟨_, rfl⟩
  rw [hx0] at HP
  have HX := Lib.hid hx0
  obtain ⟨x1, hx1⟩ : ∃ b, freeS m.1 m.2 = b := ⟨_, rfl⟩
  simp only [hx1] at HF
  have HY := Lib.hid hx1
  clear hx0 hx1
  cases x0 with
  | true =>
    cases x1 with
    | true =>
      go_enter Try.func13, Try.ntmps13
      go_wp2_with (first | (go_at_call 40; refine HP.out.mono ?_; rintro e w1 ⟨_, rfl, hb1, rfl⟩; have hAB : Below w.heap.size w w1 := hA.trans (hb1.mono hA.size); have bm0 : w1.cell? ⟨w.heap.size + 1 + 1 + 1, 0, none⟩ = some (.int .i64 m.1) := (hb1.cell (p := ⟨w.heap.size + 1 + 1 + 1, 0, none⟩) (by simp <;> omega)).trans (by simp [go_sem]); have bm1 : w1.cell? ⟨w.heap.size + 1 + 1 + 1, 1, none⟩ = some (.slice pm m.2.length cm) := (hb1.cell (p := ⟨w.heap.size + 1 + 1 + 1, 1, none⟩) (by simp <;> omega)).trans (by simp [go_sem])) | (go_at_call 41; refine (HF.out w1 hAB).mono ?_; rintro e w2 ⟨_, rfl, hb2, rfl⟩))
      have hAC : Below w.heap.size w w2 := hAB.trans (hb2.mono hAB.size)
      have hct := (hbt.below hb1).below hb2
      have hcc := (hbc.below hb1).below hb2
      have hcl := (hbl.below hb1).below hb2
      have hcm := (hbm.below hb1).below hb2
      refine wp_region_mono 14 (fun k v W => match k with | 17 => LV t v W | 18 => LV l v W | 19 => LsV [l] v W | 20 => v = .bool (atMB t [l]) | 21 => LV l v W | 22 => LV m v W | 23 => LsV [m] v W | 24 => v = .bool (atMB l [m]) | 25 => LV m v W | 26 => LV c v W | 27 => LsV [c] v W | 28 => v = .bool (atMB m [c]) | 29 => BsV [(atMB t [l]), (atMB l [m]), (atMB m [c])] v W | 30 => v = .int .i64 (allowI [(atMB t [l]), (atMB l [m]), (atMB m [c])]) | _ => True) (by kernel_rfl) (by kernel_rfl) (by kernel_rfl) (by kernel_rfl) (by simp) (by kernel_rfl) ?_ ?_ ?_
      · intro k v W W' h hb
        revert h
        try dsimp only
        split
        · intro h; exact LV.below h hb
        · intro h; exact LV.below h hb
        · intro h; exact LsV.below h hb
        · intro h; exact h
        · intro h; exact LV.below h hb
        · intro h; exact LV.below h hb
        · intro h; exact LsV.below h hb
        · intro h; exact h
        · intro h; exact LV.below h hb
        · intro h; exact LV.below h hb
        · intro h; exact LsV.below h hb
        · intro h; exact h
        · intro h; exact BsV.below h hb
        · intro h; exact h
        · intro h; trivial
      · intro a' W hB hs hk i o d ho hd hG
        match i, ho with
        | 0, ho =>
          obtain rfl : _ = o := Option.some.inj ho
          obtain rfl : 17 = d := Option.some.inj hd
          obtain ⟨v, hr, hv⟩ := run_loadL (ev := a'.eval) (W := W) (hk 4 (by kernel_rfl)) (hct.below hB)
          exact .inr ⟨rfl, .inl ⟨v, W, hr, Below.refl _ _, hv⟩⟩
        | 1, ho =>
          obtain rfl : _ = o := Option.some.inj ho
          obtain rfl : 18 = d := Option.some.inj hd
          obtain ⟨v, hr, hv⟩ := run_loadL (ev := a'.eval) (W := W) (hk 6 (by kernel_rfl)) (hcl.below hB)
          exact .inr ⟨rfl, .inl ⟨v, W, hr, Below.refl _ _, hv⟩⟩
        | 2, ho =>
          obtain rfl : _ = o := Option.some.inj ho
          obtain rfl : 19 = d := Option.some.inj hd
          have g18 : LV l (a'.eval (.tmp 18)) W := hG ⟨1, .data⟩ (by simp) rfl 18 rfl
          obtain ⟨v, W', hr, hb, hv⟩ := run_slice1 (ev := a'.eval) (W := W) rfl g18
          exact .inr ⟨rfl, .inl ⟨v, W', hr, hb, hv⟩⟩
        | 3, ho =>
          obtain rfl : _ = o := Option.some.inj ho
          obtain rfl : 20 = d := Option.some.inj hd
          have g17 : LV t (a'.eval (.tmp 17)) W := hG ⟨0, .data⟩ (by simp) rfl 17 rfl
          have g19 : LsV [l] (a'.eval (.tmp 19)) W := hG ⟨2, .data⟩ (by simp) rfl 19 rfl
          exact .inr ⟨rfl, .inr ⟨_, _, run_call rfl map_2 ent_passage_atMost, atMost_c g17 g19 (by simp)⟩⟩
        | 4, ho =>
          obtain rfl : _ = o := Option.some.inj ho
          obtain rfl : 21 = d := Option.some.inj hd
          obtain ⟨v, hr, hv⟩ := run_loadL (ev := a'.eval) (W := W) (hk 6 (by kernel_rfl)) (hcl.below hB)
          exact .inr ⟨rfl, .inl ⟨v, W, hr, Below.refl _ _, hv⟩⟩
        | 5, ho =>
          obtain rfl : _ = o := Option.some.inj ho
          obtain rfl : 22 = d := Option.some.inj hd
          obtain ⟨v, hr, hv⟩ := run_loadL (ev := a'.eval) (W := W) (hk 7 (by kernel_rfl)) (hcm.below hB)
          exact .inr ⟨rfl, .inl ⟨v, W, hr, Below.refl _ _, hv⟩⟩
        | 6, ho =>
          obtain rfl : _ = o := Option.some.inj ho
          obtain rfl : 23 = d := Option.some.inj hd
          have g22 : LV m (a'.eval (.tmp 22)) W := hG ⟨5, .data⟩ (by simp) rfl 22 rfl
          obtain ⟨v, W', hr, hb, hv⟩ := run_slice1 (ev := a'.eval) (W := W) rfl g22
          exact .inr ⟨rfl, .inl ⟨v, W', hr, hb, hv⟩⟩
        | 7, ho =>
          obtain rfl : _ = o := Option.some.inj ho
          obtain rfl : 24 = d := Option.some.inj hd
          have g21 : LV l (a'.eval (.tmp 21)) W := hG ⟨4, .data⟩ (by simp) rfl 21 rfl
          have g23 : LsV [m] (a'.eval (.tmp 23)) W := hG ⟨6, .data⟩ (by simp) rfl 23 rfl
          exact .inr ⟨rfl, .inr ⟨_, _, run_call rfl map_2 ent_passage_atMost, atMost_c g21 g23 (by simp)⟩⟩
        | 8, ho =>
          obtain rfl : _ = o := Option.some.inj ho
          obtain rfl : 25 = d := Option.some.inj hd
          obtain ⟨v, hr, hv⟩ := run_loadL (ev := a'.eval) (W := W) (hk 7 (by kernel_rfl)) (hcm.below hB)
          exact .inr ⟨rfl, .inl ⟨v, W, hr, Below.refl _ _, hv⟩⟩
        | 9, ho =>
          obtain rfl : _ = o := Option.some.inj ho
          obtain rfl : 26 = d := Option.some.inj hd
          obtain ⟨v, hr, hv⟩ := run_loadL (ev := a'.eval) (W := W) (hk 5 (by kernel_rfl)) (hcc.below hB)
          exact .inr ⟨rfl, .inl ⟨v, W, hr, Below.refl _ _, hv⟩⟩
        | 10, ho =>
          obtain rfl : _ = o := Option.some.inj ho
          obtain rfl : 27 = d := Option.some.inj hd
          have g26 : LV c (a'.eval (.tmp 26)) W := hG ⟨9, .data⟩ (by simp) rfl 26 rfl
          obtain ⟨v, W', hr, hb, hv⟩ := run_slice1 (ev := a'.eval) (W := W) rfl g26
          exact .inr ⟨rfl, .inl ⟨v, W', hr, hb, hv⟩⟩
        | 11, ho =>
          obtain rfl : _ = o := Option.some.inj ho
          obtain rfl : 28 = d := Option.some.inj hd
          have g25 : LV m (a'.eval (.tmp 25)) W := hG ⟨8, .data⟩ (by simp) rfl 25 rfl
          have g27 : LsV [c] (a'.eval (.tmp 27)) W := hG ⟨10, .data⟩ (by simp) rfl 27 rfl
          exact .inr ⟨rfl, .inr ⟨_, _, run_call rfl map_2 ent_passage_atMost, atMost_c g25 g27 (by simp)⟩⟩
        | 12, ho =>
          obtain rfl : _ = o := Option.some.inj ho
          obtain rfl : 29 = d := Option.some.inj hd
          have g20 : (a'.eval (.tmp 20)) = .bool (atMB t [l]) := hG ⟨3, .data⟩ (by simp) rfl 20 rfl
          have g24 : (a'.eval (.tmp 24)) = .bool (atMB l [m]) := hG ⟨7, .data⟩ (by simp) rfl 24 rfl
          have g28 : (a'.eval (.tmp 28)) = .bool (atMB m [c]) := hG ⟨11, .data⟩ (by simp) rfl 28 rfl
          obtain ⟨v, W', hr, hb, hv⟩ := run_bools3 (ev := a'.eval) (W := W) g20 g24 g28
          exact .inr ⟨rfl, .inl ⟨v, W', hr, hb, hv⟩⟩
        | 13, ho =>
          obtain rfl : _ = o := Option.some.inj ho
          obtain rfl : 30 = d := Option.some.inj hd
          have g29 : BsV [(atMB t [l]), (atMB l [m]), (atMB m [c])] (a'.eval (.tmp 29)) W := hG ⟨12, .data⟩ (by simp) rfl 29 rfl
          exact .inr ⟨rfl, .inr ⟨_, _, run_call rfl map_1 ent_passage_allow, allow_c g29 (by simp)⟩⟩
        | j + 14, ho => simp at ho
      · intro a' W hB hs hdf hk hG
        obtain ⟨tm, df⟩ := a'
        obtain rfl : df = [] := hdf
        have e0 : tm.getD 0 undef = .agg #[.int .i64 t.fst, .slice pt t.snd.length ct] := hk 0 (by kernel_rfl)
        have e1 : tm.getD 1 undef = .agg #[.int .i64 c.fst, .slice pc c.snd.length cc] := hk 1 (by kernel_rfl)
        have e2 : tm.getD 2 undef = .agg #[.int .i64 l.fst, .slice pl l.snd.length cl] := hk 2 (by kernel_rfl)
        have e3 : tm.getD 3 undef = .agg #[.int .i64 m.fst, .slice pm m.snd.length cm] := hk 3 (by kernel_rfl)
        have e4 : tm.getD 4 undef = .pointer (some ⟨w.heap.size, 0, none⟩) := hk 4 (by kernel_rfl)
        have e5 : tm.getD 5 undef = .pointer (some ⟨w.heap.size + 1, 0, none⟩) := hk 5 (by kernel_rfl)
        have e6 : tm.getD 6 undef = .pointer (some ⟨w.heap.size + 1 + 1, 0, none⟩) := hk 6 (by kernel_rfl)
        have e7 : tm.getD 7 undef = .pointer (some ⟨w.heap.size + 1 + 1 + 1, 0, none⟩) := hk 7 (by kernel_rfl)
        have e8 : tm.getD 8 undef = .int .i64 0 := hk 8 (by kernel_rfl)
        have e9 : tm.getD 9 undef = .agg #[.int .i64 l.fst, .slice pl l.snd.length cl] := hk 9 (by kernel_rfl)
        have e10 : tm.getD 10 undef = .bool true := hk 10 (by kernel_rfl)
        have e11 : tm.getD 11 undef = .bool false := hk 11 (by kernel_rfl)
        have e12 : tm.getD 12 undef = .bool false := hk 12 (by kernel_rfl)
        have e13 : tm.getD 13 undef = .agg #[.int .i64 m.fst, .slice pm m.snd.length cm] := hk 13 (by kernel_rfl)
        have e14 : tm.getD 14 undef = .bool true := hk 14 (by kernel_rfl)
        have e15 : tm.getD 15 undef = .bool false := hk 15 (by kernel_rfl)
        have e16 : tm.getD 16 undef = .bool false := hk 16 (by kernel_rfl)
        have g17 : LV t (tm.getD 17 undef) W := hG 0 17 (by decide) rfl
        have g18 : LV l (tm.getD 18 undef) W := hG 1 18 (by decide) rfl
        have g19 : LsV [l] (tm.getD 19 undef) W := hG 2 19 (by decide) rfl
        have g20 : (tm.getD 20 undef) = .bool (atMB t [l]) := hG 3 20 (by decide) rfl
        have g21 : LV l (tm.getD 21 undef) W := hG 4 21 (by decide) rfl
        have g22 : LV m (tm.getD 22 undef) W := hG 5 22 (by decide) rfl
        have g23 : LsV [m] (tm.getD 23 undef) W := hG 6 23 (by decide) rfl
        have g24 : (tm.getD 24 undef) = .bool (atMB l [m]) := hG 7 24 (by decide) rfl
        have g25 : LV m (tm.getD 25 undef) W := hG 8 25 (by decide) rfl
        have g26 : LV c (tm.getD 26 undef) W := hG 9 26 (by decide) rfl
        have g27 : LsV [c] (tm.getD 27 undef) W := hG 10 27 (by decide) rfl
        have g28 : (tm.getD 28 undef) = .bool (atMB m [c]) := hG 11 28 (by decide) rfl
        have g29 : BsV [(atMB t [l]), (atMB l [m]), (atMB m [c])] (tm.getD 29 undef) W := hG 12 29 (by decide) rfl
        have g30 : (tm.getD 30 undef) = .int .i64 (allowI [(atMB t [l]), (atMB l [m]), (atMB m [c])]) := hG 13 30 (by decide) rfl
        have htm := arr_of tm [.agg #[.int .i64 t.fst, .slice pt t.snd.length ct], .agg #[.int .i64 c.fst, .slice pc c.snd.length cc], .agg #[.int .i64 l.fst, .slice pl l.snd.length cl], .agg #[.int .i64 m.fst, .slice pm m.snd.length cm], .pointer (some ⟨w.heap.size, 0, none⟩), .pointer (some ⟨w.heap.size + 1, 0, none⟩), .pointer (some ⟨w.heap.size + 1 + 1, 0, none⟩), .pointer (some ⟨w.heap.size + 1 + 1 + 1, 0, none⟩), .int .i64 0, .agg #[.int .i64 l.fst, .slice pl l.snd.length cl], .bool true, .bool false, .bool false, .agg #[.int .i64 m.fst, .slice pm m.snd.length cm], .bool true, .bool false, .bool false, tm.getD 17 undef, tm.getD 18 undef, tm.getD 19 undef, tm.getD 20 undef, tm.getD 21 undef, tm.getD 22 undef, tm.getD 23 undef, tm.getD 24 undef, tm.getD 25 undef, tm.getD 26 undef, tm.getD 27 undef, tm.getD 28 undef, tm.getD 29 undef, tm.getD 30 undef] hs (by show [tm.getD 0 undef, tm.getD 1 undef, tm.getD 2 undef, tm.getD 3 undef, tm.getD 4 undef, tm.getD 5 undef, tm.getD 6 undef, tm.getD 7 undef, tm.getD 8 undef, tm.getD 9 undef, tm.getD 10 undef, tm.getD 11 undef, tm.getD 12 undef, tm.getD 13 undef, tm.getD 14 undef, tm.getD 15 undef, tm.getD 16 undef, tm.getD 17 undef, tm.getD 18 undef, tm.getD 19 undef, tm.getD 20 undef, tm.getD 21 undef, tm.getD 22 undef, tm.getD 23 undef, tm.getD 24 undef, tm.getD 25 undef, tm.getD 26 undef, tm.getD 27 undef, tm.getD 28 undef, tm.getD 29 undef, tm.getD 30 undef] = _; rw [e0, e1, e2, e3, e4, e5, e6, e7, e8, e9, e10, e11, e12, e13, e14, e15, e16])
        clear hs hk hG e0 e1 e2 e3 e4 e5 e6 e7 e8 e9 e10 e11 e12 e13 e14 e15 e16
        generalize tm.getD 17 undef = t17 at htm g17
        generalize tm.getD 18 undef = t18 at htm g18
        generalize tm.getD 19 undef = t19 at htm g19
        generalize tm.getD 20 undef = t20 at htm g20
        generalize tm.getD 21 undef = t21 at htm g21
        generalize tm.getD 22 undef = t22 at htm g22
        generalize tm.getD 23 undef = t23 at htm g23
        generalize tm.getD 24 undef = t24 at htm g24
        generalize tm.getD 25 undef = t25 at htm g25
        generalize tm.getD 26 undef = t26 at htm g26
        generalize tm.getD 27 undef = t27 at htm g27
        generalize tm.getD 28 undef = t28 at htm g28
        generalize tm.getD 29 undef = t29 at htm g29
        generalize tm.getD 30 undef = t30 at htm g30
        subst htm
        subst g20
        subst g24
        subst g28
        subst g30
        simp only [List.drop_succ_cons, List.drop_zero]
        go_wp2
        go_ret
        exact ⟨_, rfl, hAC.trans (hB.mono hAC.size), by unfold lendI; rw [HX.out, HY.out]; rfl⟩
    | false =>
      go_enter Try.func13, Try.ntmps13
      go_wp2_with (first | (go_at_call 40; refine HP.out.mono ?_; rintro e w1 ⟨_, rfl, hb1, rfl⟩; have hAB : Below w.heap.size w w1 := hA.trans (hb1.mono hA.size); have bm0 : w1.cell? ⟨w.heap.size + 1 + 1 + 1, 0, none⟩ = some (.int .i64 m.1) := (hb1.cell (p := ⟨w.heap.size + 1 + 1 + 1, 0, none⟩) (by simp <;> omega)).trans (by simp [go_sem]); have bm1 : w1.cell? ⟨w.heap.size + 1 + 1 + 1, 1, none⟩ = some (.slice pm m.2.length cm) := (hb1.cell (p := ⟨w.heap.size + 1 + 1 + 1, 1, none⟩) (by simp <;> omega)).trans (by simp [go_sem])) | (go_at_call 41; refine (HF.out w1 hAB).mono ?_; rintro e w2 ⟨_, rfl, hb2, rfl⟩))
      go_ret
      exact ⟨_, rfl, hAB.trans (hb2.mono hAB.size), by unfold lendI; rw [HX.out, HY.out]; rfl⟩
  | false =>
    go_enter Try.func13, Try.ntmps13
    go_wp2_with (go_at_call 40; refine HP.out.mono ?_; rintro e w1 ⟨_, rfl, hb1, rfl⟩)
    go_ret
    exact ⟨_, rfl, hA.trans (hb1.mono hA.size), by unfold lendI; rw [HX.out]; rfl⟩
end Go.Proofs.Ytnjmgholoigpkaa
