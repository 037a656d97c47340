/- What Make, Lend, Rise and Clear of package passage answer. -/
import Derived.Test.YtfmeajanbmaimaaGreatPaFlo
/- atMost. -/
namespace Go.Proofs.YtfmeajanbmaimaaGreat.Pa
open Go.RowKit Go.Sort
theorem ent_passage_named : Enters 213 := fun args W => by go_simp
theorem ent_slices_Concat___int_int_ : Enters 228 := fun args W => by go_simp
theorem ent_passage_under : Enters 210 := fun args W => by go_simp
/-- Is the label at most the greatest of the others? -/
def atMB (l : ML) (ls : List ML) : Bool := undB (gr [l]) (gr ls) (namL [l] ++ namL ls)
theorem LsV.le {ls : List ML} {v : Value} {W : World} (h : LsV ls v W) : ∀ x ∈ ls, x.2.length ≤ 16 := fun x hx => by
  obtain ⟨b, _, _, hL⟩ := h
  obtain ⟨j, hj, rfl⟩ := List.getElem_of_mem hx
  obtain ⟨_, _, _, _, _, _, _, h⟩ := hL j hj
  exact h
set_option maxRecDepth 100000 in
set_option maxHeartbeats 1000000 in
theorem atMost_c {l : ML} {ls : List ML} {v u : Value} {w : World} (hl : LV l v w) (hls : LsV ls u w) (hls16 : ls.length ≤ 16) :
    Calls Tryz.prog 188 #[v, u] w fun e w' => ∃ v', e = .returned v' ∧ Below w.heap.size w w' ∧ v' = .bool (atMB l ls) := by
  obtain ⟨pl, cl, rfl, hl1, hl2, hl3⟩ := id hl
  have hA : Below w.heap.size w (w.alloc (.cells #[.int .i64 l.1, .slice pl l.2.length cl] 26)) := by go_grown
  have hbl : LBox l (w.alloc (.cells #[.int .i64 l.1, .slice pl l.2.length cl] 26)) w.heap.size 0 := ⟨pl, cl, by simp, by simp [go_sem], by simp [go_sem], hl1.below hA, hl2, hl3⟩
  have hlsA := hls.below hA
  have hlen : (namL [l]).length + (namL ls).length < 1000000 := by
    have h1 := namL_len [l] (fun x hx => by simp at hx; subst hx; exact hl3)
    have h2 := namL_len ls hls.le
    simp at h1
    omega
  obtain ⟨b, rfl, hb0, hLL⟩ := id hls
  go_enter Tryz.func188, Tryz.ntmps188
  go_wp2_with fail
  refine wp_region_mono 13 (fun k v W => match k with | 5 => LV l v W | 6 => LsV [l] v W | 7 => Lev (gr [l]) v W | 8 => LsV ls v W | 9 => Lev (gr ls) v W | 10 => LV l v W | 11 => LsV [l] v W | 12 => IV (namL [l]) v W | 13 => LsV ls v W | 14 => IV (namL ls) v W | 15 => RsV (namL [l]) (namL ls) v W | 16 => IV ((namL [l]) ++ (namL ls)) v W | 17 => v = .bool (undB (gr [l]) (gr ls) ((namL [l]) ++ (namL ls))) | _ => True) (by kernel_rfl) (by kernel_rfl) (by kernel_rfl) (by kernel_rfl) (by simp) (by kernel_rfl) ?_ ?_ ?_
  · intro k v W W' h hb
    revert h
    try dsimp only
    split
    · intro h; exact LV.below h hb
    · intro h; exact LsV.below h hb
    · intro h; exact Lev.below h hb
    · intro h; exact LsV.below h hb
    · intro h; exact Lev.below h hb
    · intro h; exact LV.below h hb
    · intro h; exact LsV.below h hb
    · intro h; exact IV.below h hb
    · intro h; exact LsV.below h hb
    · intro h; exact IV.below h hb
    · intro h; exact RsV.below h hb
    · intro h; exact IV.below h hb
    · intro h; exact h
    · intro h; trivial
  · intro a' W hB hs hk i o d ho hd hG
    match i, ho with
    | 0, ho =>
      obtain rfl : _ = o := Option.some.inj ho
      obtain rfl : 5 = d := Option.some.inj hd
      obtain ⟨v, hr, hv⟩ := run_loadL (ev := a'.eval) (W := W) (hk 2 (by kernel_rfl)) (hbl.below hB)
      exact .inr ⟨rfl, .inl ⟨v, W, hr, Below.refl _ _, hv⟩⟩
    | 1, ho =>
      obtain rfl : _ = o := Option.some.inj ho
      obtain rfl : 6 = d := Option.some.inj hd
      have g5 : LV l (a'.eval (.tmp 5)) W := hG ⟨0, .data⟩ (by simp) rfl 5 rfl
      obtain ⟨v, W', hr, hb, hv⟩ := run_slice1 (ev := a'.eval) (W := W) rfl g5
      exact .inr ⟨rfl, .inl ⟨v, W', hr, hb, hv⟩⟩
    | 2, ho =>
      obtain rfl : _ = o := Option.some.inj ho
      obtain rfl : 7 = d := Option.some.inj hd
      have g6 : LsV [l] (a'.eval (.tmp 6)) W := hG ⟨1, .data⟩ (by simp) rfl 6 rfl
      exact .inr ⟨rfl, .inr ⟨_, _, run_call rfl map_1 ent_passage_greatest, greatest_c g6 (by first | exact hls16 | simp)⟩⟩
    | 3, ho =>
      obtain rfl : _ = o := Option.some.inj ho
      obtain rfl : 8 = d := Option.some.inj hd
      exact .inr ⟨rfl, .inl ⟨_, W, run_move (hk 1 (by kernel_rfl)), Below.refl _ _, hlsA.below hB⟩⟩
    | 4, ho =>
      obtain rfl : _ = o := Option.some.inj ho
      obtain rfl : 9 = d := Option.some.inj hd
      have g8 : LsV ls (a'.eval (.tmp 8)) W := hG ⟨3, .data⟩ (by simp) rfl 8 rfl
      exact .inr ⟨rfl, .inr ⟨_, _, run_call rfl map_1 ent_passage_greatest, greatest_c g8 (by first | exact hls16 | simp)⟩⟩
    | 5, ho =>
      obtain rfl : _ = o := Option.some.inj ho
      obtain rfl : 10 = d := Option.some.inj hd
      obtain ⟨v, hr, hv⟩ := run_loadL (ev := a'.eval) (W := W) (hk 2 (by kernel_rfl)) (hbl.below hB)
      exact .inr ⟨rfl, .inl ⟨v, W, hr, Below.refl _ _, hv⟩⟩
    | 6, ho =>
      obtain rfl : _ = o := Option.some.inj ho
      obtain rfl : 11 = d := Option.some.inj hd
      have g10 : LV l (a'.eval (.tmp 10)) W := hG ⟨5, .data⟩ (by simp) rfl 10 rfl
      obtain ⟨v, W', hr, hb, hv⟩ := run_slice1 (ev := a'.eval) (W := W) rfl g10
      exact .inr ⟨rfl, .inl ⟨v, W', hr, hb, hv⟩⟩
    | 7, ho =>
      obtain rfl : _ = o := Option.some.inj ho
      obtain rfl : 12 = d := Option.some.inj hd
      have g11 : LsV [l] (a'.eval (.tmp 11)) W := hG ⟨6, .data⟩ (by simp) rfl 11 rfl
      exact .inr ⟨rfl, .inr ⟨_, _, run_call rfl map_1 ent_passage_named, named_c g11 (by first | exact hls16 | simp)⟩⟩
    | 8, ho =>
      obtain rfl : _ = o := Option.some.inj ho
      obtain rfl : 13 = d := Option.some.inj hd
      exact .inr ⟨rfl, .inl ⟨_, W, run_move (hk 1 (by kernel_rfl)), Below.refl _ _, hlsA.below hB⟩⟩
    | 9, ho =>
      obtain rfl : _ = o := Option.some.inj ho
      obtain rfl : 14 = d := Option.some.inj hd
      have g13 : LsV ls (a'.eval (.tmp 13)) W := hG ⟨8, .data⟩ (by simp) rfl 13 rfl
      exact .inr ⟨rfl, .inr ⟨_, _, run_call rfl map_1 ent_passage_named, named_c g13 (by first | exact hls16 | simp)⟩⟩
    | 10, ho =>
      obtain rfl : _ = o := Option.some.inj ho
      obtain rfl : 15 = d := Option.some.inj hd
      have g12 : IV (namL [l]) (a'.eval (.tmp 12)) W := hG ⟨7, .data⟩ (by simp) rfl 12 rfl
      have g14 : IV (namL ls) (a'.eval (.tmp 14)) W := hG ⟨9, .data⟩ (by simp) rfl 14 rfl
      obtain ⟨v, W', hr, hb, hv⟩ := run_rows (ev := a'.eval) (W := W) rfl rfl g12 g14
      exact .inr ⟨rfl, .inl ⟨v, W', hr, hb, hv⟩⟩
    | 11, ho =>
      obtain rfl : _ = o := Option.some.inj ho
      obtain rfl : 16 = d := Option.some.inj hd
      have g15 : RsV (namL [l]) (namL ls) (a'.eval (.tmp 15)) W := hG ⟨10, .data⟩ (by simp) rfl 15 rfl
      exact .inr ⟨rfl, .inr ⟨_, _, run_call rfl map_1 ent_slices_Concat___int_int_, Concat_c g15 hlen⟩⟩
    | 12, ho =>
      obtain rfl : _ = o := Option.some.inj ho
      obtain rfl : 17 = d := Option.some.inj hd
      have g7 : Lev (gr [l]) (a'.eval (.tmp 7)) W := hG ⟨2, .data⟩ (by simp) rfl 7 rfl
      have g9 : Lev (gr ls) (a'.eval (.tmp 9)) W := hG ⟨4, .data⟩ (by simp) rfl 9 rfl
      have g16 : IV ((namL [l]) ++ (namL ls)) (a'.eval (.tmp 16)) W := hG ⟨11, .data⟩ (by simp) rfl 16 rfl
      exact .inr ⟨rfl, .inr ⟨_, _, run_call rfl map_3 ent_passage_under, under_c g7 g9 g16 (by rw [List.length_append]; exact hlen)⟩⟩
    | j + 13, ho => simp at ho
  · intro a' W hB hs hdf hk hG
    obtain ⟨tm, df⟩ := a'
    obtain rfl : df = [] := hdf
    have e0 : tm.getD 0 undef = .agg #[.int .i64 l.fst, .slice pl l.snd.length cl] := hk 0 (by kernel_rfl)
    have e1 : tm.getD 1 undef = .slice (some ⟨b, 0, none⟩) ls.length ls.length := hk 1 (by kernel_rfl)
    have e2 : tm.getD 2 undef = .pointer (some ⟨w.heap.size, 0, none⟩) := hk 2 (by kernel_rfl)
    have e3 : tm.getD 3 undef = undef := hk 3 (by kernel_rfl)
    have e4 : tm.getD 4 undef = .bool false := hk 4 (by kernel_rfl)
    have g5 : LV l (tm.getD 5 undef) W := hG 0 5 (by decide) rfl
    have g6 : LsV [l] (tm.getD 6 undef) W := hG 1 6 (by decide) rfl
    have g7 : Lev (gr [l]) (tm.getD 7 undef) W := hG 2 7 (by decide) rfl
    have g8 : LsV ls (tm.getD 8 undef) W := hG 3 8 (by decide) rfl
    have g9 : Lev (gr ls) (tm.getD 9 undef) W := hG 4 9 (by decide) rfl
    have g10 : LV l (tm.getD 10 undef) W := hG 5 10 (by decide) rfl
    have g11 : LsV [l] (tm.getD 11 undef) W := hG 6 11 (by decide) rfl
    have g12 : IV (namL [l]) (tm.getD 12 undef) W := hG 7 12 (by decide) rfl
    have g13 : LsV ls (tm.getD 13 undef) W := hG 8 13 (by decide) rfl
    have g14 : IV (namL ls) (tm.getD 14 undef) W := hG 9 14 (by decide) rfl
    have g15 : RsV (namL [l]) (namL ls) (tm.getD 15 undef) W := hG 10 15 (by decide) rfl
    have g16 : IV ((namL [l]) ++ (namL ls)) (tm.getD 16 undef) W := hG 11 16 (by decide) rfl
    have g17 : (tm.getD 17 undef) = .bool (undB (gr [l]) (gr ls) ((namL [l]) ++ (namL ls))) := hG 12 17 (by decide) rfl
    have htm := arr_of tm [.agg #[.int .i64 l.fst, .slice pl l.snd.length cl], .slice (some ⟨b, 0, none⟩) ls.length ls.length, .pointer (some ⟨w.heap.size, 0, none⟩), undef, .bool false, tm.getD 5 undef, tm.getD 6 undef, tm.getD 7 undef, tm.getD 8 undef, tm.getD 9 undef, tm.getD 10 undef, tm.getD 11 undef, tm.getD 12 undef, tm.getD 13 undef, tm.getD 14 undef, tm.getD 15 undef, tm.getD 16 undef, tm.getD 17 undef] hs (by show [tm.getD 0 undef, tm.getD 1 undef, tm.getD 2 undef, tm.getD 3 undef, tm.getD 4 undef, tm.getD 5 undef, tm.getD 6 undef, tm.getD 7 undef, tm.getD 8 undef, tm.getD 9 undef, tm.getD 10 undef, tm.getD 11 undef, tm.getD 12 undef, tm.getD 13 undef, tm.getD 14 undef, tm.getD 15 undef, tm.getD 16 undef, tm.getD 17 undef] = _; rw [e0, e1, e2, e3, e4])
    clear hs hk hG e0 e1 e2 e3 e4
    generalize tm.getD 5 undef = t5 at htm g5
    generalize tm.getD 6 undef = t6 at htm g6
    generalize tm.getD 7 undef = t7 at htm g7
    generalize tm.getD 8 undef = t8 at htm g8
    generalize tm.getD 9 undef = t9 at htm g9
    generalize tm.getD 10 undef = t10 at htm g10
    generalize tm.getD 11 undef = t11 at htm g11
    generalize tm.getD 12 undef = t12 at htm g12
    generalize tm.getD 13 undef = t13 at htm g13
    generalize tm.getD 14 undef = t14 at htm g14
    generalize tm.getD 15 undef = t15 at htm g15
    generalize tm.getD 16 undef = t16 at htm g16
    generalize tm.getD 17 undef = t17 at htm g17
    subst htm
    subst g17
    simp only [List.drop_succ_cons, List.drop_zero]
    go_wp2
    go_ret
    exact ⟨_, rfl, hA.trans (hB.mono hA.size), rfl⟩
end Go.Proofs.YtfmeajanbmaimaaGreat.Pa
namespace Go.Proofs.YtfmeajanbmaimaaGreat.Pa
open Go.RowKit Go.Sort
theorem ent_label_Alters : Enters 101 := fun args W => by go_simp
theorem ent_passage_atMost : Enters 188 := fun args W => by go_simp
theorem ent_passage_allow : Enters 187 := fun args W => by go_simp
def makeI (t c box l : ML) : Int := allowI [altersS t.1 box.1 t.2 box.2, atMB t [l], atMB l [c], atMB box [upM l, ((2, []) : ML)]]
set_option maxRecDepth 100000 in
set_option maxHeartbeats 1000000 in
theorem Make_c {t c box l : ML} {vt vc vbox vl : Value} {w : World} (ht : LV t vt w) (hc : LV c vc w) (hbox : LV box vbox w) (hl : LV l vl w) :
    Calls Tryz.prog 191 #[vt, vc, vbox, vl] w fun e w' => ∃ v', e = .returned v' ∧ Below w.heap.size w w' ∧ v' = .int .i64 (makeI t c box l) := by
  obtain ⟨pt, ct, rfl, ht1, ht2, ht3⟩ := id ht
  obtain ⟨pc, cc, rfl, hc1, hc2, hc3⟩ := id hc
  obtain ⟨pbox, cbox, rfl, hbox1, hbox2, hbox3⟩ := id hbox
  obtain ⟨pl, cl, rfl, hl1, hl2, hl3⟩ := id hl
  have hA : Below w.heap.size w ((((w.alloc (.cells #[.int .i64 t.1, .slice pt t.2.length ct] 26)).alloc (.cells #[.int .i64 c.1, .slice pc c.2.length cc] 26)).alloc (.cells #[.int .i64 box.1, .slice pbox box.2.length cbox] 26)).alloc (.cells #[.int .i64 l.1, .slice pl l.2.length cl] 26)) := by go_grown
  have hbt : LBox t ((((w.alloc (.cells #[.int .i64 t.1, .slice pt t.2.length ct] 26)).alloc (.cells #[.int .i64 c.1, .slice pc c.2.length cc] 26)).alloc (.cells #[.int .i64 box.1, .slice pbox box.2.length cbox] 26)).alloc (.cells #[.int .i64 l.1, .slice pl l.2.length cl] 26)) w.heap.size 0 := ⟨pt, ct, by simp <;> omega, by simp [go_sem], by simp [go_sem], ht1.below hA, ht2, ht3⟩
  have hbc : LBox c ((((w.alloc (.cells #[.int .i64 t.1, .slice pt t.2.length ct] 26)).alloc (.cells #[.int .i64 c.1, .slice pc c.2.length cc] 26)).alloc (.cells #[.int .i64 box.1, .slice pbox box.2.length cbox] 26)).alloc (.cells #[.int .i64 l.1, .slice pl l.2.length cl] 26)) (w.heap.size + 1) 0 := ⟨pc, cc, by simp <;> omega, by simp [go_sem], by simp [go_sem], hc1.below hA, hc2, hc3⟩
  have hbbox : LBox box ((((w.alloc (.cells #[.int .i64 t.1, .slice pt t.2.length ct] 26)).alloc (.cells #[.int .i64 c.1, .slice pc c.2.length cc] 26)).alloc (.cells #[.int .i64 box.1, .slice pbox box.2.length cbox] 26)).alloc (.cells #[.int .i64 l.1, .slice pl l.2.length cl] 26)) (w.heap.size + 1 + 1) 0 := ⟨pbox, cbox, by simp <;> omega, by simp [go_sem], by simp [go_sem], hbox1.below hA, hbox2, hbox3⟩
  have hbl : LBox l ((((w.alloc (.cells #[.int .i64 t.1, .slice pt t.2.length ct] 26)).alloc (.cells #[.int .i64 c.1, .slice pc c.2.length cc] 26)).alloc (.cells #[.int .i64 box.1, .slice pbox box.2.length cbox] 26)).alloc (.cells #[.int .i64 l.1, .slice pl l.2.length cl] 26)) (w.heap.size + 1 + 1 + 1) 0 := ⟨pl, cl, by simp <;> omega, by simp [go_sem], by simp [go_sem], hl1.below hA, hl2, hl3⟩
  go_enter Tryz.func191, Tryz.ntmps191
  go_wp2_with fail
  refine wp_region_mono 19 (fun k v W => match k with | 9 => LV t v W | 10 => LV box v W | 11 => v = .bool (altersS t.1 box.1 t.2 box.2) | 12 => LV t v W | 13 => LV l v W | 14 => LsV [l] v W | 15 => v = .bool (atMB t [l]) | 16 => LV l v W | 17 => LV c v W | 18 => LsV [c] v W | 19 => v = .bool (atMB l [c]) | 20 => LV box v W | 21 => LV l v W | 22 => LV (upM l) v W | 23 => LV ((2, []) : ML) v W | 24 => LsV [(upM l), ((2, []) : ML)] v W | 25 => v = .bool (atMB box [(upM l), ((2, []) : ML)]) | 26 => BsV [(altersS t.1 box.1 t.2 box.2), (atMB t [l]), (atMB l [c]), (atMB box [(upM l), ((2, []) : ML)])] v W | 27 => v = .int .i64 (allowI [(altersS t.1 box.1 t.2 box.2), (atMB t [l]), (atMB l [c]), (atMB box [(upM l), ((2, []) : ML)])]) | _ => True) (by kernel_rfl) (by kernel_rfl) (by kernel_rfl) (by kernel_rfl) (by simp) (by kernel_rfl) ?_ ?_ ?_
  · intro k v W W' h hb
    revert h
    try dsimp only
    split
    · intro h; exact LV.below h hb
    · intro h; exact LV.below h hb
    · intro h; exact h
    · intro h; exact LV.below h hb
    · intro h; exact LV.below h hb
    · intro h; exact LsV.below h hb
    · intro h; exact h
    · intro h; exact LV.below h hb
    · intro h; exact LV.below h hb
    · intro h; exact LsV.below h hb
    · intro h; exact h
    · intro h; exact LV.below h hb
    · intro h; exact LV.below h hb
    · intro h; exact LV.below h hb
    · intro h; exact LV.below h hb
    · intro h; exact LsV.below h hb
    · intro h; exact h
    · intro h; exact BsV.below h hb
    · intro h; exact h
    · intro h; trivial
  · intro a' W hB hs hk i o d ho hd hG
    match i, ho with
    | 0, ho =>
      obtain rfl : _ = o := Option.some.inj ho
      obtain rfl : 9 = d := Option.some.inj hd
      obtain ⟨v, hr, hv⟩ := run_loadL (ev := a'.eval) (W := W) (hk 4 (by kernel_rfl)) (hbt.below hB)
      exact .inr ⟨rfl, .inl ⟨v, W, hr, Below.refl _ _, hv⟩⟩
    | 1, ho =>
      obtain rfl : _ = o := Option.some.inj ho
      obtain rfl : 10 = d := Option.some.inj hd
      obtain ⟨v, hr, hv⟩ := run_loadL (ev := a'.eval) (W := W) (hk 6 (by kernel_rfl)) (hbbox.below hB)
      exact .inr ⟨rfl, .inl ⟨v, W, hr, Below.refl _ _, hv⟩⟩
    | 2, ho =>
      obtain rfl : _ = o := Option.some.inj ho
      obtain rfl : 11 = d := Option.some.inj hd
      have g9 : LV t (a'.eval (.tmp 9)) W := hG ⟨0, .data⟩ (by simp) rfl 9 rfl
      have g10 : LV box (a'.eval (.tmp 10)) W := hG ⟨1, .data⟩ (by simp) rfl 10 rfl
      exact .inr ⟨rfl, .inr ⟨_, _, run_call rfl map_2 ent_label_Alters, Alters_c g9 g10⟩⟩
    | 3, ho =>
      obtain rfl : _ = o := Option.some.inj ho
      obtain rfl : 12 = d := Option.some.inj hd
      obtain ⟨v, hr, hv⟩ := run_loadL (ev := a'.eval) (W := W) (hk 4 (by kernel_rfl)) (hbt.below hB)
      exact .inr ⟨rfl, .inl ⟨v, W, hr, Below.refl _ _, hv⟩⟩
    | 4, ho =>
      obtain rfl : _ = o := Option.some.inj ho
      obtain rfl : 13 = d := Option.some.inj hd
      obtain ⟨v, hr, hv⟩ := run_loadL (ev := a'.eval) (W := W) (hk 7 (by kernel_rfl)) (hbl.below hB)
      exact .inr ⟨rfl, .inl ⟨v, W, hr, Below.refl _ _, hv⟩⟩
    | 5, ho =>
      obtain rfl : _ = o := Option.some.inj ho
      obtain rfl : 14 = d := Option.some.inj hd
      have g13 : LV l (a'.eval (.tmp 13)) W := hG ⟨4, .data⟩ (by simp) rfl 13 rfl
      obtain ⟨v, W', hr, hb, hv⟩ := run_slice1 (ev := a'.eval) (W := W) rfl g13
      exact .inr ⟨rfl, .inl ⟨v, W', hr, hb, hv⟩⟩
    | 6, ho =>
      obtain rfl : _ = o := Option.some.inj ho
      obtain rfl : 15 = d := Option.some.inj hd
      have g12 : LV t (a'.eval (.tmp 12)) W := hG ⟨3, .data⟩ (by simp) rfl 12 rfl
      have g14 : LsV [l] (a'.eval (.tmp 14)) W := hG ⟨5, .data⟩ (by simp) rfl 14 rfl
      exact .inr ⟨rfl, .inr ⟨_, _, run_call rfl map_2 ent_passage_atMost, atMost_c g12 g14 (by simp)⟩⟩
    | 7, ho =>
      obtain rfl : _ = o := Option.some.inj ho
      obtain rfl : 16 = d := Option.some.inj hd
      obtain ⟨v, hr, hv⟩ := run_loadL (ev := a'.eval) (W := W) (hk 7 (by kernel_rfl)) (hbl.below hB)
      exact .inr ⟨rfl, .inl ⟨v, W, hr, Below.refl _ _, hv⟩⟩
    | 8, ho =>
      obtain rfl : _ = o := Option.some.inj ho
      obtain rfl : 17 = d := Option.some.inj hd
      obtain ⟨v, hr, hv⟩ := run_loadL (ev := a'.eval) (W := W) (hk 5 (by kernel_rfl)) (hbc.below hB)
      exact .inr ⟨rfl, .inl ⟨v, W, hr, Below.refl _ _, hv⟩⟩
    | 9, ho =>
      obtain rfl : _ = o := Option.some.inj ho
      obtain rfl : 18 = d := Option.some.inj hd
      have g17 : LV c (a'.eval (.tmp 17)) W := hG ⟨8, .data⟩ (by simp) rfl 17 rfl
      obtain ⟨v, W', hr, hb, hv⟩ := run_slice1 (ev := a'.eval) (W := W) rfl g17
      exact .inr ⟨rfl, .inl ⟨v, W', hr, hb, hv⟩⟩
    | 10, ho =>
      obtain rfl : _ = o := Option.some.inj ho
      obtain rfl : 19 = d := Option.some.inj hd
      have g16 : LV l (a'.eval (.tmp 16)) W := hG ⟨7, .data⟩ (by simp) rfl 16 rfl
      have g18 : LsV [c] (a'.eval (.tmp 18)) W := hG ⟨9, .data⟩ (by simp) rfl 18 rfl
      exact .inr ⟨rfl, .inr ⟨_, _, run_call rfl map_2 ent_passage_atMost, atMost_c g16 g18 (by simp)⟩⟩
    | 11, ho =>
      obtain rfl : _ = o := Option.some.inj ho
      obtain rfl : 20 = d := Option.some.inj hd
      obtain ⟨v, hr, hv⟩ := run_loadL (ev := a'.eval) (W := W) (hk 6 (by kernel_rfl)) (hbbox.below hB)
      exact .inr ⟨rfl, .inl ⟨v, W, hr, Below.refl _ _, hv⟩⟩
    | 12, ho =>
      obtain rfl : _ = o := Option.some.inj ho
      obtain rfl : 21 = d := Option.some.inj hd
      obtain ⟨v, hr, hv⟩ := run_loadL (ev := a'.eval) (W := W) (hk 7 (by kernel_rfl)) (hbl.below hB)
      exact .inr ⟨rfl, .inl ⟨v, W, hr, Below.refl _ _, hv⟩⟩
    | 13, ho =>
      obtain rfl : _ = o := Option.some.inj ho
      obtain rfl : 22 = d := Option.some.inj hd
      have g21 : LV l (a'.eval (.tmp 21)) W := hG ⟨12, .data⟩ (by simp) rfl 21 rfl
      exact .inr ⟨rfl, .inr ⟨_, _, run_call rfl map_1 ent_label_Up, Up_c g21⟩⟩
    | 14, ho =>
      obtain rfl : _ = o := Option.some.inj ho
      obtain rfl : 23 = d := Option.some.inj hd
      exact .inr ⟨rfl, .inl ⟨_, W, run_build _ 2 rfl, Below.refl _ _, lv_nil 2 W⟩⟩
    | 15, ho =>
      obtain rfl : _ = o := Option.some.inj ho
      obtain rfl : 24 = d := Option.some.inj hd
      have g22 : LV (upM l) (a'.eval (.tmp 22)) W := hG ⟨13, .data⟩ (by simp) rfl 22 rfl
      have g23 : LV ((2, []) : ML) (a'.eval (.tmp 23)) W := hG ⟨14, .data⟩ (by simp) rfl 23 rfl
      obtain ⟨v, W', hr, hb, hv⟩ := run_slice2 (ev := a'.eval) (W := W) rfl rfl g22 g23
      exact .inr ⟨rfl, .inl ⟨v, W', hr, hb, hv⟩⟩
    | 16, ho =>
      obtain rfl : _ = o := Option.some.inj ho
      obtain rfl : 25 = d := Option.some.inj hd
      have g20 : LV box (a'.eval (.tmp 20)) W := hG ⟨11, .data⟩ (by simp) rfl 20 rfl
      have g24 : LsV [(upM l), ((2, []) : ML)] (a'.eval (.tmp 24)) W := hG ⟨15, .data⟩ (by simp) rfl 24 rfl
      exact .inr ⟨rfl, .inr ⟨_, _, run_call rfl map_2 ent_passage_atMost, atMost_c g20 g24 (by simp)⟩⟩
    | 17, ho =>
      obtain rfl : _ = o := Option.some.inj ho
      obtain rfl : 26 = d := Option.some.inj hd
      have g11 : (a'.eval (.tmp 11)) = .bool (altersS t.1 box.1 t.2 box.2) := hG ⟨2, .data⟩ (by simp) rfl 11 rfl
      have g15 : (a'.eval (.tmp 15)) = .bool (atMB t [l]) := hG ⟨6, .data⟩ (by simp) rfl 15 rfl
      have g19 : (a'.eval (.tmp 19)) = .bool (atMB l [c]) := hG ⟨10, .data⟩ (by simp) rfl 19 rfl
      have g25 : (a'.eval (.tmp 25)) = .bool (atMB box [(upM l), ((2, []) : ML)]) := hG ⟨16, .data⟩ (by simp) rfl 25 rfl
      obtain ⟨v, W', hr, hb, hv⟩ := run_bools4 (ev := a'.eval) (W := W) g11 g15 g19 g25
      exact .inr ⟨rfl, .inl ⟨v, W', hr, hb, hv⟩⟩
    | 18, ho =>
      obtain rfl : _ = o := Option.some.inj ho
      obtain rfl : 27 = d := Option.some.inj hd
      have g26 : BsV [(altersS t.1 box.1 t.2 box.2), (atMB t [l]), (atMB l [c]), (atMB box [(upM l), ((2, []) : ML)])] (a'.eval (.tmp 26)) W := hG ⟨17, .data⟩ (by simp) rfl 26 rfl
      exact .inr ⟨rfl, .inr ⟨_, _, run_call rfl map_1 ent_passage_allow, allow_c g26 (by simp)⟩⟩
    | j + 19, ho => simp at ho
  · intro a' W hB hs hdf hk hG
    obtain ⟨tm, df⟩ := a'
    obtain rfl : df = [] := hdf
    have e0 : tm.getD 0 undef = .agg #[.int .i64 t.fst, .slice pt t.snd.length ct] := hk 0 (by kernel_rfl)
    have e1 : tm.getD 1 undef = .agg #[.int .i64 c.fst, .slice pc c.snd.length cc] := hk 1 (by kernel_rfl)
    have e2 : tm.getD 2 undef = .agg #[.int .i64 box.fst, .slice pbox box.snd.length cbox] := hk 2 (by kernel_rfl)
    have e3 : tm.getD 3 undef = .agg #[.int .i64 l.fst, .slice pl l.snd.length cl] := hk 3 (by kernel_rfl)
    have e4 : tm.getD 4 undef = .pointer (some ⟨w.heap.size, 0, none⟩) := hk 4 (by kernel_rfl)
    have e5 : tm.getD 5 undef = .pointer (some ⟨w.heap.size + 1, 0, none⟩) := hk 5 (by kernel_rfl)
    have e6 : tm.getD 6 undef = .pointer (some ⟨w.heap.size + 1 + 1, 0, none⟩) := hk 6 (by kernel_rfl)
    have e7 : tm.getD 7 undef = .pointer (some ⟨w.heap.size + 1 + 1 + 1, 0, none⟩) := hk 7 (by kernel_rfl)
    have e8 : tm.getD 8 undef = .int .i64 0 := hk 8 (by kernel_rfl)
    have g9 : LV t (tm.getD 9 undef) W := hG 0 9 (by decide) rfl
    have g10 : LV box (tm.getD 10 undef) W := hG 1 10 (by decide) rfl
    have g11 : (tm.getD 11 undef) = .bool (altersS t.1 box.1 t.2 box.2) := hG 2 11 (by decide) rfl
    have g12 : LV t (tm.getD 12 undef) W := hG 3 12 (by decide) rfl
    have g13 : LV l (tm.getD 13 undef) W := hG 4 13 (by decide) rfl
    have g14 : LsV [l] (tm.getD 14 undef) W := hG 5 14 (by decide) rfl
    have g15 : (tm.getD 15 undef) = .bool (atMB t [l]) := hG 6 15 (by decide) rfl
    have g16 : LV l (tm.getD 16 undef) W := hG 7 16 (by decide) rfl
    have g17 : LV c (tm.getD 17 undef) W := hG 8 17 (by decide) rfl
    have g18 : LsV [c] (tm.getD 18 undef) W := hG 9 18 (by decide) rfl
    have g19 : (tm.getD 19 undef) = .bool (atMB l [c]) := hG 10 19 (by decide) rfl
    have g20 : LV box (tm.getD 20 undef) W := hG 11 20 (by decide) rfl
    have g21 : LV l (tm.getD 21 undef) W := hG 12 21 (by decide) rfl
    have g22 : LV (upM l) (tm.getD 22 undef) W := hG 13 22 (by decide) rfl
    have g23 : LV ((2, []) : ML) (tm.getD 23 undef) W := hG 14 23 (by decide) rfl
    have g24 : LsV [(upM l), ((2, []) : ML)] (tm.getD 24 undef) W := hG 15 24 (by decide) rfl
    have g25 : (tm.getD 25 undef) = .bool (atMB box [(upM l), ((2, []) : ML)]) := hG 16 25 (by decide) rfl
    have g26 : BsV [(altersS t.1 box.1 t.2 box.2), (atMB t [l]), (atMB l [c]), (atMB box [(upM l), ((2, []) : ML)])] (tm.getD 26 undef) W := hG 17 26 (by decide) rfl
    have g27 : (tm.getD 27 undef) = .int .i64 (allowI [(altersS t.1 box.1 t.2 box.2), (atMB t [l]), (atMB l [c]), (atMB box [(upM l), ((2, []) : ML)])]) := hG 18 27 (by decide) rfl
    have htm := arr_of tm [.agg #[.int .i64 t.fst, .slice pt t.snd.length ct], .agg #[.int .i64 c.fst, .slice pc c.snd.length cc], .agg #[.int .i64 box.fst, .slice pbox box.snd.length cbox], .agg #[.int .i64 l.fst, .slice pl l.snd.length cl], .pointer (some ⟨w.heap.size, 0, none⟩), .pointer (some ⟨w.heap.size + 1, 0, none⟩), .pointer (some ⟨w.heap.size + 1 + 1, 0, none⟩), .pointer (some ⟨w.heap.size + 1 + 1 + 1, 0, none⟩), .int .i64 0, tm.getD 9 undef, tm.getD 10 undef, tm.getD 11 undef, tm.getD 12 undef, tm.getD 13 undef, tm.getD 14 undef, tm.getD 15 undef, tm.getD 16 undef, tm.getD 17 undef, tm.getD 18 undef, tm.getD 19 undef, tm.getD 20 undef, tm.getD 21 undef, tm.getD 22 undef, tm.getD 23 undef, tm.getD 24 undef, tm.getD 25 undef, tm.getD 26 undef, tm.getD 27 undef] hs (by show [tm.getD 0 undef, tm.getD 1 undef, tm.getD 2 undef, tm.getD 3 undef, tm.getD 4 undef, tm.getD 5 undef, tm.getD 6 undef, tm.getD 7 undef, tm.getD 8 undef, tm.getD 9 undef, tm.getD 10 undef, tm.getD 11 undef, tm.getD 12 undef, tm.getD 13 undef, tm.getD 14 undef, tm.getD 15 undef, tm.getD 16 undef, tm.getD 17 undef, tm.getD 18 undef, tm.getD 19 undef, tm.getD 20 undef, tm.getD 21 undef, tm.getD 22 undef, tm.getD 23 undef, tm.getD 24 undef, tm.getD 25 undef, tm.getD 26 undef, tm.getD 27 undef] = _; rw [e0, e1, e2, e3, e4, e5, e6, e7, e8])
    clear hs hk hG e0 e1 e2 e3 e4 e5 e6 e7 e8
    generalize tm.getD 9 undef = t9 at htm g9
    generalize tm.getD 10 undef = t10 at htm g10
    generalize tm.getD 11 undef = t11 at htm g11
    generalize tm.getD 12 undef = t12 at htm g12
    generalize tm.getD 13 undef = t13 at htm g13
    generalize tm.getD 14 undef = t14 at htm g14
    generalize tm.getD 15 undef = t15 at htm g15
    generalize tm.getD 16 undef = t16 at htm g16
    generalize tm.getD 17 undef = t17 at htm g17
    generalize tm.getD 18 undef = t18 at htm g18
    generalize tm.getD 19 undef = t19 at htm g19
    generalize tm.getD 20 undef = t20 at htm g20
    generalize tm.getD 21 undef = t21 at htm g21
    generalize tm.getD 22 undef = t22 at htm g22
    generalize tm.getD 23 undef = t23 at htm g23
    generalize tm.getD 24 undef = t24 at htm g24
    generalize tm.getD 25 undef = t25 at htm g25
    generalize tm.getD 26 undef = t26 at htm g26
    generalize tm.getD 27 undef = t27 at htm g27
    subst htm
    subst g11
    subst g15
    subst g19
    subst g25
    subst g27
    simp only [List.drop_succ_cons, List.drop_zero]
    go_wp2
    go_ret
    exact ⟨_, rfl, hA.trans (hB.mono hA.size), rfl⟩
end Go.Proofs.YtfmeajanbmaimaaGreat.Pa
