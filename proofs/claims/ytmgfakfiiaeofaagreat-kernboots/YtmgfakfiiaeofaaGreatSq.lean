/- A row of slots, one after another. -/
import Derived.Test.YtmgfakfiiaeofaaGreatPaAtM
import Derived.Test.YtmgfakfiiaeofaaGreatKNewP
import Derived.Test.YtmgfakfiiaeofaaGreatPaBase
import Derived.Test.YtmgfakfiiaeofaaGreatPgSize
import Derived.Test.YtmgfakfiiaeofaaGreatRows
import Derived.WalkKit
import Derived.ProofKit
import Derived.OpenShut
import Derived.Deep.DeepHandedRow
import Derived.ChangeMaps5
import Derived.Lib.SmallJoins
import Derived.Deep.Slices
import Derived.Test.YtmgfakfiiaeofaaGreatProg
/- What Make, Lend, Rise and Clear of package passage answer. -/
namespace Go.Proofs.YtmgfakfiiaeofaaGreat.Pa
open Go.RowKit Go.Sort
theorem ent_label_Alters : Enters 178 := fun args W => by go_simp
theorem ent_passage_atMost : Enters 173 := fun args W => by go_simp
theorem ent_passage_allow : Enters 172 := fun args W => by go_simp
def makeI (t c box l : ML) : Int := allowI [altersS t.1 box.1 t.2 box.2, atMB t [l], atMB l [c], atMB box [upM l, ((2, []) : ML)]]
set_option maxRecDepth 100000 in
set_option maxHeartbeats 1000000 in
theorem Make_c {t c box l : ML} {vt vc vbox vl : Value} {w : World} (ht : LV t vt w) (hc : LV c vc w) (hbox : LV box vbox w) (hl : LV l vl w) :
 Calls Tryz.prog 179 #[vt, vc, vbox, vl] w fun e w' => ∃ v', e = .returned v' /\ Below w.heap.size w w' /\ v' = .int .i64 (makeI t c box l) := by
 obtain ⟨pt, ct, rfl, ht1, ht2, ht3⟩ := id ht
 obtain ⟨pc, cc, rfl, hc1, hc2, hc3⟩ := id hc
 obtain ⟨pbox, cbox, rfl, hbox1, hbox2, hbox3⟩ := id hbox
 obtain ⟨pl, cl, rfl, hl1, hl2, hl3⟩ := id hl
 have hA : Below w.heap.size w ((((w.alloc (.cells #[.int .i64 t.1, .slice pt t.2.length ct] 46)).alloc (.cells #[.int .i64 c.1, .slice pc c.2.length cc] 46)).alloc (.cells #[.int .i64 box.1, .slice pbox box.2.length cbox] 46)).alloc (.cells #[.int .i64 l.1, .slice pl l.2.length cl] 46)) := by go_grown
 have hbt : LBox t ((((w.alloc (.cells #[.int .i64 t.1, .slice pt t.2.length ct] 46)).alloc (.cells #[.int .i64 c.1, .slice pc c.2.length cc] 46)).alloc (.cells #[.int .i64 box.1, .slice pbox box.2.length cbox] 46)).alloc (.cells #[.int .i64 l.1, .slice pl l.2.length cl] 46)) w.heap.size 0 := ⟨pt, ct, by simp <;> omega, by simp [go_sem], by simp [go_sem], ht1.below hA, ht2, ht3⟩
 have hbc : LBox c ((((w.alloc (.cells #[.int .i64 t.1, .slice pt t.2.length ct] 46)).alloc (.cells #[.int .i64 c.1, .slice pc c.2.length cc] 46)).alloc (.cells #[.int .i64 box.1, .slice pbox box.2.length cbox] 46)).alloc (.cells #[.int .i64 l.1, .slice pl l.2.length cl] 46)) (w.heap.size + 1) 0 := ⟨pc, cc, by simp <;> omega, by simp [go_sem], by simp [go_sem], hc1.below hA, hc2, hc3⟩
 have hbbox : LBox box ((((w.alloc (.cells #[.int .i64 t.1, .slice pt t.2.length ct] 46)).alloc (.cells #[.int .i64 c.1, .slice pc c.2.length cc] 46)).alloc (.cells #[.int .i64 box.1, .slice pbox box.2.length cbox] 46)).alloc (.cells #[.int .i64 l.1, .slice pl l.2.length cl] 46)) (w.heap.size + 1 + 1) 0 := ⟨pbox, cbox, by simp <;> omega, by simp [go_sem], by simp [go_sem], hbox1.below hA, hbox2, hbox3⟩
 have hbl : LBox l ((((w.alloc (.cells #[.int .i64 t.1, .slice pt t.2.length ct] 46)).alloc (.cells #[.int .i64 c.1, .slice pc c.2.length cc] 46)).alloc (.cells #[.int .i64 box.1, .slice pbox box.2.length cbox] 46)).alloc (.cells #[.int .i64 l.1, .slice pl l.2.length cl] 46)) (w.heap.size + 1 + 1 + 1) 0 := ⟨pl, cl, by simp <;> omega, by simp [go_sem], by simp [go_sem], hl1.below hA, hl2, hl3⟩
 go_enter Tryz.func179, Tryz.ntmps179
 go_wp2_with fail
 refine wp_region_mono 19 (fun k v W => match k with | 9 => LV t v W | 10 => LV box v W | 11 => v = .bool (altersS t.1 box.1 t.2 box.2) | 12 => LV t v W | 13 => LV l v W | 14 => LsV [l] v W | 15 => v = .bool (atMB t [l]) | 16 => LV l v W | 17 => LV c v W | 18 => LsV [c] v W | 19 => v = .bool (atMB l [c]) | 20 => LV box v W | 21 => LV l v W | 22 => LV (upM l) v W | 23 => LV ((2, []) : ML) v W | 24 => LsV [(upM l), ((2, []) : ML)] v W | 25 => v = .bool (atMB box [(upM l), ((2, []) : ML)]) | 26 => BsV [(altersS t.1 box.1 t.2 box.2), (atMB t [l]), (atMB l [c]), (atMB box [(upM l), ((2, []) : ML)])] v W | 27 => v = .int .i64 (allowI [(altersS t.1 box.1 t.2 box.2), (atMB t [l]), (atMB l [c]), (atMB box [(upM l), ((2, []) : ML)])]) | _ => True) (by kernel_rfl) (by kernel_rfl) (by kernel_rfl) (by kernel_rfl) (by simp) (by kernel_rfl) ?_ ?_ ?_
 · intro k v W W' h hb
   revert h
   try dsimp only
   split
   · intro h; exact LV.below h hb
   · intro h; exact LV.below h hb
   · intro h; exact h
   · intro h; exact LV.below h hb
   · intro h; exact LV.below h hb
   · intro h; exact LsV.below h hb
   · intro h; exact h
   · intro h; exact LV.below h hb
   · intro h; exact LV.below h hb
   · intro h; exact LsV.below h hb
   · intro h; exact h
   · intro h; exact LV.below h hb
   · intro h; exact LV.below h hb
   · intro h; exact LV.below h hb
   · intro h; exact LV.below h hb
   · intro h; exact LsV.below h hb
   · intro h; exact h
   · intro h; exact BsV.below h hb
   · intro h; exact h
   · intro h; trivial
 · intro a' W hB hs hk i o d ho hd hG
   match i, ho with
   | 0, ho =>
    cases ho
    obtain rfl : 9 = d := Option.some.inj hd
    obtain ⟨v, hr, hv⟩ := run_loadL (ev := a'.eval) (W := W) (hk 4 (by kernel_rfl)) (hbt.below hB)
    exact .inr ⟨rfl, .inl ⟨v, W, hr, Below.refl _ _, hv⟩⟩
   | 1, ho =>
    cases ho
    obtain rfl : 10 = d := Option.some.inj hd
    obtain ⟨v, hr, hv⟩ := run_loadL (ev := a'.eval) (W := W) (hk 6 (by kernel_rfl)) (hbbox.below hB)
    exact .inr ⟨rfl, .inl ⟨v, W, hr, Below.refl _ _, hv⟩⟩
   | 2, ho =>
    cases ho
    obtain rfl : 11 = d := Option.some.inj hd
    have g9 : LV t (a'.eval (.tmp 9)) W := hG ⟨0, .data⟩ (by simp) rfl 9 rfl
    have g10 : LV box (a'.eval (.tmp 10)) W := hG ⟨1, .data⟩ (by simp) rfl 10 rfl
    exact .inr ⟨rfl, .inr ⟨_, _, run_call rfl map_2 ent_label_Alters, Alters_c g9 g10⟩⟩
   | 3, ho =>
    cases ho
    obtain rfl : 12 = d := Option.some.inj hd
    obtain ⟨v, hr, hv⟩ := run_loadL (ev := a'.eval) (W := W) (hk 4 (by kernel_rfl)) (hbt.below hB)
    exact .inr ⟨rfl, .inl ⟨v, W, hr, Below.refl _ _, hv⟩⟩
   | 4, ho =>
    cases ho
    obtain rfl : 13 = d := Option.some.inj hd
    obtain ⟨v, hr, hv⟩ := run_loadL (ev := a'.eval) (W := W) (hk 7 (by kernel_rfl)) (hbl.below hB)
    exact .inr ⟨rfl, .inl ⟨v, W, hr, Below.refl _ _, hv⟩⟩
   | 5, ho =>
    cases ho
    obtain rfl : 14 = d := Option.some.inj hd
    have g13 : LV l (a'.eval (.tmp 13)) W := hG ⟨4, .data⟩ (by simp) rfl 13 rfl
    obtain ⟨v, W', hr, hb, hv⟩ := run_slice1 (ev := a'.eval) (W := W) rfl g13
    exact .inr ⟨rfl, .inl ⟨v, W', hr, hb, hv⟩⟩
   | 6, ho =>
    cases ho
    obtain rfl : 15 = d := Option.some.inj hd
    have g12 : LV t (a'.eval (.tmp 12)) W := hG ⟨3, .data⟩ (by simp) rfl 12 rfl
    have g14 : LsV [l] (a'.eval (.tmp 14)) W := hG ⟨5, .data⟩ (by simp) rfl 14 rfl
    exact .inr ⟨rfl, .inr ⟨_, _, run_call rfl map_2 ent_passage_atMost, atMost_c g12 g14 (by simp)⟩⟩
   | 7, ho =>
    cases ho
    obtain rfl : 16 = d := Option.some.inj hd
    obtain ⟨v, hr, hv⟩ := run_loadL (ev := a'.eval) (W := W) (hk 7 (by kernel_rfl)) (hbl.below hB)
    exact .inr ⟨rfl, .inl ⟨v, W, hr, Below.refl _ _, hv⟩⟩
   | 8, ho =>
    cases ho
    obtain rfl : 17 = d := Option.some.inj hd
    obtain ⟨v, hr, hv⟩ := run_loadL (ev := a'.eval) (W := W) (hk 5 (by kernel_rfl)) (hbc.below hB)
    exact .inr ⟨rfl, .inl ⟨v, W, hr, Below.refl _ _, hv⟩⟩
   | 9, ho =>
    cases ho
    obtain rfl : 18 = d := Option.some.inj hd
    have g17 : LV c (a'.eval (.tmp 17)) W := hG ⟨8, .data⟩ (by simp) rfl 17 rfl
    obtain ⟨v, W', hr, hb, hv⟩ := run_slice1 (ev := a'.eval) (W := W) rfl g17
    exact .inr ⟨rfl, .inl ⟨v, W', hr, hb, hv⟩⟩
   | 10, ho =>
    cases ho
    obtain rfl : 19 = d := Option.some.inj hd
    have g16 : LV l (a'.eval (.tmp 16)) W := hG ⟨7, .data⟩ (by simp) rfl 16 rfl
    have g18 : LsV [c] (a'.eval (.tmp 18)) W := hG ⟨9, .data⟩ (by simp) rfl 18 rfl
    exact .inr ⟨rfl, .inr ⟨_, _, run_call rfl map_2 ent_passage_atMost, atMost_c g16 g18 (by simp)⟩⟩
   | 11, ho =>
    cases ho
    obtain rfl : 20 = d := Option.some.inj hd
    obtain ⟨v, hr, hv⟩ := run_loadL (ev := a'.eval) (W := W) (hk 6 (by kernel_rfl)) (hbbox.below hB)
    exact .inr ⟨rfl, .inl ⟨v, W, hr, Below.refl _ _, hv⟩⟩
   | 12, ho =>
    cases ho
    obtain rfl : 21 = d := Option.some.inj hd
    obtain ⟨v, hr, hv⟩ := run_loadL (ev := a'.eval) (W := W) (hk 7 (by kernel_rfl)) (hbl.below hB)
    exact .inr ⟨rfl, .inl ⟨v, W, hr, Below.refl _ _, hv⟩⟩
   | 13, ho =>
    cases ho
    obtain rfl : 22 = d := Option.some.inj hd
    have g21 : LV l (a'.eval (.tmp 21)) W := hG ⟨12, .data⟩ (by simp) rfl 21 rfl
    exact .inr ⟨rfl, .inr ⟨_, _, run_call rfl map_1 ent_label_Up, Up_c g21⟩⟩
   | 14, ho =>
    cases ho
    obtain rfl : 23 = d := Option.some.inj hd
    exact .inr ⟨rfl, .inl ⟨_, W, run_build _ 2 rfl, Below.refl _ _, lv_nil 2 W⟩⟩
   | 15, ho =>
    cases ho
    obtain rfl : 24 = d := Option.some.inj hd
    have g22 : LV (upM l) (a'.eval (.tmp 22)) W := hG ⟨13, .data⟩ (by simp) rfl 22 rfl
    have g23 : LV ((2, []) : ML) (a'.eval (.tmp 23)) W := hG ⟨14, .data⟩ (by simp) rfl 23 rfl
    obtain ⟨v, W', hr, hb, hv⟩ := run_slice2 (ev := a'.eval) (W := W) rfl rfl g22 g23
    exact .inr ⟨rfl, .inl ⟨v, W', hr, hb, hv⟩⟩
   | 16, ho =>
    cases ho
    obtain rfl : 25 = d := Option.some.inj hd
    have g20 : LV box (a'.eval (.tmp 20)) W := hG ⟨11, .data⟩ (by simp) rfl 20 rfl
    have g24 : LsV [(upM l), ((2, []) : ML)] (a'.eval (.tmp 24)) W := hG ⟨15, .data⟩ (by simp) rfl 24 rfl
    exact .inr ⟨rfl, .inr ⟨_, _, run_call rfl map_2 ent_passage_atMost, atMost_c g20 g24 (by simp)⟩⟩
   | 17, ho =>
    cases ho
    obtain rfl : 26 = d := Option.some.inj hd
    have g11 : (a'.eval (.tmp 11)) = .bool (altersS t.1 box.1 t.2 box.2) := hG ⟨2, .data⟩ (by simp) rfl 11 rfl
    have g15 : (a'.eval (.tmp 15)) = .bool (atMB t [l]) := hG ⟨6, .data⟩ (by simp) rfl 15 rfl
    have g19 : (a'.eval (.tmp 19)) = .bool (atMB l [c]) := hG ⟨10, .data⟩ (by simp) rfl 19 rfl
    have g25 : (a'.eval (.tmp 25)) = .bool (atMB box [(upM l), ((2, []) : ML)]) := hG ⟨16, .data⟩ (by simp) rfl 25 rfl
    obtain ⟨v, W', hr, hb, hv⟩ := run_bools4 (ev := a'.eval) (W := W) g11 g15 g19 g25
    exact .inr ⟨rfl, .inl ⟨v, W', hr, hb, hv⟩⟩
   | 18, ho =>
    cases ho
    obtain rfl : 27 = d := Option.some.inj hd
    have g26 : BsV [(altersS t.1 box.1 t.2 box.2), (atMB t [l]), (atMB l [c]), (atMB box [(upM l), ((2, []) : ML)])] (a'.eval (.tmp 26)) W := hG ⟨17, .data⟩ (by simp) rfl 26 rfl
    exact .inr ⟨rfl, .inr ⟨_, _, run_call rfl map_1 ent_passage_allow, allow_c g26 (by simp)⟩⟩
   | j + 19, ho => simp at ho
 · intro a' W hB hs hdf hk hG
   obtain ⟨tm, df⟩ := a'
   obtain rfl : df = [] := hdf
   have e0 : tm.getD 0 undef = .agg #[.int .i64 t.fst, .slice pt t.snd.length ct] := hk 0 (by kernel_rfl)
   have e1 : tm.getD 1 undef = .agg #[.int .i64 c.fst, .slice pc c.snd.length cc] := hk 1 (by kernel_rfl)
   have e2 : tm.getD 2 undef = .agg #[.int .i64 box.fst, .slice pbox box.snd.length cbox] := hk 2 (by kernel_rfl)
   have e3 : tm.getD 3 undef = .agg #[.int .i64 l.fst, .slice pl l.snd.length cl] := hk 3 (by kernel_rfl)
   have e4 : tm.getD 4 undef = .pointer (some ⟨w.heap.size, 0, none⟩) := hk 4 (by kernel_rfl)
   have e5 : tm.getD 5 undef = .pointer (some ⟨w.heap.size + 1, 0, none⟩) := hk 5 (by kernel_rfl)
   have e6 : tm.getD 6 undef = .pointer (some ⟨w.heap.size + 1 + 1, 0, none⟩) := hk 6 (by kernel_rfl)
   have e7 : tm.getD 7 undef = .pointer (some ⟨w.heap.size + 1 + 1 + 1, 0, none⟩) := hk 7 (by kernel_rfl)
   have e8 : tm.getD 8 undef = .int .i64 0 := hk 8 (by kernel_rfl)
   have g9 : LV t (tm.getD 9 undef) W := hG 0 9 (by decide) rfl
   have g10 : LV box (tm.getD 10 undef) W := hG 1 10 (by decide) rfl
   have g11 : (tm.getD 11 undef) = .bool (altersS t.1 box.1 t.2 box.2) := hG 2 11 (by decide) rfl
   have g12 : LV t (tm.getD 12 undef) W := hG 3 12 (by decide) rfl
   have g13 : LV l (tm.getD 13 undef) W := hG 4 13 (by decide) rfl
   have g14 : LsV [l] (tm.getD 14 undef) W := hG 5 14 (by decide) rfl
   have g15 : (tm.getD 15 undef) = .bool (atMB t [l]) := hG 6 15 (by decide) rfl
   have g16 : LV l (tm.getD 16 undef) W := hG 7 16 (by decide) rfl
   have g17 : LV c (tm.getD 17 undef) W := hG 8 17 (by decide) rfl
   have g18 : LsV [c] (tm.getD 18 undef) W := hG 9 18 (by decide) rfl
   have g19 : (tm.getD 19 undef) = .bool (atMB l [c]) := hG 10 19 (by decide) rfl
   have g20 : LV box (tm.getD 20 undef) W := hG 11 20 (by decide) rfl
   have g21 : LV l (tm.getD 21 undef) W := hG 12 21 (by decide) rfl
   have g22 : LV (upM l) (tm.getD 22 undef) W := hG 13 22 (by decide) rfl
   have g23 : LV ((2, []) : ML) (tm.getD 23 undef) W := hG 14 23 (by decide) rfl
   have g24 : LsV [(upM l), ((2, []) : ML)] (tm.getD 24 undef) W := hG 15 24 (by decide) rfl
   have g25 : (tm.getD 25 undef) = .bool (atMB box [(upM l), ((2, []) : ML)]) := hG 16 25 (by decide) rfl
   have g26 : BsV [(altersS t.1 box.1 t.2 box.2), (atMB t [l]), (atMB l [c]), (atMB box [(upM l), ((2, []) : ML)])] (tm.getD 26 undef) W := hG 17 26 (by decide) rfl
   have g27 : (tm.getD 27 undef) = .int .i64 (allowI [(altersS t.1 box.1 t.2 box.2), (atMB t [l]), (atMB l [c]), (atMB box [(upM l), ((2, []) : ML)])]) := hG 18 27 (by decide) rfl
   have htm := arr_of tm [.agg #[.int .i64 t.fst, .slice pt t.snd.length ct], .agg #[.int .i64 c.fst, .slice pc c.snd.length cc], .agg #[.int .i64 box.fst, .slice pbox box.snd.length cbox], .agg #[.int .i64 l.fst, .slice pl l.snd.length cl], .pointer (some ⟨w.heap.size, 0, none⟩), .pointer (some ⟨w.heap.size + 1, 0, none⟩), .pointer (some ⟨w.heap.size + 1 + 1, 0, none⟩), .pointer (some ⟨w.heap.size + 1 + 1 + 1, 0, none⟩), .int .i64 0, tm.getD 9 undef, tm.getD 10 undef, tm.getD 11 undef, tm.getD 12 undef, tm.getD 13 undef, tm.getD 14 undef, tm.getD 15 undef, tm.getD 16 undef, tm.getD 17 undef, tm.getD 18 undef, tm.getD 19 undef, tm.getD 20 undef, tm.getD 21 undef, tm.getD 22 undef, tm.getD 23 undef, tm.getD 24 undef, tm.getD 25 undef, tm.getD 26 undef, tm.getD 27 undef] hs (by show [tm.getD 0 undef, tm.getD 1 undef, tm.getD 2 undef, tm.getD 3 undef, tm.getD 4 undef, tm.getD 5 undef, tm.getD 6 undef, tm.getD 7 undef, tm.getD 8 undef, tm.getD 9 undef, tm.getD 10 undef, tm.getD 11 undef, tm.getD 12 undef, tm.getD 13 undef, tm.getD 14 undef, tm.getD 15 undef, tm.getD 16 undef, tm.getD 17 undef, tm.getD 18 undef, tm.getD 19 undef, tm.getD 20 undef, tm.getD 21 undef, tm.getD 22 undef, tm.getD 23 undef, tm.getD 24 undef, tm.getD 25 undef, tm.getD 26 undef, tm.getD 27 undef] = _; rw [e0, e1, e2, e3, e4, e5, e6, e7, e8])
   clear hs hk hG e0 e1 e2 e3 e4 e5 e6 e7 e8
   generalize tm.getD 9 undef = t9 at htm g9
   generalize tm.getD 10 undef = t10 at htm g10
   generalize tm.getD 11 undef = t11 at htm g11
   generalize tm.getD 12 undef = t12 at htm g12
   generalize tm.getD 13 undef = t13 at htm g13
   generalize tm.getD 14 undef = t14 at htm g14
   generalize tm.getD 15 undef = t15 at htm g15
   generalize tm.getD 16 undef = t16 at htm g16
   generalize tm.getD 17 undef = t17 at htm g17
   generalize tm.getD 18 undef = t18 at htm g18
   generalize tm.getD 19 undef = t19 at htm g19
   generalize tm.getD 20 undef = t20 at htm g20
   generalize tm.getD 21 undef = t21 at htm g21
   generalize tm.getD 22 undef = t22 at htm g22
   generalize tm.getD 23 undef = t23 at htm g23
   generalize tm.getD 24 undef = t24 at htm g24
   generalize tm.getD 25 undef = t25 at htm g25
   generalize tm.getD 26 undef = t26 at htm g26
   generalize tm.getD 27 undef = t27 at htm g27
   subst htm
   subst g11
   subst g15
   subst g19
   subst g25
   subst g27
   simp only [List.drop_succ_cons, List.drop_zero]
   go_wp2
   go_ret
   exact ⟨_, rfl, hA.trans (hB.mono hA.size), rfl⟩
end Go.Proofs.YtmgfakfiiaeofaaGreat.Pa
/- A kernel as it lies in memory: each of its blocks belongs to one of its parts. -/
namespace Go.Proofs.YtmgfakfiiaeofaaGreat
open Go.RowKit Go.Sort
inductive KTag
 | kb
 | tab
 | rms
 | mp (i : Nat)
 | th (t : Int)
 | dv (t : Int)
 | sg (t : Int)
structure Th where
 cd : Int
 cv : Value
 xs : List (Int × Int)
 mi : Int
 mj : Int
 st : List Int
 sp : Bool
def thC (x : Th) : Array Value := ([Value.int .i64 x.cd, x.cv, .int .i64 x.mi, .int .i64 x.mj] ++ x.st.map (fun n => Value.int .u64 n) ++ [Value.bool x.sp]).toArray
structure Kn where
 kb : Nat
 tb : Nat
 mb : Nat
 base : Nat
 rb : Nat
 ms : Nat
 mp : Nat
 mt : Nat
 mg : Nat
 md : Nat
 mr : Nat
 D : DataW Unit
 T : Ho.Tab
 F : Nat -> Prop
 all : List Wa.Who
 al : Int -> List Int
 N : Nat
 nS : Nat
 fS : Lit -> Option Nat
 sd : Int -> List UInt8
 nT : Nat
 fT : Lit -> Option Nat
 th : Int -> Th
 nR : Nat
 S : Int -> Bool
 ticks : Int
 own : Nat -> Option KTag
def knC (K : Kn) : Array Value := #[Wa.pv K.tb, Wa.pv K.rb, .map (some K.ms), .map (some K.mp), .map (some K.mt), .map (some K.mg), .map (some K.md), .map (some K.mr), .int .i64 K.ticks]
def SegAt (W : World) (lo B : Nat) (d : List UInt8) (own : Nat -> Option KTag) (g : KTag) : Prop :=
 ∃ ls, Pg.BAt Pg.N0 W lo B d ls /\ own B = some g /\ (∀ x ∈ ls, own x.1 = some g) /\ ∀ c t f a n cp, W.heap[B]? = some (.cells c t f) -> c[1]? = some (.slice (some a) n cp) -> own a.block = some g
structure KAt (lo : Nat) (W : World) (K : Kn) : Prop where
 blk : W.heap[K.kb]? = some (.cells (knC K) 81 (0, 0))
 tab : Ho.TAt W K.base K.tb K.mb K.D K.T
 rms : Wa.RA W K.rb K.F K.all K.al K.N
 mS : Wa.MAt W 3 K.ms K.nS K.fS
 mT : Wa.MAt W 3 K.mt K.nT K.fT
 mR : SAt W K.mr K.nR K.S
 thr : ∀ id B, K.fT (Wa.ky id) = some B -> W.heap[B]? = some (.cells (thC (K.th id)) 70 (0, 0)) /\ K.own B = some (.th id) /\ (K.th id).st.length = 17 /\ Pa.LV ((K.th id).cd, (K.th id).xs) (.agg #[.int .i64 (K.th id).cd, (K.th id).cv]) W /\ ∀ k, (K.th id).cv.ownBlock = some k -> K.own k = some (.th id)
 sgs : ∀ id B, K.fS (Wa.ky id) = some B -> ∃ b, lo <= b /\ SegAt W b B (K.sd id) K.own (.sg id)
 okb : K.own K.kb = some .kb
 ot : ∀ k, Ho.tfoot K.tb K.mb K.T k -> K.own k = some .tab
 orm : ∀ k, K.F k -> K.own k = some .rms
 oS : K.own K.ms = some (.mp 2)
 oP : K.own K.mp = some (.mp 3)
 oT : K.own K.mt = some (.mp 4)
 oG : K.own K.mg = some (.mp 5)
 oD : K.own K.md = some (.mp 6)
 oR : K.own K.mr = some (.mp 7)
 lt : ∀ k, K.own k ≠ none -> lo <= k /\ k < W.heap.size
structure KFirst (K : Kn) (r c t : Int) : Prop where
 tR : ∃ x, K.T r = some x /\ x.ob = ⟨r, 1, 1099511627776, 2, 1, 2, [], [c, t]⟩
 tC : ∃ x, K.T c = some x /\ x.ob = Ho.newOb c 6 1 2 []
 tT : ∃ x, K.T t = some x /\ x.ob = Ho.newOb t 4 1 2 []
 tN : ∀ k, k ≠ r -> k ≠ c -> k ≠ t -> K.T k = none
 sz : Maps.size K.D = 3
 all : K.all = []
 al : K.al = fun _ => []
 fS : K.fS = fun _ => none
 nS : K.nS = 0
 fT : ∃ B, K.fT = Wa.updF (fun _ => none) (Wa.ky t) (some B)
 nT : K.nT = 1
 th : K.th = fun _ => ⟨4, .slice none 0 0, [], 0, 0, List.replicate 17 0, false⟩
 S : ∀ k, K.S k = (k == r || k == c || k == t)
 nR : K.nR = 3
 ticks : K.ticks = 0
def tagOf (t c : Int) : Option Nat -> Option KTag
 | some 14 => some .rms
 | some 43 => some .kb
 | some 15 => some (.mp 2)
 | some 16 => some (.mp 3)
 | some 17 => some (.mp 4)
 | some 24 => some (.mp 5)
 | some 25 => some (.mp 6)
 | some 31 => some (.mp 7)
 | some 22 => some (.th t)
 | some 29 => some (.dv c)
 | _ => none
open Classical in
noncomputable def ownT (P : Nat -> Prop) (t c : Int) (own : Ko.Own) (k : Nat) : Option KTag := if P k then some .tab else tagOf t c (own k)
theorem ownT_yes {P : Nat -> Prop} {t c : Int} {own : Ko.Own} {k : Nat} (h : P k) : ownT P t c own k = some .tab := by unfold ownT; rw [if_pos h]
theorem ownT_no {P : Nat -> Prop} {t c : Int} {own : Ko.Own} {k : Nat} (h : ¬ P k) : ownT P t c own k = tagOf t c (own k) := by unfold ownT; rw [if_neg h]
structure Ask where
 op : Int
 pi : Int
 pj : Int
 qi : Int
 qj : Int
 a : Int
 b : Int
 c : Int
 ld : Int
 lv : Value
 md : Int
 mv : Value
 s : ByteArray
 at_ : Int
 pg : Int
 inn : Int
 mid : Int
 fr : Int
 wr : Bool
 rn : Bool
structure Who where
 B : Nat
 id : Int
 d : Int
 v : Value
def askV (x : Ask) : Value := .agg #[.int .i64 x.op, .int .i64 x.pi, .int .i64 x.pj, .int .i64 x.qi, .int .i64 x.qj, .int .i64 x.a, .int .i64 x.b, .int .i64 x.c, .int .i64 x.ld, x.lv, .int .i64 x.md, x.mv, .string x.s, .int .i64 x.at_, .int .i64 x.pg, .int .i64 x.inn, .int .i64 x.mid, .int .i64 x.fr, .bool x.wr, .bool x.rn]
def clC (kb : Nat) (x : Ask) (y : Who) (dr : Int) : Array Value := #[.pointer (some ⟨kb, 0, none⟩), .int .i64 x.op, .int .i64 x.pi, .int .i64 x.pj, .int .i64 x.qi, .int .i64 x.qj, .int .i64 x.a, .int .i64 x.b, .int .i64 x.c, .int .i64 x.ld, x.lv, .int .i64 x.md, x.mv, .string x.s, .int .i64 x.at_, .int .i64 x.pg, .int .i64 x.inn, .int .i64 x.mid, .int .i64 x.fr, .bool x.wr, .bool x.rn, .pointer (some ⟨y.B, 0, none⟩), .int .i64 y.id, .int .i64 y.d, y.v, .int .i64 dr]
def ClAt (W : World) (cb kb : Nat) (x : Ask) (y : Who) (dr : Int) : Prop := W.heap[cb]? = some (.cells (clC kb x y dr) 159 (0, 0))
theorem ClAt.lt {W : World} {cb kb : Nat} {x : Ask} {y : Who} {dr : Int} (h : ClAt W cb kb x y dr) : cb < W.heap.size := (Array.getElem?_eq_some_iff.1 h).1
theorem ClAt.cell {W : World} {cb kb : Nat} {x : Ask} {y : Who} {dr : Int} (h : ClAt W cb kb x y dr) (j : Nat) : W.cell? ⟨cb, j, none⟩ = (clC kb x y dr)[j]? := by
 have h' : W.heap[cb]? = some (.cells (clC kb x y dr) 159 (0, 0)) := h
 simp only [World.cell?, h']
 rfl
theorem KAt.cell {lo : Nat} {W : World} {K : Kn} (h : KAt lo W K) (j : Nat) : W.cell? ⟨K.kb, j, none⟩ = (knC K)[j]? := by
 simp only [World.cell?, h.blk]
 rfl
theorem ClAt.below {W W' : World} {cb kb : Nat} {x : Ask} {y : Who} {dr : Int} (h : ClAt W cb kb x y dr) (hb : Below W.heap.size W W') : ClAt W' cb kb x y dr := (hb.block cb h.lt).trans h
theorem lv_of {W : World} {base : Nat} {d : Int} {v : Value} {xs : List (Int × Int)} (h : W.ownsRow base 163 2 v xs.length (Ho.flat xs)) (hn : xs.length <= 16) : Pa.LV (d, xs) (.agg #[.int .i64 d, v]) W := by
 obtain ⟨p, cap, rfl, hc⟩ := Ho.cats_row h
 refine ⟨p, cap, rfl, hc, ?_, hn⟩
 rcases h.2 with ⟨h1, h0⟩ | ⟨g, cap', cur, h1, h2⟩
 · rw [h0]; exact Nat.zero_le _
 · injection h1 with _ _ h3; rw [h3]; exact h2.2.2.1
theorem sees_c {t o : Pa.ML} {v u : Value} {B : Nat} {id : Int} {W : World} (ht : Pa.LV t (.agg #[.int .i64 t.1, v]) W) (ho : Pa.LV o u W) :
 Calls Tryz.prog 138 #[.agg #[.pointer (some ⟨B, 0, none⟩), .int .i64 id, .int .i64 t.1, v], u] W fun e W' => e = .returned (.bool (Pa.seesS t.1 o.1 t.2 o.2)) /\ Below W.heap.size W W' := by
 obtain ⟨p, cap, hv, h1, h2, h3⟩ := ht
 simp at hv
 subst hv
 obtain ⟨p', cap', rfl, h1', h2', h3'⟩ := ho
 have hW : Below W.heap.size W ((W.alloc (.cells #[.pointer (some ⟨B, 0, none⟩), .int .i64 id, .int .i64 t.1, .slice p t.2.length cap] 157)).alloc (.cells #[.int .i64 o.1, .slice p' o.2.length cap'] 46)) := by go_grown
 have HS := Lib.hid (Pa.Sees_any t.1 o.1 p p' cap cap' t.2 o.2 _ (by omega) (by unfold maxLen; omega) h2' (h1.below hW) (h1'.below hW))
 go_enter Tryz.func138, Tryz.ntmps138
 go_wp2_with (go_at_call 186; refine HS.out.mono ?_; rintro e w2 ⟨rfl, hb2⟩)
 go_ret
 exact ⟨rfl, hW.trans (hb2.mono hW.size)⟩
theorem alters_c {t o : Pa.ML} {v u : Value} {B : Nat} {id : Int} {W : World} (ht : Pa.LV t (.agg #[.int .i64 t.1, v]) W) (ho : Pa.LV o u W) :
 Calls Tryz.prog 129 #[.agg #[.pointer (some ⟨B, 0, none⟩), .int .i64 id, .int .i64 t.1, v], u] W fun e W' => e = .returned (.bool (Pa.altersS t.1 o.1 t.2 o.2)) /\ Below W.heap.size W W' := by
 obtain ⟨p, cap, hv, h1, h2, h3⟩ := ht
 simp at hv
 subst hv
 obtain ⟨p', cap', rfl, h1', h2', h3'⟩ := ho
 have hW : Below W.heap.size W ((W.alloc (.cells #[.pointer (some ⟨B, 0, none⟩), .int .i64 id, .int .i64 t.1, .slice p t.2.length cap] 157)).alloc (.cells #[.int .i64 o.1, .slice p' o.2.length cap'] 46)) := by go_grown
 have HS := Lib.hid (Pa.Alters_any t.1 o.1 p p' cap cap' t.2 o.2 _ (by omega) (by unfold maxLen; omega) h2 h2' (h1.below hW) (h1'.below hW))
 go_enter Tryz.func129, Tryz.ntmps129
 go_wp2_with (go_at_call 178; refine HS.out.mono ?_; rintro e w2 ⟨rfl, hb2⟩)
 go_ret
 exact ⟨rfl, hW.trans (hb2.mono hW.size)⟩
end Go.Proofs.YtmgfakfiiaeofaaGreat
/- How what is handed in is read in memory, and what a law owes. -/
namespace Go.Proofs.YtmgfakfiiaeofaaGreat
open Go.ChangeShapes Go.WideShapes Go.ChangeAt Go.RowKit

theorem int_range {n : Int} (h : (Lit.int .i64 n).wf = true) : -9223372036854775808 <= n /\ n <= 9223372036854775807 := by
 simp [Lit.wf] at h
 exact ⟨Int.le_trans (by decide : (-9223372036854775808 : Int) <= IntKind.min .i64) h.1, Int.le_trans h.2 (by decide)⟩
theorem own : ownKnob Tryz.prog.godebug = none := by kernel_rfl
theorem cells3 : Tryz.prog.cellsOf 3 = 1 := by kernel_rfl
theorem laidOut : laidOutB Tryz.prog = true := by kernel_rfl
section
variable {H : Type} {enc : TypeId × Value -> H}

theorem all_stay {W W' : World} (hb : Below W.heap.size W W') : ∀ {ts : List TypeId} {vs : List Value} {ds : List (DataW H)} {ps : List MemPlace} {sp : Nat -> Bool}, (∀ t ∈ ts, Tryz.prog.readableRec t = true /\ t < Tryz.prog.types.size) ->
 DataW.TrodAll enc Tryz.prog W 0 (fun _ => true) true ts vs ds ps -> (∀ x ∈ ps, x.block < W.heap.size) -> (∀ x ∈ ps, sp x.block = true) -> DataW.TrodAll enc Tryz.prog W' 0 sp true ts vs ds ps
 | [], _, _, _, _, _, h, _, _ => by
  obtain ⟨rfl, rfl, rfl⟩ := trodAll_nil h
  exact trodAll_mk0
 | t :: ts, _, _, _, _, hr, h, hlt, hsp => by
  obtain ⟨v, vs', d, ds', p, q, rfl, rfl, rfl, h0, h1⟩ := trodAll_cons h
  exact trodAll_cons_mk (WideElems.Trod_stays laidOut (hr t (List.mem_cons_self ..)).1 (hr t (List.mem_cons_self ..)).2 h0 (fun x hx => hb.same (hlt x (List.mem_append.2 (.inl hx)))) (fun x hx => hsp x (List.mem_append.2 (.inl hx))))
   (all_stay hb (fun u hu => hr u (List.mem_cons_of_mem _ hu)) h1 (fun x hx => hlt x (List.mem_append.2 (.inr hx))) (fun x hx => hsp x (List.mem_append.2 (.inr hx))))
theorem cellsBoot : Tryz.prog.cellsOf 23 = 3 := by kernel_rfl
theorem one_int {W : World} {n : Nat} {c : Value} {x : DataW H × List MemPlace} (h : DataW.trod enc Tryz.prog W 0 (fun _ => true) true n 3 [c] = some x) : ∃ k : Int, c = .int .i64 k := by
 obtain ⟨k, e, _, _⟩ := DataW.trod_int Tryz.underlying3 h
 exact ⟨k, by simpa using e⟩
set_option maxRecDepth 100000 in
theorem boot_cells {W : World} {n : Nat} {cs : List Value} {x : DataW H × List MemPlace} (hf : DataW.trod enc Tryz.prog W 0 (fun _ => true) true n 23 cs = some x) : ∃ r c t : Int, cs = [.int .i64 r, .int .i64 c, .int .i64 t] := by
 obtain ⟨xs, n', _, _, hcl, hxl, hall⟩ := DataW.trod_struct Tryz.underlying23 hf
 rw [cellsBoot] at hcl
 match cs, hcl with
 | [v0, v1, v2], _ =>
  have h0 := hall 0 _ rfl
  rw [List.getElem?_eq_getElem (by rw [hxl]; decide)] at h0
  change DataW.trod enc Tryz.prog W 0 (fun _ => true) true n' 3 (List.take (Tryz.prog.cellsOf 3) (List.drop 0 [v0, v1, v2])) = _ at h0
  rw [cells3] at h0
  obtain ⟨r, f0⟩ := one_int (show DataW.trod enc Tryz.prog W 0 (fun _ => true) true n' 3 [v0] = _ from h0)
  have h1 := hall 1 _ rfl
  rw [List.getElem?_eq_getElem (by rw [hxl]; decide)] at h1
  change DataW.trod enc Tryz.prog W 0 (fun _ => true) true n' 3 (List.take (Tryz.prog.cellsOf 3) (List.drop 1 [v0, v1, v2])) = _ at h1
  rw [cells3] at h1
  obtain ⟨c, f1⟩ := one_int (show DataW.trod enc Tryz.prog W 0 (fun _ => true) true n' 3 [v1] = _ from h1)
  have h2 := hall 2 _ rfl
  rw [List.getElem?_eq_getElem (by rw [hxl]; decide)] at h2
  change DataW.trod enc Tryz.prog W 0 (fun _ => true) true n' 3 (List.take (Tryz.prog.cellsOf 3) (List.drop 2 [v0, v1, v2])) = _ at h2
  rw [cells3] at h2
  obtain ⟨t, f2⟩ := one_int (show DataW.trod enc Tryz.prog W 0 (fun _ => true) true n' 3 [v2] = _ from h2)
  exact ⟨r, c, t, by rw [f0, f1, f2]⟩
set_option maxRecDepth 100000 in
theorem boot_open {W : World} {r : Reach} {b0 : Nat} {v : Value} {d : DataW H} {ps : List MemPlace} (hv : Value.okWide Tryz.prog W r b0 23 v) (h : DataW.Trod enc Tryz.prog W 0 (fun _ => true) true 23 v d ps) :
 ∃ r c t : Int, v = .agg #[.int .i64 r, .int .i64 c, .int .i64 t] := by
 obtain ⟨cs, rfl, hsz⟩ := okWide_struct Tryz.underlying23 hv
 obtain ⟨fuel, hf⟩ := h
 have hcs : (Value.agg cs).cells.toList = cs.toList := by simp [Value.cells]
 rw [hcs] at hf
 obtain ⟨r, c, t, e⟩ := boot_cells hf
 refine ⟨r, c, t, ?_⟩
 congr 1
 exact Array.toList_inj.1 (by rw [e])
end
theorem law_post {H : Type} {enc : TypeId × Value -> H} {f : Func} {s : ChangeSpec} {W W' : World} {args : Array Value} {ds : List (DataW H)} {before : List MemPlace} (hres : f.resultTypes = #[4]) (hr : ∀ t ∈ f.params.toList, Tryz.prog.readableRec t = true /\ t < Tryz.prog.types.size)
 (hv : s.vars = []) (hW : DataW.Whole enc Tryz.prog f.params.toList s.vars false W args.toList ds [] before) (hfr : (s.fn H (ds ++ [])).results = [.lit (.bool true)]) (hfa : (s.fn H (ds ++ [])).args = ds) (hfv : (s.fn H (ds ++ [])).vars = []) (hb : Below W.heap.size W W') :
 s.post enc Tryz.prog f false true false false W args (.bool true) W' := by
 have hlt := hW.lt
 have hW' := hW
 obtain ⟨p, q, hA, hV, rfl, _, _⟩ := hW
 have hq : q = [] := by rw [hv] at hV; exact (trodVars_none hV).2
 subst hq
 rw [List.append_nil] at hW' hlt
 have hold : ∀ x ∈ p, (fun b => decide (b < W.heap.size)) x.block = true := fun x hx => by simpa using hlt x hx
 refine ⟨ds, [], p, [], p, [], hW', ?_, ?_, ?_, hb.frame _, fun h => by cases h⟩
 · rw [hres, hfr]; exact trodAll_mk1 (shut_bool Tryz.underlying4 _)
 · rw [hfa]; exact all_stay hb hr hA hlt hold
 · rw [hfv, hv]; exact rfl
end Go.Proofs.YtmgfakfiiaeofaaGreat
namespace Go.Proofs.YtmgfakfiiaeofaaGreat
open Go.RowKit
def AllE (tm : Array Value) : Nat -> List Value -> Prop
 | _, [] => True
 | k, v :: l => tm.getD k undef = v /\ AllE tm (k + 1) l
theorem az {tm : Array Value} {k : Nat} : AllE tm k [] := trivial
theorem ae {tm : Array Value} {k : Nat} {v : Value} {l : List Value} (j : Nat) (h : tm.getD k undef = v) (t : AllE tm j l) (e : j = k + 1 := by rfl) : AllE tm k (v :: l) := ⟨h, e ▸ t⟩
theorem AllE.at_ {tm : Array Value} : ∀ {l : List Value} {k : Nat}, AllE tm k l -> ∀ j, (h : j < l.length) -> tm.getD (k + j) undef = l[j]
 | [], _, _, j, h => by simp at h
 | v :: l, k, hA, 0, _ => hA.1
 | v :: l, k, hA, j + 1, h => by
  have := AllE.at_ hA.2 j (by simpa using h)
  rw [show k + (j + 1) = k + 1 + j by omega]
  simpa using this
theorem arr3 {tm : Array Value} (l : List Value) (hs : tm.size = l.length) (h : AllE tm 0 l) : tm = l.toArray := by
 apply Array.ext
 · simpa using hs
 · intro i h1 h2
   have h3 : i < l.length := by omega
   have := h.at_ i h3
   rw [Nat.zero_add] at this
   simp only [List.getElem_toArray]
   rw [<- this]
   simp [Array.getD, h1]
end Go.Proofs.YtmgfakfiiaeofaaGreat
