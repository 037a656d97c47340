/- Make, Rise, Clear and Lend of the reference. -/
import Derived.Test.YtnjmgholoigpkaaRBel
import Derived.Test.YtnjmgholoigpkaaMonoF
import Derived.Deep.Cut
namespace Go.Proofs.Ytnjmgholoigpkaa
open Go.RowKit Go.Sort
def sayI (b : Bool) : Int := if b = true then 0 else 3
theorem ent_gatehouseref01_Alters : Enters 36 := fun args W => by go_simp
theorem ent_gatehouseref01_Leq : Enters 37 := fun args W => by go_simp
theorem ent_gatehouseref01_Up : Enters 39 := fun args W => by go_simp
theorem ent_gatehouseref07_Below : Enters 38 := fun args W => by go_simp
theorem ent_gatehouseref07_say : Enters 35 := fun args W => by go_simp
theorem say_c' {b : Bool} {v : Value} {w : World} (h : v = .bool b) : Calls Try.prog 35 #[v] w fun e w' => ∃ v', e = .returned v' ∧ Below w.heap.size w w' ∧ v' = .int .i64 (sayI b) := by
  subst h; exact say_c b w
def rmakeI (t c box l : ML) : Int := sayI ((((raltM t box) && (rleM t l)) && (rleM l c)) && (belM box (upM l) ((2, []) : ML)))
set_option maxRecDepth 100000 in
set_option maxHeartbeats 1000000 in
theorem rMake_c {t c box l : ML} {vt vc vbox vl : Value} {w : World} (ht : LV t vt w) (hc : LV c vc w) (hbox : LV box vbox w) (hl : LV l vl w) :
    Calls Try.prog 12 #[vt, vc, vbox, vl] w fun e w' => ∃ v', e = .returned v' ∧ Below w.heap.size w w' ∧ v' = .int .i64 (rmakeI t c box l) := by
  obtain ⟨pt, ct, rfl, ht1, ht2, ht3⟩ := id ht
  obtain ⟨pc, cc, rfl, hc1, hc2, hc3⟩ := id hc
  obtain ⟨pbox, cbox, rfl, hbox1, hbox2, hbox3⟩ := id hbox
  obtain ⟨pl, cl, rfl, hl1, hl2, hl3⟩ := id hl
  have hA : Below w.heap.size w ((((w.alloc (.cells #[.int .i64 t.1, .slice pt t.2.length ct] 24)).alloc (.cells #[.int .i64 c.1, .slice pc c.2.length cc] 24)).alloc (.cells #[.int .i64 box.1, .slice pbox box.2.length cbox] 24)).alloc (.cells #[.int .i64 l.1, .slice pl l.2.length cl] 24)) := by go_grown
  have hbt : LBox t ((((w.alloc (.cells #[.int .i64 t.1, .slice pt t.2.length ct] 24)).alloc (.cells #[.int .i64 c.1, .slice pc c.2.length cc] 24)).alloc (.cells #[.int .i64 box.1, .slice pbox box.2.length cbox] 24)).alloc (.cells #[.int .i64 l.1, .slice pl l.2.length cl] 24)) w.heap.size 0 := ⟨pt, ct, by simp <;> omega, by simp [go_sem], by simp [go_sem], ht1.below hA, ht2, ht3⟩
  have hbc : LBox c ((((w.alloc (.cells #[.int .i64 t.1, .slice pt t.2.length ct] 24)).alloc (.cells #[.int .i64 c.1, .slice pc c.2.length cc] 24)).alloc (.cells #[.int .i64 box.1, .slice pbox box.2.length cbox] 24)).alloc (.cells #[.int .i64 l.1, .slice pl l.2.length cl] 24)) (w.heap.size + 1) 0 := ⟨pc, cc, by simp <;> omega, by simp [go_sem], by simp [go_sem], hc1.below hA, hc2, hc3⟩
  have hbbox : LBox box ((((w.alloc (.cells #[.int .i64 t.1, .slice pt t.2.length ct] 24)).alloc (.cells #[.int .i64 c.1, .slice pc c.2.length cc] 24)).alloc (.cells #[.int .i64 box.1, .slice pbox box.2.length cbox] 24)).alloc (.cells #[.int .i64 l.1, .slice pl l.2.length cl] 24)) (w.heap.size + 1 + 1) 0 := ⟨pbox, cbox, by simp <;> omega, by simp [go_sem], by simp [go_sem], hbox1.below hA, hbox2, hbox3⟩
  have hbl : LBox l ((((w.alloc (.cells #[.int .i64 t.1, .slice pt t.2.length ct] 24)).alloc (.cells #[.int .i64 c.1, .slice pc c.2.length cc] 24)).alloc (.cells #[.int .i64 box.1, .slice pbox box.2.length cbox] 24)).alloc (.cells #[.int .i64 l.1, .slice pl l.2.length cl] 24)) (w.heap.size + 1 + 1 + 1) 0 := ⟨pl, cl, by simp <;> omega, by simp [go_sem], by simp [go_sem], hl1.below hA, hl2, hl3⟩
  go_enter Try.func12, Try.ntmps12
  go_wp2_with fail
  refine wp_region_mono 21 (fun kq v W => match kq with | 9 => LV t v W | 10 => LV box v W | 11 => v = .bool (raltM t box) | 12 => v = .bool (raltM t box) | 13 => ((raltM t box) = true → LV t v W) | 14 => ((raltM t box) = true → LV l v W) | 15 => ((raltM t box) = true → v = .bool (rleM t l)) | 16 => v = .bool ((raltM t box) && (rleM t l)) | 17 => v = .bool ((raltM t box) && (rleM t l)) | 18 => (((raltM t box) && (rleM t l)) = true → LV l v W) | 19 => (((raltM t box) && (rleM t l)) = true → LV c v W) | 20 => (((raltM t box) && (rleM t l)) = true → v = .bool (rleM l c)) | 21 => v = .bool (((raltM t box) && (rleM t l)) && (rleM l c)) | 22 => v = .bool (((raltM t box) && (rleM t l)) && (rleM l c)) | 23 => ((((raltM t box) && (rleM t l)) && (rleM l c)) = true → LV box v W) | 24 => ((((raltM t box) && (rleM t l)) && (rleM l c)) = true → LV l v W) | 25 => ((((raltM t box) && (rleM t l)) && (rleM l c)) = true → LV (upM l) v W) | 26 => ((((raltM t box) && (rleM t l)) && (rleM l c)) = true → LV ((2, []) : ML) v W) | 27 => ((((raltM t box) && (rleM t l)) && (rleM l c)) = true → v = .bool (belM box (upM l) ((2, []) : ML))) | 28 => v = .bool ((((raltM t box) && (rleM t l)) && (rleM l c)) && (belM box (upM l) ((2, []) : ML))) | 29 => v = .int .i64 (sayI ((((raltM t box) && (rleM t l)) && (rleM l c)) && (belM box (upM l) ((2, []) : ML)))) | _ => True) (by kernel_rfl) (by kernel_rfl) (by kernel_rfl) (by kernel_rfl) (by simp) (by kernel_rfl) ?_ ?_ ?_
  · intro kq v W W' h hb
    revert h
    try dsimp only
    split
    · intro h; exact LV.below h hb
    · intro h; exact LV.below h hb
    · intro h; exact h
    · intro h; exact h
    · intro h' e; have h := h' e; exact LV.below h hb
    · intro h' e; have h := h' e; exact LV.below h hb
    · intro h' e; have h := h' e; exact h
    · intro h; exact h
    · intro h; exact h
    · intro h' e; have h := h' e; exact LV.below h hb
    · intro h' e; have h := h' e; exact LV.below h hb
    · intro h' e; have h := h' e; exact h
    · intro h; exact h
    · intro h; exact h
    · intro h' e; have h := h' e; exact LV.below h hb
    · intro h' e; have h := h' e; exact LV.below h hb
    · intro h' e; have h := h' e; exact LV.below h hb
    · intro h' e; have h := h' e; exact LV.below h hb
    · intro h' e; have h := h' e; exact h
    · intro h; exact h
    · intro h; exact h
    · intro h; trivial
  · intro a' W hB hs hk i o d ho hd hG
    match i, ho with
    | 0, ho =>
      obtain rfl : _ = o := Option.some.inj ho
      obtain rfl : 9 = d := Option.some.inj hd
      obtain ⟨v, hr, hv⟩ := run_loadL (ev := a'.eval) (W := W) (hk 4 (by kernel_rfl)) (hbt.below hB)
      exact .inr ⟨rfl, .inl ⟨v, W, hr, Below.refl _ _, hv⟩⟩
    | 1, ho =>
      obtain rfl : _ = o := Option.some.inj ho
      obtain rfl : 10 = d := Option.some.inj hd
      obtain ⟨v, hr, hv⟩ := run_loadL (ev := a'.eval) (W := W) (hk 6 (by kernel_rfl)) (hbbox.below hB)
      exact .inr ⟨rfl, .inl ⟨v, W, hr, Below.refl _ _, hv⟩⟩
    | 2, ho =>
      obtain rfl : _ = o := Option.some.inj ho
      obtain rfl : 11 = d := Option.some.inj hd
      have g9 : LV t (a'.eval (.tmp 9)) W := hG ⟨0, .data⟩ (by simp) rfl 9 rfl
      have g10 : LV box (a'.eval (.tmp 10)) W := hG ⟨1, .data⟩ (by simp) rfl 10 rfl
      exact .inr ⟨rfl, .inr ⟨_, _, run_call rfl map_2 ent_gatehouseref01_Alters, rAlters_c g9 g10⟩⟩
    | 3, ho =>
      obtain rfl : _ = o := Option.some.inj ho
      obtain rfl : 12 = d := Option.some.inj hd
      have g11 : (a'.eval (.tmp 11)) = .bool (raltM t box) := hG ⟨2, .data⟩ (by simp) rfl 11 rfl
      exact .inr ⟨rfl, .inl ⟨_, W, run_move rfl, Below.refl _ _, g11⟩⟩
    | 4, ho =>
      obtain rfl : _ = o := Option.some.inj ho
      obtain rfl : 13 = d := Option.some.inj hd
      have gg : a'.eval (.tmp 12) = .bool (raltM t box) := hG ⟨3, .guard⟩ (by simp) rfl 12 rfl
      by_cases gc : (raltM t box) = true
      · obtain ⟨v, hr, hv⟩ := run_loadL (ev := a'.eval) (W := W) (hk 4 (by kernel_rfl)) (hbt.below hB)
        exact .inr ⟨want_yes (n := 30) (d := 12) rfl hs (by decide) rfl (gg.trans (by rw [gc])), .inl ⟨v, W, hr, Below.refl _ _, fun _ => hv⟩⟩
      · exact .inl ⟨want_no (n := 30) (d := 12) rfl hs (by decide) rfl gg gc, fun e => absurd e gc⟩
    | 5, ho =>
      obtain rfl : _ = o := Option.some.inj ho
      obtain rfl : 14 = d := Option.some.inj hd
      have gg : a'.eval (.tmp 12) = .bool (raltM t box) := hG ⟨3, .guard⟩ (by simp) rfl 12 rfl
      by_cases gc : (raltM t box) = true
      · obtain ⟨v, hr, hv⟩ := run_loadL (ev := a'.eval) (W := W) (hk 7 (by kernel_rfl)) (hbl.below hB)
        exact .inr ⟨want_yes (n := 30) (d := 12) rfl hs (by decide) rfl (gg.trans (by rw [gc])), .inl ⟨v, W, hr, Below.refl _ _, fun _ => hv⟩⟩
      · exact .inl ⟨want_no (n := 30) (d := 12) rfl hs (by decide) rfl gg gc, fun e => absurd e gc⟩
    | 6, ho =>
      obtain rfl : _ = o := Option.some.inj ho
      obtain rfl : 15 = d := Option.some.inj hd
      have gg : a'.eval (.tmp 12) = .bool (raltM t box) := hG ⟨3, .guard⟩ (by simp) rfl 12 rfl
      by_cases gc : (raltM t box) = true
      · have g13 : LV t (a'.eval (.tmp 13)) W := hG ⟨4, .data⟩ (by simp) rfl 13 rfl gc
        have g14 : LV l (a'.eval (.tmp 14)) W := hG ⟨5, .data⟩ (by simp) rfl 14 rfl gc
        exact .inr ⟨want_yes (n := 30) (d := 12) rfl hs (by decide) rfl (gg.trans (by rw [gc])), .inr ⟨_, _, run_call rfl map_2 ent_gatehouseref01_Leq, (rLeq_c g13 g14).mono (fun e W' ⟨v, he, hb, hv⟩ => ⟨v, he, hb, fun _ => hv⟩)⟩⟩
      · exact .inl ⟨want_no (n := 30) (d := 12) rfl hs (by decide) rfl gg gc, fun e => absurd e gc⟩
    | 7, ho =>
      obtain rfl : _ = o := Option.some.inj ho
      obtain rfl : 16 = d := Option.some.inj hd
      have g12 : (a'.eval (.tmp 12)) = .bool (raltM t box) := hG ⟨3, .data⟩ (by simp) rfl 12 rfl
      by_cases hq : (raltM t box) = true
      · exact .inr ⟨rfl, .inl ⟨_, W, run_pick_yes (g12.trans (by rw [hq])) (hG ⟨6, .data⟩ (by simp) rfl 15 rfl hq), Below.refl _ _, by rw [hq]; rfl⟩⟩
      · have hq' : (raltM t box) = false := by simpa using hq
        exact .inr ⟨rfl, .inl ⟨_, W, run_pick_no (g12.trans (by rw [hq'])) rfl, Below.refl _ _, by rw [hq']; rfl⟩⟩
    | 8, ho =>
      obtain rfl : _ = o := Option.some.inj ho
      obtain rfl : 17 = d := Option.some.inj hd
      have g16 : (a'.eval (.tmp 16)) = .bool ((raltM t box) && (rleM t l)) := hG ⟨7, .data⟩ (by simp) rfl 16 rfl
      exact .inr ⟨rfl, .inl ⟨_, W, run_move rfl, Below.refl _ _, g16⟩⟩
    | 9, ho =>
      obtain rfl : _ = o := Option.some.inj ho
      obtain rfl : 18 = d := Option.some.inj hd
      have gg : a'.eval (.tmp 17) = .bool ((raltM t box) && (rleM t l)) := hG ⟨8, .guard⟩ (by simp) rfl 17 rfl
      by_cases gc : ((raltM t box) && (rleM t l)) = true
      · obtain ⟨v, hr, hv⟩ := run_loadL (ev := a'.eval) (W := W) (hk 7 (by kernel_rfl)) (hbl.below hB)
        exact .inr ⟨want_yes (n := 30) (d := 17) rfl hs (by decide) rfl (gg.trans (by rw [gc])), .inl ⟨v, W, hr, Below.refl _ _, fun _ => hv⟩⟩
      · exact .inl ⟨want_no (n := 30) (d := 17) rfl hs (by decide) rfl gg gc, fun e => absurd e gc⟩
    | 10, ho =>
      obtain rfl : _ = o := Option.some.inj ho
      obtain rfl : 19 = d := Option.some.inj hd
      have gg : a'.eval (.tmp 17) = .bool ((raltM t box) && (rleM t l)) := hG ⟨8, .guard⟩ (by simp) rfl 17 rfl
      by_cases gc : ((raltM t box) && (rleM t l)) = true
      · obtain ⟨v, hr, hv⟩ := run_loadL (ev := a'.eval) (W := W) (hk 5 (by kernel_rfl)) (hbc.below hB)
        exact .inr ⟨want_yes (n := 30) (d := 17) rfl hs (by decide) rfl (gg.trans (by rw [gc])), .inl ⟨v, W, hr, Below.refl _ _, fun _ => hv⟩⟩
      · exact .inl ⟨want_no (n := 30) (d := 17) rfl hs (by decide) rfl gg gc, fun e => absurd e gc⟩
    | 11, ho =>
      obtain rfl : _ = o := Option.some.inj ho
      obtain rfl : 20 = d := Option.some.inj hd
      have gg : a'.eval (.tmp 17) = .bool ((raltM t box) && (rleM t l)) := hG ⟨8, .guard⟩ (by simp) rfl 17 rfl
      by_cases gc : ((raltM t box) && (rleM t l)) = true
      · have g18 : LV l (a'.eval (.tmp 18)) W := hG ⟨9, .data⟩ (by simp) rfl 18 rfl gc
        have g19 : LV c (a'.eval (.tmp 19)) W := hG ⟨10, .data⟩ (by simp) rfl 19 rfl gc
        exact .inr ⟨want_yes (n := 30) (d := 17) rfl hs (by decide) rfl (gg.trans (by rw [gc])), .inr ⟨_, _, run_call rfl map_2 ent_gatehouseref01_Leq, (rLeq_c g18 g19).mono (fun e W' ⟨v, he, hb, hv⟩ => ⟨v, he, hb, fun _ => hv⟩)⟩⟩
      · exact .inl ⟨want_no (n := 30) (d := 17) rfl hs (by decide) rfl gg gc, fun e => absurd e gc⟩
    | 12, ho =>
      obtain rfl : _ = o := Option.some.inj ho
      obtain rfl : 21 = d := Option.some.inj hd
      have g17 : (a'.eval (.tmp 17)) = .bool ((raltM t box) && (rleM t l)) := hG ⟨8, .data⟩ (by simp) rfl 17 rfl
      by_cases hq : ((raltM t box) && (rleM t l)) = true
      · exact .inr ⟨rfl, .inl ⟨_, W, run_pick_yes (g17.trans (by rw [hq])) (hG ⟨11, .data⟩ (by simp) rfl 20 rfl hq), Below.refl _ _, by rw [hq]; rfl⟩⟩
      · have hq' : ((raltM t box) && (rleM t l)) = false := by simpa using hq
        exact .inr ⟨rfl, .inl ⟨_, W, run_pick_no (g17.trans (by rw [hq'])) rfl, Below.refl _ _, by rw [hq']; rfl⟩⟩
    | 13, ho =>
      obtain rfl : _ = o := Option.some.inj ho
      obtain rfl : 22 = d := Option.some.inj hd
      have g21 : (a'.eval (.tmp 21)) = .bool (((raltM t box) && (rleM t l)) && (rleM l c)) := hG ⟨12, .data⟩ (by simp) rfl 21 rfl
      exact .inr ⟨rfl, .inl ⟨_, W, run_move rfl, Below.refl _ _, g21⟩⟩
    | 14, ho =>
      obtain rfl : _ = o := Option.some.inj ho
      obtain rfl : 23 = d := Option.some.inj hd
      have gg : a'.eval (.tmp 22) = .bool (((raltM t box) && (rleM t l)) && (rleM l c)) := hG ⟨13, .guard⟩ (by simp) rfl 22 rfl
      by_cases gc : (((raltM t box) && (rleM t l)) && (rleM l c)) = true
      · obtain ⟨v, hr, hv⟩ := run_loadL (ev := a'.eval) (W := W) (hk 6 (by kernel_rfl)) (hbbox.below hB)
        exact .inr ⟨want_yes (n := 30) (d := 22) rfl hs (by decide) rfl (gg.trans (by rw [gc])), .inl ⟨v, W, hr, Below.refl _ _, fun _ => hv⟩⟩
      · exact .inl ⟨want_no (n := 30) (d := 22) rfl hs (by decide) rfl gg gc, fun e => absurd e gc⟩
    | 15, ho =>
      obtain rfl : _ = o := Option.some.inj ho
      obtain rfl : 24 = d := Option.some.inj hd
      have gg : a'.eval (.tmp 22) = .bool (((raltM t box) && (rleM t l)) && (rleM l c)) := hG ⟨13, .guard⟩ (by simp) rfl 22 rfl
      by_cases gc : (((raltM t box) && (rleM t l)) && (rleM l c)) = true
      · obtain ⟨v, hr, hv⟩ := run_loadL (ev := a'.eval) (W := W) (hk 7 (by kernel_rfl)) (hbl.below hB)
        exact .inr ⟨want_yes (n := 30) (d := 22) rfl hs (by decide) rfl (gg.trans (by rw [gc])), .inl ⟨v, W, hr, Below.refl _ _, fun _ => hv⟩⟩
      · exact .inl ⟨want_no (n := 30) (d := 22) rfl hs (by decide) rfl gg gc, fun e => absurd e gc⟩
    | 16, ho =>
      obtain rfl : _ = o := Option.some.inj ho
      obtain rfl : 25 = d := Option.some.inj hd
      have gg : a'.eval (.tmp 22) = .bool (((raltM t box) && (rleM t l)) && (rleM l c)) := hG ⟨13, .guard⟩ (by simp) rfl 22 rfl
      by_cases gc : (((raltM t box) && (rleM t l)) && (rleM l c)) = true
      · have g24 : LV l (a'.eval (.tmp 24)) W := hG ⟨15, .data⟩ (by simp) rfl 24 rfl gc
        exact .inr ⟨want_yes (n := 30) (d := 22) rfl hs (by decide) rfl (gg.trans (by rw [gc])), .inr ⟨_, _, run_call rfl map_1 ent_gatehouseref01_Up, (rUp_c g24).mono (fun e W' ⟨v, he, hb, hv⟩ => ⟨v, he, hb, fun _ => hv⟩)⟩⟩
      · exact .inl ⟨want_no (n := 30) (d := 22) rfl hs (by decide) rfl gg gc, fun e => absurd e gc⟩
    | 17, ho =>
      obtain rfl : _ = o := Option.some.inj ho
      obtain rfl : 26 = d := Option.some.inj hd
      have gg : a'.eval (.tmp 22) = .bool (((raltM t box) && (rleM t l)) && (rleM l c)) := hG ⟨13, .guard⟩ (by simp) rfl 22 rfl
      by_cases gc : (((raltM t box) && (rleM t l)) && (rleM l c)) = true
      · exact .inr ⟨want_yes (n := 30) (d := 22) rfl hs (by decide) rfl (gg.trans (by rw [gc])), .inl ⟨_, W, run_build _ 2 rfl, Below.refl _ _, fun _ => lv_nil 2 W⟩⟩
      · exact .inl ⟨want_no (n := 30) (d := 22) rfl hs (by decide) rfl gg gc, fun e => absurd e gc⟩
    | 18, ho =>
      obtain rfl : _ = o := Option.some.inj ho
      obtain rfl : 27 = d := Option.some.inj hd
      have gg : a'.eval (.tmp 22) = .bool (((raltM t box) && (rleM t l)) && (rleM l c)) := hG ⟨13, .guard⟩ (by simp) rfl 22 rfl
      by_cases gc : (((raltM t box) && (rleM t l)) && (rleM l c)) = true
      · have g23 : LV box (a'.eval (.tmp 23)) W := hG ⟨14, .data⟩ (by simp) rfl 23 rfl gc
        have g25 : LV (upM l) (a'.eval (.tmp 25)) W := hG ⟨16, .data⟩ (by simp) rfl 25 rfl gc
        have g26 : LV ((2, []) : ML) (a'.eval (.tmp 26)) W := hG ⟨17, .data⟩ (by simp) rfl 26 rfl gc
        exact .inr ⟨want_yes (n := 30) (d := 22) rfl hs (by decide) rfl (gg.trans (by rw [gc])), .inr ⟨_, _, run_call rfl map_3 ent_gatehouseref07_Below, (rBelow_c g23 g25 g26).mono (fun e W' ⟨v, he, hb, hv⟩ => ⟨v, he, hb, fun _ => hv⟩)⟩⟩
      · exact .inl ⟨want_no (n := 30) (d := 22) rfl hs (by decide) rfl gg gc, fun e => absurd e gc⟩
    | 19, ho =>
      obtain rfl : _ = o := Option.some.inj ho
      obtain rfl : 28 = d := Option.some.inj hd
      have g22 : (a'.eval (.tmp 22)) = .bool (((raltM t box) && (rleM t l)) && (rleM l c)) := hG ⟨13, .data⟩ (by simp) rfl 22 rfl
      by_cases hq : (((raltM t box) && (rleM t l)) && (rleM l c)) = true
      · exact .inr ⟨rfl, .inl ⟨_, W, run_pick_yes (g22.trans (by rw [hq])) (hG ⟨18, .data⟩ (by simp) rfl 27 rfl hq), Below.refl _ _, by rw [hq]; rfl⟩⟩
      · have hq' : (((raltM t box) && (rleM t l)) && (rleM l c)) = false := by simpa using hq
        exact .inr ⟨rfl, .inl ⟨_, W, run_pick_no (g22.trans (by rw [hq'])) rfl, Below.refl _ _, by rw [hq']; rfl⟩⟩
    | 20, ho =>
      obtain rfl : _ = o := Option.some.inj ho
      obtain rfl : 29 = d := Option.some.inj hd
      have g28 : (a'.eval (.tmp 28)) = .bool ((((raltM t box) && (rleM t l)) && (rleM l c)) && (belM box (upM l) ((2, []) : ML))) := hG ⟨19, .data⟩ (by simp) rfl 28 rfl
      exact .inr ⟨rfl, .inr ⟨_, _, run_call rfl map_1 ent_gatehouseref07_say, say_c' g28⟩⟩
    | j + 21, ho => simp at ho
  · intro a' W hB hs hdf hk hG
    obtain ⟨tm, df⟩ := a'
    obtain rfl : df = [] := hdf
    have e0 : tm.getD 0 undef = .agg #[.int .i64 t.fst, .slice pt t.snd.length ct] := hk 0 (by kernel_rfl)
    have e1 : tm.getD 1 undef = .agg #[.int .i64 c.fst, .slice pc c.snd.length cc] := hk 1 (by kernel_rfl)
    have e2 : tm.getD 2 undef = .agg #[.int .i64 box.fst, .slice pbox box.snd.length cbox] := hk 2 (by kernel_rfl)
    have e3 : tm.getD 3 undef = .agg #[.int .i64 l.fst, .slice pl l.snd.length cl] := hk 3 (by kernel_rfl)
    have e4 : tm.getD 4 undef = .pointer (some ⟨w.heap.size, 0, none⟩) := hk 4 (by kernel_rfl)
    have e5 : tm.getD 5 undef = .pointer (some ⟨w.heap.size + 1, 0, none⟩) := hk 5 (by kernel_rfl)
    have e6 : tm.getD 6 undef = .pointer (some ⟨w.heap.size + 1 + 1, 0, none⟩) := hk 6 (by kernel_rfl)
    have e7 : tm.getD 7 undef = .pointer (some ⟨w.heap.size + 1 + 1 + 1, 0, none⟩) := hk 7 (by kernel_rfl)
    have e8 : tm.getD 8 undef = .int .i64 0 := hk 8 (by kernel_rfl)
    have g9 : LV t (tm.getD 9 undef) W := hG 0 9 (by decide) rfl
    have g10 : LV box (tm.getD 10 undef) W := hG 1 10 (by decide) rfl
    have g11 : (tm.getD 11 undef) = .bool (raltM t box) := hG 2 11 (by decide) rfl
    have g12 : (tm.getD 12 undef) = .bool (raltM t box) := hG 3 12 (by decide) rfl
    have g13 : (raltM t box) = true → LV t (tm.getD 13 undef) W := hG 4 13 (by decide) rfl
    have g14 : (raltM t box) = true → LV l (tm.getD 14 undef) W := hG 5 14 (by decide) rfl
    have g15 : (raltM t box) = true → (tm.getD 15 undef) = .bool (rleM t l) := hG 6 15 (by decide) rfl
    have g16 : (tm.getD 16 undef) = .bool ((raltM t box) && (rleM t l)) := hG 7 16 (by decide) rfl
    have g17 : (tm.getD 17 undef) = .bool ((raltM t box) && (rleM t l)) := hG 8 17 (by decide) rfl
    have g18 : ((raltM t box) && (rleM t l)) = true → LV l (tm.getD 18 undef) W := hG 9 18 (by decide) rfl
    have g19 : ((raltM t box) && (rleM t l)) = true → LV c (tm.getD 19 undef) W := hG 10 19 (by decide) rfl
    have g20 : ((raltM t box) && (rleM t l)) = true → (tm.getD 20 undef) = .bool (rleM l c) := hG 11 20 (by decide) rfl
    have g21 : (tm.getD 21 undef) = .bool (((raltM t box) && (rleM t l)) && (rleM l c)) := hG 12 21 (by decide) rfl
    have g22 : (tm.getD 22 undef) = .bool (((raltM t box) && (rleM t l)) && (rleM l c)) := hG 13 22 (by decide) rfl
    have g23 : (((raltM t box) && (rleM t l)) && (rleM l c)) = true → LV box (tm.getD 23 undef) W := hG 14 23 (by decide) rfl
    have g24 : (((raltM t box) && (rleM t l)) && (rleM l c)) = true → LV l (tm.getD 24 undef) W := hG 15 24 (by decide) rfl
    have g25 : (((raltM t box) && (rleM t l)) && (rleM l c)) = true → LV (upM l) (tm.getD 25 undef) W := hG 16 25 (by decide) rfl
    have g26 : (((raltM t box) && (rleM t l)) && (rleM l c)) = true → LV ((2, []) : ML) (tm.getD 26 undef) W := hG 17 26 (by decide) rfl
    have g27 : (((raltM t box) && (rleM t l)) && (rleM l c)) = true → (tm.getD 27 undef) = .bool (belM box (upM l) ((2, []) : ML)) := hG 18 27 (by decide) rfl
    have g28 : (tm.getD 28 undef) = .bool ((((raltM t box) && (rleM t l)) && (rleM l c)) && (belM box (upM l) ((2, []) : ML))) := hG 19 28 (by decide) rfl
    have g29 : (tm.getD 29 undef) = .int .i64 (sayI ((((raltM t box) && (rleM t l)) && (rleM l c)) && (belM box (upM l) ((2, []) : ML)))) := hG 20 29 (by decide) rfl
    have htm := arr_of tm [.agg #[.int .i64 t.fst, .slice pt t.snd.length ct], .agg #[.int .i64 c.fst, .slice pc c.snd.length cc], .agg #[.int .i64 box.fst, .slice pbox box.snd.length cbox], .agg #[.int .i64 l.fst, .slice pl l.snd.length cl], .pointer (some ⟨w.heap.size, 0, none⟩), .pointer (some ⟨w.heap.size + 1, 0, none⟩), .pointer (some ⟨w.heap.size + 1 + 1, 0, none⟩), .pointer (some ⟨w.heap.size + 1 + 1 + 1, 0, none⟩), .int .i64 0, tm.getD 9 undef, tm.getD 10 undef, tm.getD 11 undef, tm.getD 12 undef, tm.getD 13 undef, tm.getD 14 undef, tm.getD 15 undef, tm.getD 16 undef, tm.getD 17 undef, tm.getD 18 undef, tm.getD 19 undef, tm.getD 20 undef, tm.getD 21 undef, tm.getD 22 undef, tm.getD 23 undef, tm.getD 24 undef, tm.getD 25 undef, tm.getD 26 undef, tm.getD 27 undef, tm.getD 28 undef, tm.getD 29 undef] hs (by show [tm.getD 0 undef, tm.getD 1 undef, tm.getD 2 undef, tm.getD 3 undef, tm.getD 4 undef, tm.getD 5 undef, tm.getD 6 undef, tm.getD 7 undef, tm.getD 8 undef, tm.getD 9 undef, tm.getD 10 undef, tm.getD 11 undef, tm.getD 12 undef, tm.getD 13 undef, tm.getD 14 undef, tm.getD 15 undef, tm.getD 16 undef, tm.getD 17 undef, tm.getD 18 undef, tm.getD 19 undef, tm.getD 20 undef, tm.getD 21 undef, tm.getD 22 undef, tm.getD 23 undef, tm.getD 24 undef, tm.getD 25 undef, tm.getD 26 undef, tm.getD 27 undef, tm.getD 28 undef, tm.getD 29 undef] = _; rw [e0, e1, e2, e3, e4, e5, e6, e7, e8])
    clear hs hk hG e0 e1 e2 e3 e4 e5 e6 e7 e8
    generalize tm.getD 9 undef = t9 at htm g9
    generalize tm.getD 10 undef = t10 at htm g10
    generalize tm.getD 11 undef = t11 at htm g11
    generalize tm.getD 12 undef = t12 at htm g12
    generalize tm.getD 13 undef = t13 at htm g13
    generalize tm.getD 14 undef = t14 at htm g14
    generalize tm.getD 15 undef = t15 at htm g15
    generalize tm.getD 16 undef = t16 at htm g16
    generalize tm.getD 17 undef = t17 at htm g17
    generalize tm.getD 18 undef = t18 at htm g18
    generalize tm.getD 19 undef = t19 at htm g19
    generalize tm.getD 20 undef = t20 at htm g20
    generalize tm.getD 21 undef = t21 at htm g21
    generalize tm.getD 22 undef = t22 at htm g22
    generalize tm.getD 23 undef = t23 at htm g23
    generalize tm.getD 24 undef = t24 at htm g24
    generalize tm.getD 25 undef = t25 at htm g25
    generalize tm.getD 26 undef = t26 at htm g26
    generalize tm.getD 27 undef = t27 at htm g27
    generalize tm.getD 28 undef = t28 at htm g28
    generalize tm.getD 29 undef = t29 at htm g29
    subst htm
    subst g11
    subst g12
    subst g16
    subst g17
    subst g21
    subst g22
    subst g28
    subst g29
    simp only [List.drop_succ_cons, List.drop_zero]
    go_wp2
    go_ret
    first | exact ⟨_, rfl, hA.trans (hB.mono hA.size), rfl⟩ | exact ⟨rfl, hA.trans (hB.mono hA.size)⟩
def rriseI (t c want : ML) : Int := if plainS want.1 want.2 = true then sayI ((rleM t want) && (rleM want c)) else 1
set_option maxRecDepth 100000 in
set_option maxHeartbeats 1000000 in
theorem rRise_c {t c want : ML} {vt vc vwant : Value} {w : World} (ht : LV t vt w) (hc : LV c vc w) (hwant : LV want vwant w) :
    Calls Try.prog 16 #[vt, vc, vwant] w fun e w' => ∃ v', e = .returned v' ∧ Below w.heap.size w w' ∧ v' = .int .i64 (rriseI t c want) := by
  obtain ⟨pt, ct, rfl, ht1, ht2, ht3⟩ := id ht
  obtain ⟨pc, cc, rfl, hc1, hc2, hc3⟩ := id hc
  obtain ⟨pwant, cwant, rfl, hwant1, hwant2, hwant3⟩ := id hwant
  have hA : Below w.heap.size w (((w.alloc (.cells #[.int .i64 t.1, .slice pt t.2.length ct] 24)).alloc (.cells #[.int .i64 c.1, .slice pc c.2.length cc] 24)).alloc (.cells #[.int .i64 want.1, .slice pwant want.2.length cwant] 24)) := by go_grown
  have hbt : LBox t (((w.alloc (.cells #[.int .i64 t.1, .slice pt t.2.length ct] 24)).alloc (.cells #[.int .i64 c.1, .slice pc c.2.length cc] 24)).alloc (.cells #[.int .i64 want.1, .slice pwant want.2.length cwant] 24)) w.heap.size 0 := ⟨pt, ct, by simp <;> omega, by simp [go_sem], by simp [go_sem], ht1.below hA, ht2, ht3⟩
  have hbc : LBox c (((w.alloc (.cells #[.int .i64 t.1, .slice pt t.2.length ct] 24)).alloc (.cells #[.int .i64 c.1, .slice pc c.2.length cc] 24)).alloc (.cells #[.int .i64 want.1, .slice pwant want.2.length cwant] 24)) (w.heap.size + 1) 0 := ⟨pc, cc, by simp <;> omega, by simp [go_sem], by simp [go_sem], hc1.below hA, hc2, hc3⟩
  have hbwant : LBox want (((w.alloc (.cells #[.int .i64 t.1, .slice pt t.2.length ct] 24)).alloc (.cells #[.int .i64 c.1, .slice pc c.2.length cc] 24)).alloc (.cells #[.int .i64 want.1, .slice pwant want.2.length cwant] 24)) (w.heap.size + 1 + 1) 0 := ⟨pwant, cwant, by simp <;> omega, by simp [go_sem], by simp [go_sem], hwant1.below hA, hwant2, hwant3⟩
  have HP := Lib.hid (rPlain_c (hwant.below hA))
  obtain ⟨x0, hx0⟩ : ∃ b, plainS want.1 want.2 = b := ⟨_, rfl⟩
  rw [hx0] at HP
  have HX := Lib.hid hx0
  clear hx0
  cases x0 with
  | true =>
    go_enter Try.func16, Try.ntmps16
    go_upto_region 3 with (go_at_call 24; refine HP.out.mono ?_; rintro e w1 ⟨_, rfl, hb1, rfl⟩)
    have hAB : Below w.heap.size w w1 := hA.trans (hb1.mono hA.size)
    have hct := hbt.below hb1
    have hcc := hbc.below hb1
    have hcwant := hbwant.below hb1
    refine wp_region_monoF 9 (fun kq v W => match kq with | 10 => LV t v W | 11 => LV want v W | 12 => v = .bool (rleM t want) | 13 => v = .bool (rleM t want) | 14 => ((rleM t want) = true → LV want v W) | 15 => ((rleM t want) = true → LV c v W) | 16 => ((rleM t want) = true → v = .bool (rleM want c)) | 17 => v = .bool ((rleM t want) && (rleM want c)) | 18 => v = .int .i64 (sayI ((rleM t want) && (rleM want c))) | _ => True) (by kernel_rfl) (by kernel_rfl) (by simp) ?_ ?_ ?_
    · intro kq v W W' h hb
      revert h
      try dsimp only
      split
      · intro h; exact LV.below h hb
      · intro h; exact LV.below h hb
      · intro h; exact h
      · intro h; exact h
      · intro h' e; have h := h' e; exact LV.below h hb
      · intro h' e; have h := h' e; exact LV.below h hb
      · intro h' e; have h := h' e; exact h
      · intro h; exact h
      · intro h; exact h
      · intro h; trivial
    · intro a' W hB hs hk i o d ho hd hG
      match i, ho with
      | 0, ho =>
        obtain rfl : _ = o := Option.some.inj ho
        obtain rfl : 10 = d := Option.some.inj hd
        obtain ⟨v, hr, hv⟩ := run_loadL (ev := a'.eval) (W := W) (hk 3 (by kernel_rfl)) (hct.below hB)
        exact .inr ⟨rfl, .inl ⟨v, W, hr, Below.refl _ _, hv⟩⟩
      | 1, ho =>
        obtain rfl : _ = o := Option.some.inj ho
        obtain rfl : 11 = d := Option.some.inj hd
        obtain ⟨v, hr, hv⟩ := run_loadL (ev := a'.eval) (W := W) (hk 5 (by kernel_rfl)) (hcwant.below hB)
        exact .inr ⟨rfl, .inl ⟨v, W, hr, Below.refl _ _, hv⟩⟩
      | 2, ho =>
        obtain rfl : _ = o := Option.some.inj ho
        obtain rfl : 12 = d := Option.some.inj hd
        have g10 : LV t (a'.eval (.tmp 10)) W := hG ⟨0, .data⟩ (by simp) rfl 10 rfl
        have g11 : LV want (a'.eval (.tmp 11)) W := hG ⟨1, .data⟩ (by simp) rfl 11 rfl
        exact .inr ⟨rfl, .inr ⟨_, _, run_call rfl map_2 ent_gatehouseref01_Leq, rLeq_c g10 g11⟩⟩
      | 3, ho =>
        obtain rfl : _ = o := Option.some.inj ho
        obtain rfl : 13 = d := Option.some.inj hd
        have g12 : (a'.eval (.tmp 12)) = .bool (rleM t want) := hG ⟨2, .data⟩ (by simp) rfl 12 rfl
        exact .inr ⟨rfl, .inl ⟨_, W, run_move rfl, Below.refl _ _, g12⟩⟩
      | 4, ho =>
        obtain rfl : _ = o := Option.some.inj ho
        obtain rfl : 14 = d := Option.some.inj hd
        have gg : a'.eval (.tmp 13) = .bool (rleM t want) := hG ⟨3, .guard⟩ (by simp) rfl 13 rfl
        by_cases gc : (rleM t want) = true
        · obtain ⟨v, hr, hv⟩ := run_loadL (ev := a'.eval) (W := W) (hk 5 (by kernel_rfl)) (hcwant.below hB)
          exact .inr ⟨want_yes (n := 19) (d := 13) rfl hs (by decide) rfl (gg.trans (by rw [gc])), .inl ⟨v, W, hr, Below.refl _ _, fun _ => hv⟩⟩
        · exact .inl ⟨want_no (n := 19) (d := 13) rfl hs (by decide) rfl gg gc, fun e => absurd e gc⟩
      | 5, ho =>
        obtain rfl : _ = o := Option.some.inj ho
        obtain rfl : 15 = d := Option.some.inj hd
        have gg : a'.eval (.tmp 13) = .bool (rleM t want) := hG ⟨3, .guard⟩ (by simp) rfl 13 rfl
        by_cases gc : (rleM t want) = true
        · obtain ⟨v, hr, hv⟩ := run_loadL (ev := a'.eval) (W := W) (hk 4 (by kernel_rfl)) (hcc.below hB)
          exact .inr ⟨want_yes (n := 19) (d := 13) rfl hs (by decide) rfl (gg.trans (by rw [gc])), .inl ⟨v, W, hr, Below.refl _ _, fun _ => hv⟩⟩
        · exact .inl ⟨want_no (n := 19) (d := 13) rfl hs (by decide) rfl gg gc, fun e => absurd e gc⟩
      | 6, ho =>
        obtain rfl : _ = o := Option.some.inj ho
        obtain rfl : 16 = d := Option.some.inj hd
        have gg : a'.eval (.tmp 13) = .bool (rleM t want) := hG ⟨3, .guard⟩ (by simp) rfl 13 rfl
        by_cases gc : (rleM t want) = true
        · have g14 : LV want (a'.eval (.tmp 14)) W := hG ⟨4, .data⟩ (by simp) rfl 14 rfl gc
          have g15 : LV c (a'.eval (.tmp 15)) W := hG ⟨5, .data⟩ (by simp) rfl 15 rfl gc
          exact .inr ⟨want_yes (n := 19) (d := 13) rfl hs (by decide) rfl (gg.trans (by rw [gc])), .inr ⟨_, _, run_call rfl map_2 ent_gatehouseref01_Leq, (rLeq_c g14 g15).mono (fun e W' ⟨v, he, hb, hv⟩ => ⟨v, he, hb, fun _ => hv⟩)⟩⟩
        · exact .inl ⟨want_no (n := 19) (d := 13) rfl hs (by decide) rfl gg gc, fun e => absurd e gc⟩
      | 7, ho =>
        obtain rfl : _ = o := Option.some.inj ho
        obtain rfl : 17 = d := Option.some.inj hd
        have g13 : (a'.eval (.tmp 13)) = .bool (rleM t want) := hG ⟨3, .data⟩ (by simp) rfl 13 rfl
        by_cases hq : (rleM t want) = true
        · exact .inr ⟨rfl, .inl ⟨_, W, run_pick_yes (g13.trans (by rw [hq])) (hG ⟨6, .data⟩ (by simp) rfl 16 rfl hq), Below.refl _ _, by rw [hq]; rfl⟩⟩
        · have hq' : (rleM t want) = false := by simpa using hq
          exact .inr ⟨rfl, .inl ⟨_, W, run_pick_no (g13.trans (by rw [hq'])) rfl, Below.refl _ _, by rw [hq']; rfl⟩⟩
      | 8, ho =>
        obtain rfl : _ = o := Option.some.inj ho
        obtain rfl : 18 = d := Option.some.inj hd
        have g17 : (a'.eval (.tmp 17)) = .bool ((rleM t want) && (rleM want c)) := hG ⟨7, .data⟩ (by simp) rfl 17 rfl
        exact .inr ⟨rfl, .inr ⟨_, _, run_call rfl map_1 ent_gatehouseref07_say, say_c' g17⟩⟩
      | j + 9, ho => simp at ho
    · intro a' W hB hs hdf hk hG
      obtain ⟨tm, df⟩ := a'
      obtain rfl : df = [] := hdf
      have e0 : tm.getD 0 undef = .agg #[.int .i64 t.fst, .slice pt t.snd.length ct] := hk 0 (by kernel_rfl)
      have e1 : tm.getD 1 undef = .agg #[.int .i64 c.fst, .slice pc c.snd.length cc] := hk 1 (by kernel_rfl)
      have e2 : tm.getD 2 undef = .agg #[.int .i64 want.fst, .slice pwant want.snd.length cwant] := hk 2 (by kernel_rfl)
      have e3 : tm.getD 3 undef = .pointer (some ⟨w.heap.size, 0, none⟩) := hk 3 (by kernel_rfl)
      have e4 : tm.getD 4 undef = .pointer (some ⟨w.heap.size + 1, 0, none⟩) := hk 4 (by kernel_rfl)
      have e5 : tm.getD 5 undef = .pointer (some ⟨w.heap.size + 1 + 1, 0, none⟩) := hk 5 (by kernel_rfl)
      have e6 : tm.getD 6 undef = .int .i64 0 := hk 6 (by kernel_rfl)
      have e7 : tm.getD 7 undef = .agg #[.int .i64 want.fst, .slice pwant want.snd.length cwant] := hk 7 (by kernel_rfl)
      have e8 : tm.getD 8 undef = .bool true := hk 8 (by kernel_rfl)
      have e9 : tm.getD 9 undef = .bool false := hk 9 (by kernel_rfl)
      have g10 : LV t (tm.getD 10 undef) W := hG 0 10 (by decide) rfl
      have g11 : LV want (tm.getD 11 undef) W := hG 1 11 (by decide) rfl
      have g12 : (tm.getD 12 undef) = .bool (rleM t want) := hG 2 12 (by decide) rfl
      have g13 : (tm.getD 13 undef) = .bool (rleM t want) := hG 3 13 (by decide) rfl
      have g14 : (rleM t want) = true → LV want (tm.getD 14 undef) W := hG 4 14 (by decide) rfl
      have g15 : (rleM t want) = true → LV c (tm.getD 15 undef) W := hG 5 15 (by decide) rfl
      have g16 : (rleM t want) = true → (tm.getD 16 undef) = .bool (rleM want c) := hG 6 16 (by decide) rfl
      have g17 : (tm.getD 17 undef) = .bool ((rleM t want) && (rleM want c)) := hG 7 17 (by decide) rfl
      have g18 : (tm.getD 18 undef) = .int .i64 (sayI ((rleM t want) && (rleM want c))) := hG 8 18 (by decide) rfl
      have htm := arr_of tm [.agg #[.int .i64 t.fst, .slice pt t.snd.length ct], .agg #[.int .i64 c.fst, .slice pc c.snd.length cc], .agg #[.int .i64 want.fst, .slice pwant want.snd.length cwant], .pointer (some ⟨w.heap.size, 0, none⟩), .pointer (some ⟨w.heap.size + 1, 0, none⟩), .pointer (some ⟨w.heap.size + 1 + 1, 0, none⟩), .int .i64 0, .agg #[.int .i64 want.fst, .slice pwant want.snd.length cwant], .bool true, .bool false, tm.getD 10 undef, tm.getD 11 undef, tm.getD 12 undef, tm.getD 13 undef, tm.getD 14 undef, tm.getD 15 undef, tm.getD 16 undef, tm.getD 17 undef, tm.getD 18 undef] hs (by show [tm.getD 0 undef, tm.getD 1 undef, tm.getD 2 undef, tm.getD 3 undef, tm.getD 4 undef, tm.getD 5 undef, tm.getD 6 undef, tm.getD 7 undef, tm.getD 8 undef, tm.getD 9 undef, tm.getD 10 undef, tm.getD 11 undef, tm.getD 12 undef, tm.getD 13 undef, tm.getD 14 undef, tm.getD 15 undef, tm.getD 16 undef, tm.getD 17 undef, tm.getD 18 undef] = _; rw [e0, e1, e2, e3, e4, e5, e6, e7, e8, e9])
      clear hs hk hG e0 e1 e2 e3 e4 e5 e6 e7 e8 e9
      generalize tm.getD 10 undef = t10 at htm g10
      generalize tm.getD 11 undef = t11 at htm g11
      generalize tm.getD 12 undef = t12 at htm g12
      generalize tm.getD 13 undef = t13 at htm g13
      generalize tm.getD 14 undef = t14 at htm g14
      generalize tm.getD 15 undef = t15 at htm g15
      generalize tm.getD 16 undef = t16 at htm g16
      generalize tm.getD 17 undef = t17 at htm g17
      generalize tm.getD 18 undef = t18 at htm g18
      subst htm
      subst g12
      subst g13
      subst g17
      subst g18
      simp only [List.drop_succ_cons, List.drop_zero]
      go_wp2
      go_ret
      first | exact ⟨_, rfl, hAB.trans (hB.mono hAB.size), by unfold rriseI; rw [HX.out]; rfl⟩ | exact ⟨by unfold rriseI; rw [HX.out]; rfl, hAB.trans (hB.mono hAB.size)⟩
  | false =>
    go_enter Try.func16, Try.ntmps16
    go_wp2_with (go_at_call 24; refine HP.out.mono ?_; rintro e w1 ⟨_, rfl, hb1, rfl⟩)
    go_ret
    exact ⟨_, rfl, hA.trans (hb1.mono hA.size), by unfold rriseI; rw [HX.out]; rfl⟩
def rclearI (t c want : ML) : Int := if freeS want.1 want.2 = true then sayI ((rleM t want) && (belM want c (upM t))) else 1
set_option maxRecDepth 100000 in
set_option maxHeartbeats 1000000 in
theorem rClear_c {t c want : ML} {vt vc vwant : Value} {w : World} (ht : LV t vt w) (hc : LV c vc w) (hwant : LV want vwant w) :
    Calls Try.prog 18 #[vt, vc, vwant] w fun e w' => ∃ v', e = .returned v' ∧ Below w.heap.size w w' ∧ v' = .int .i64 (rclearI t c want) := by
  obtain ⟨pt, ct, rfl, ht1, ht2, ht3⟩ := id ht
  obtain ⟨pc, cc, rfl, hc1, hc2, hc3⟩ := id hc
  obtain ⟨pwant, cwant, rfl, hwant1, hwant2, hwant3⟩ := id hwant
  have hA : Below w.heap.size w (((w.alloc (.cells #[.int .i64 t.1, .slice pt t.2.length ct] 24)).alloc (.cells #[.int .i64 c.1, .slice pc c.2.length cc] 24)).alloc (.cells #[.int .i64 want.1, .slice pwant want.2.length cwant] 24)) := by go_grown
  have hbt : LBox t (((w.alloc (.cells #[.int .i64 t.1, .slice pt t.2.length ct] 24)).alloc (.cells #[.int .i64 c.1, .slice pc c.2.length cc] 24)).alloc (.cells #[.int .i64 want.1, .slice pwant want.2.length cwant] 24)) w.heap.size 0 := ⟨pt, ct, by simp <;> omega, by simp [go_sem], by simp [go_sem], ht1.below hA, ht2, ht3⟩
  have hbc : LBox c (((w.alloc (.cells #[.int .i64 t.1, .slice pt t.2.length ct] 24)).alloc (.cells #[.int .i64 c.1, .slice pc c.2.length cc] 24)).alloc (.cells #[.int .i64 want.1, .slice pwant want.2.length cwant] 24)) (w.heap.size + 1) 0 := ⟨pc, cc, by simp <;> omega, by simp [go_sem], by simp [go_sem], hc1.below hA, hc2, hc3⟩
  have hbwant : LBox want (((w.alloc (.cells #[.int .i64 t.1, .slice pt t.2.length ct] 24)).alloc (.cells #[.int .i64 c.1, .slice pc c.2.length cc] 24)).alloc (.cells #[.int .i64 want.1, .slice pwant want.2.length cwant] 24)) (w.heap.size + 1 + 1) 0 := ⟨pwant, cwant, by simp <;> omega, by simp [go_sem], by simp [go_sem], hwant1.below hA, hwant2, hwant3⟩
  have HP := Lib.hid (rFree_c (hwant.below hA))
  obtain ⟨x0, hx0⟩ : ∃ b, freeS want.1 want.2 = b := ⟨_, rfl⟩
  rw [hx0] at HP
  have HX := Lib.hid hx0
  clear hx0
  cases x0 with
  | true =>
    go_enter Try.func18, Try.ntmps18
    go_upto_region 3 with (go_at_call 29; refine HP.out.mono ?_; rintro e w1 ⟨_, rfl, hb1, rfl⟩)
    have hAB : Below w.heap.size w w1 := hA.trans (hb1.mono hA.size)
    have hct := hbt.below hb1
    have hcc := hbc.below hb1
    have hcwant := hbwant.below hb1
    refine wp_region_mono 11 (fun kq v W => match kq with | 10 => LV t v W | 11 => LV want v W | 12 => v = .bool (rleM t want) | 13 => v = .bool (rleM t want) | 14 => ((rleM t want) = true → LV want v W) | 15 => ((rleM t want) = true → LV c v W) | 16 => ((rleM t want) = true → LV t v W) | 17 => ((rleM t want) = true → LV (upM t) v W) | 18 => ((rleM t want) = true → v = .bool (belM want c (upM t))) | 19 => v = .bool ((rleM t want) && (belM want c (upM t))) | 20 => v = .int .i64 (sayI ((rleM t want) && (belM want c (upM t)))) | _ => True) (by kernel_rfl) (by kernel_rfl) (by kernel_rfl) (by kernel_rfl) (by simp) (by kernel_rfl) ?_ ?_ ?_
    · intro kq v W W' h hb
      revert h
      try dsimp only
      split
      · intro h; exact LV.below h hb
      · intro h; exact LV.below h hb
      · intro h; exact h
      · intro h; exact h
      · intro h' e; have h := h' e; exact LV.below h hb
      · intro h' e; have h := h' e; exact LV.below h hb
      · intro h' e; have h := h' e; exact LV.below h hb
      · intro h' e; have h := h' e; exact LV.below h hb
      · intro h' e; have h := h' e; exact h
      · intro h; exact h
      · intro h; exact h
      · intro h; trivial
    · intro a' W hB hs hk i o d ho hd hG
      match i, ho with
      | 0, ho =>
        obtain rfl : _ = o := Option.some.inj ho
        obtain rfl : 10 = d := Option.some.inj hd
        obtain ⟨v, hr, hv⟩ := run_loadL (ev := a'.eval) (W := W) (hk 3 (by kernel_rfl)) (hct.below hB)
        exact .inr ⟨rfl, .inl ⟨v, W, hr, Below.refl _ _, hv⟩⟩
      | 1, ho =>
        obtain rfl : _ = o := Option.some.inj ho
        obtain rfl : 11 = d := Option.some.inj hd
        obtain ⟨v, hr, hv⟩ := run_loadL (ev := a'.eval) (W := W) (hk 5 (by kernel_rfl)) (hcwant.below hB)
        exact .inr ⟨rfl, .inl ⟨v, W, hr, Below.refl _ _, hv⟩⟩
      | 2, ho =>
        obtain rfl : _ = o := Option.some.inj ho
        obtain rfl : 12 = d := Option.some.inj hd
        have g10 : LV t (a'.eval (.tmp 10)) W := hG ⟨0, .data⟩ (by simp) rfl 10 rfl
        have g11 : LV want (a'.eval (.tmp 11)) W := hG ⟨1, .data⟩ (by simp) rfl 11 rfl
        exact .inr ⟨rfl, .inr ⟨_, _, run_call rfl map_2 ent_gatehouseref01_Leq, rLeq_c g10 g11⟩⟩
      | 3, ho =>
        obtain rfl : _ = o := Option.some.inj ho
        obtain rfl : 13 = d := Option.some.inj hd
        have g12 : (a'.eval (.tmp 12)) = .bool (rleM t want) := hG ⟨2, .data⟩ (by simp) rfl 12 rfl
        exact .inr ⟨rfl, .inl ⟨_, W, run_move rfl, Below.refl _ _, g12⟩⟩
      | 4, ho =>
        obtain rfl : _ = o := Option.some.inj ho
        obtain rfl : 14 = d := Option.some.inj hd
        have gg : a'.eval (.tmp 13) = .bool (rleM t want) := hG ⟨3, .guard⟩ (by simp) rfl 13 rfl
        by_cases gc : (rleM t want) = true
        · obtain ⟨v, hr, hv⟩ := run_loadL (ev := a'.eval) (W := W) (hk 5 (by kernel_rfl)) (hcwant.below hB)
          exact .inr ⟨want_yes (n := 21) (d := 13) rfl hs (by decide) rfl (gg.trans (by rw [gc])), .inl ⟨v, W, hr, Below.refl _ _, fun _ => hv⟩⟩
        · exact .inl ⟨want_no (n := 21) (d := 13) rfl hs (by decide) rfl gg gc, fun e => absurd e gc⟩
      | 5, ho =>
        obtain rfl : _ = o := Option.some.inj ho
        obtain rfl : 15 = d := Option.some.inj hd
        have gg : a'.eval (.tmp 13) = .bool (rleM t want) := hG ⟨3, .guard⟩ (by simp) rfl 13 rfl
        by_cases gc : (rleM t want) = true
        · obtain ⟨v, hr, hv⟩ := run_loadL (ev := a'.eval) (W := W) (hk 4 (by kernel_rfl)) (hcc.below hB)
          exact .inr ⟨want_yes (n := 21) (d := 13) rfl hs (by decide) rfl (gg.trans (by rw [gc])), .inl ⟨v, W, hr, Below.refl _ _, fun _ => hv⟩⟩
        · exact .inl ⟨want_no (n := 21) (d := 13) rfl hs (by decide) rfl gg gc, fun e => absurd e gc⟩
      | 6, ho =>
        obtain rfl : _ = o := Option.some.inj ho
        obtain rfl : 16 = d := Option.some.inj hd
        have gg : a'.eval (.tmp 13) = .bool (rleM t want) := hG ⟨3, .guard⟩ (by simp) rfl 13 rfl
        by_cases gc : (rleM t want) = true
        · obtain ⟨v, hr, hv⟩ := run_loadL (ev := a'.eval) (W := W) (hk 3 (by kernel_rfl)) (hct.below hB)
          exact .inr ⟨want_yes (n := 21) (d := 13) rfl hs (by decide) rfl (gg.trans (by rw [gc])), .inl ⟨v, W, hr, Below.refl _ _, fun _ => hv⟩⟩
        · exact .inl ⟨want_no (n := 21) (d := 13) rfl hs (by decide) rfl gg gc, fun e => absurd e gc⟩
      | 7, ho =>
        obtain rfl : _ = o := Option.some.inj ho
        obtain rfl : 17 = d := Option.some.inj hd
        have gg : a'.eval (.tmp 13) = .bool (rleM t want) := hG ⟨3, .guard⟩ (by simp) rfl 13 rfl
        by_cases gc : (rleM t want) = true
        · have g16 : LV t (a'.eval (.tmp 16)) W := hG ⟨6, .data⟩ (by simp) rfl 16 rfl gc
          exact .inr ⟨want_yes (n := 21) (d := 13) rfl hs (by decide) rfl (gg.trans (by rw [gc])), .inr ⟨_, _, run_call rfl map_1 ent_gatehouseref01_Up, (rUp_c g16).mono (fun e W' ⟨v, he, hb, hv⟩ => ⟨v, he, hb, fun _ => hv⟩)⟩⟩
        · exact .inl ⟨want_no (n := 21) (d := 13) rfl hs (by decide) rfl gg gc, fun e => absurd e gc⟩
      | 8, ho =>
        obtain rfl : _ = o := Option.some.inj ho
        obtain rfl : 18 = d := Option.some.inj hd
        have gg : a'.eval (.tmp 13) = .bool (rleM t want) := hG ⟨3, .guard⟩ (by simp) rfl 13 rfl
        by_cases gc : (rleM t want) = true
        · have g14 : LV want (a'.eval (.tmp 14)) W := hG ⟨4, .data⟩ (by simp) rfl 14 rfl gc
          have g15 : LV c (a'.eval (.tmp 15)) W := hG ⟨5, .data⟩ (by simp) rfl 15 rfl gc
          have g17 : LV (upM t) (a'.eval (.tmp 17)) W := hG ⟨7, .data⟩ (by simp) rfl 17 rfl gc
          exact .inr ⟨want_yes (n := 21) (d := 13) rfl hs (by decide) rfl (gg.trans (by rw [gc])), .inr ⟨_, _, run_call rfl map_3 ent_gatehouseref07_Below, (rBelow_c g14 g15 g17).mono (fun e W' ⟨v, he, hb, hv⟩ => ⟨v, he, hb, fun _ => hv⟩)⟩⟩
        · exact .inl ⟨want_no (n := 21) (d := 13) rfl hs (by decide) rfl gg gc, fun e => absurd e gc⟩
      | 9, ho =>
        obtain rfl : _ = o := Option.some.inj ho
        obtain rfl : 19 = d := Option.some.inj hd
        have g13 : (a'.eval (.tmp 13)) = .bool (rleM t want) := hG ⟨3, .data⟩ (by simp) rfl 13 rfl
        by_cases hq : (rleM t want) = true
        · exact .inr ⟨rfl, .inl ⟨_, W, run_pick_yes (g13.trans (by rw [hq])) (hG ⟨8, .data⟩ (by simp) rfl 18 rfl hq), Below.refl _ _, by rw [hq]; rfl⟩⟩
        · have hq' : (rleM t want) = false := by simpa using hq
          exact .inr ⟨rfl, .inl ⟨_, W, run_pick_no (g13.trans (by rw [hq'])) rfl, Below.refl _ _, by rw [hq']; rfl⟩⟩
      | 10, ho =>
        obtain rfl : _ = o := Option.some.inj ho
        obtain rfl : 20 = d := Option.some.inj hd
        have g19 : (a'.eval (.tmp 19)) = .bool ((rleM t want) && (belM want c (upM t))) := hG ⟨9, .data⟩ (by simp) rfl 19 rfl
        exact .inr ⟨rfl, .inr ⟨_, _, run_call rfl map_1 ent_gatehouseref07_say, say_c' g19⟩⟩
      | j + 11, ho => simp at ho
    · intro a' W hB hs hdf hk hG
      obtain ⟨tm, df⟩ := a'
      obtain rfl : df = [] := hdf
      have e0 : tm.getD 0 undef = .agg #[.int .i64 t.fst, .slice pt t.snd.length ct] := hk 0 (by kernel_rfl)
      have e1 : tm.getD 1 undef = .agg #[.int .i64 c.fst, .slice pc c.snd.length cc] := hk 1 (by kernel_rfl)
      have e2 : tm.getD 2 undef = .agg #[.int .i64 want.fst, .slice pwant want.snd.length cwant] := hk 2 (by kernel_rfl)
      have e3 : tm.getD 3 undef = .pointer (some ⟨w.heap.size, 0, none⟩) := hk 3 (by kernel_rfl)
      have e4 : tm.getD 4 undef = .pointer (some ⟨w.heap.size + 1, 0, none⟩) := hk 4 (by kernel_rfl)
      have e5 : tm.getD 5 undef = .pointer (some ⟨w.heap.size + 1 + 1, 0, none⟩) := hk 5 (by kernel_rfl)
      have e6 : tm.getD 6 undef = .int .i64 0 := hk 6 (by kernel_rfl)
      have e7 : tm.getD 7 undef = .agg #[.int .i64 want.fst, .slice pwant want.snd.length cwant] := hk 7 (by kernel_rfl)
      have e8 : tm.getD 8 undef = .bool true := hk 8 (by kernel_rfl)
      have e9 : tm.getD 9 undef = .bool false := hk 9 (by kernel_rfl)
      have g10 : LV t (tm.getD 10 undef) W := hG 0 10 (by decide) rfl
      have g11 : LV want (tm.getD 11 undef) W := hG 1 11 (by decide) rfl
      have g12 : (tm.getD 12 undef) = .bool (rleM t want) := hG 2 12 (by decide) rfl
      have g13 : (tm.getD 13 undef) = .bool (rleM t want) := hG 3 13 (by decide) rfl
      have g14 : (rleM t want) = true → LV want (tm.getD 14 undef) W := hG 4 14 (by decide) rfl
      have g15 : (rleM t want) = true → LV c (tm.getD 15 undef) W := hG 5 15 (by decide) rfl
      have g16 : (rleM t want) = true → LV t (tm.getD 16 undef) W := hG 6 16 (by decide) rfl
      have g17 : (rleM t want) = true → LV (upM t) (tm.getD 17 undef) W := hG 7 17 (by decide) rfl
      have g18 : (rleM t want) = true → (tm.getD 18 undef) = .bool (belM want c (upM t)) := hG 8 18 (by decide) rfl
      have g19 : (tm.getD 19 undef) = .bool ((rleM t want) && (belM want c (upM t))) := hG 9 19 (by decide) rfl
      have g20 : (tm.getD 20 undef) = .int .i64 (sayI ((rleM t want) && (belM want c (upM t)))) := hG 10 20 (by decide) rfl
      have htm := arr_of tm [.agg #[.int .i64 t.fst, .slice pt t.snd.length ct], .agg #[.int .i64 c.fst, .slice pc c.snd.length cc], .agg #[.int .i64 want.fst, .slice pwant want.snd.length cwant], .pointer (some ⟨w.heap.size, 0, none⟩), .pointer (some ⟨w.heap.size + 1, 0, none⟩), .pointer (some ⟨w.heap.size + 1 + 1, 0, none⟩), .int .i64 0, .agg #[.int .i64 want.fst, .slice pwant want.snd.length cwant], .bool true, .bool false, tm.getD 10 undef, tm.getD 11 undef, tm.getD 12 undef, tm.getD 13 undef, tm.getD 14 undef, tm.getD 15 undef, tm.getD 16 undef, tm.getD 17 undef, tm.getD 18 undef, tm.getD 19 undef, tm.getD 20 undef] hs (by show [tm.getD 0 undef, tm.getD 1 undef, tm.getD 2 undef, tm.getD 3 undef, tm.getD 4 undef, tm.getD 5 undef, tm.getD 6 undef, tm.getD 7 undef, tm.getD 8 undef, tm.getD 9 undef, tm.getD 10 undef, tm.getD 11 undef, tm.getD 12 undef, tm.getD 13 undef, tm.getD 14 undef, tm.getD 15 undef, tm.getD 16 undef, tm.getD 17 undef, tm.getD 18 undef, tm.getD 19 undef, tm.getD 20 undef] = _; rw [e0, e1, e2, e3, e4, e5, e6, e7, e8, e9])
      clear hs hk hG e0 e1 e2 e3 e4 e5 e6 e7 e8 e9
      generalize tm.getD 10 undef = t10 at htm g10
      generalize tm.getD 11 undef = t11 at htm g11
      generalize tm.getD 12 undef = t12 at htm g12
      generalize tm.getD 13 undef = t13 at htm g13
      generalize tm.getD 14 undef = t14 at htm g14
      generalize tm.getD 15 undef = t15 at htm g15
      generalize tm.getD 16 undef = t16 at htm g16
      generalize tm.getD 17 undef = t17 at htm g17
      generalize tm.getD 18 undef = t18 at htm g18
      generalize tm.getD 19 undef = t19 at htm g19
      generalize tm.getD 20 undef = t20 at htm g20
      subst htm
      subst g12
      subst g13
      subst g19
      subst g20
      simp only [List.drop_succ_cons, List.drop_zero]
      go_wp2
      go_ret
      first | exact ⟨_, rfl, hAB.trans (hB.mono hAB.size), by unfold rclearI; rw [HX.out]; rfl⟩ | exact ⟨by unfold rclearI; rw [HX.out]; rfl, hAB.trans (hB.mono hAB.size)⟩
  | false =>
    go_enter Try.func18, Try.ntmps18
    go_wp2_with (go_at_call 29; refine HP.out.mono ?_; rintro e w1 ⟨_, rfl, hb1, rfl⟩)
    go_ret
    exact ⟨_, rfl, hA.trans (hb1.mono hA.size), by unfold rclearI; rw [HX.out]; rfl⟩
def rlendI (t c l m : ML) : Int := if plainS l.1 l.2 = true then (if freeS m.1 m.2 = true then sayI (((rleM t l) && (rleM l m)) && (rleM m c)) else 1) else 1
set_option maxRecDepth 100000 in
set_option maxHeartbeats 1000000 in
theorem rLend_c {t c l m : ML} {vt vc vl vm : Value} {w : World} (ht : LV t vt w) (hc : LV c vc w) (hl : LV l vl w) (hm : LV m vm w) :
    Calls Try.prog 14 #[vt, vc, vl, vm] w fun e w' => ∃ v', e = .returned v' ∧ Below w.heap.size w w' ∧ v' = .int .i64 (rlendI t c l m) := by
  obtain ⟨pt, ct, rfl, ht1, ht2, ht3⟩ := id ht
  obtain ⟨pc, cc, rfl, hc1, hc2, hc3⟩ := id hc
  obtain ⟨pl, cl, rfl, hl1, hl2, hl3⟩ := id hl
  obtain ⟨pm, cm, rfl, hm1, hm2, hm3⟩ := id hm
  have hA : Below w.heap.size w ((((w.alloc (.cells #[.int .i64 t.1, .slice pt t.2.length ct] 24)).alloc (.cells #[.int .i64 c.1, .slice pc c.2.length cc] 24)).alloc (.cells #[.int .i64 l.1, .slice pl l.2.length cl] 24)).alloc (.cells #[.int .i64 m.1, .slice pm m.2.length cm] 24)) := by go_grown
  have hbt : LBox t ((((w.alloc (.cells #[.int .i64 t.1, .slice pt t.2.length ct] 24)).alloc (.cells #[.int .i64 c.1, .slice pc c.2.length cc] 24)).alloc (.cells #[.int .i64 l.1, .slice pl l.2.length cl] 24)).alloc (.cells #[.int .i64 m.1, .slice pm m.2.length cm] 24)) w.heap.size 0 := ⟨pt, ct, by simp <;> omega, by simp [go_sem], by simp [go_sem], ht1.below hA, ht2, ht3⟩
  have hbc : LBox c ((((w.alloc (.cells #[.int .i64 t.1, .slice pt t.2.length ct] 24)).alloc (.cells #[.int .i64 c.1, .slice pc c.2.length cc] 24)).alloc (.cells #[.int .i64 l.1, .slice pl l.2.length cl] 24)).alloc (.cells #[.int .i64 m.1, .slice pm m.2.length cm] 24)) (w.heap.size + 1) 0 := ⟨pc, cc, by simp <;> omega, by simp [go_sem], by simp [go_sem], hc1.below hA, hc2, hc3⟩
  have hbl : LBox l ((((w.alloc (.cells #[.int .i64 t.1, .slice pt t.2.length ct] 24)).alloc (.cells #[.int .i64 c.1, .slice pc c.2.length cc] 24)).alloc (.cells #[.int .i64 l.1, .slice pl l.2.length cl] 24)).alloc (.cells #[.int .i64 m.1, .slice pm m.2.length cm] 24)) (w.heap.size + 1 + 1) 0 := ⟨pl, cl, by simp <;> omega, by simp [go_sem], by simp [go_sem], hl1.below hA, hl2, hl3⟩
  have hbm : LBox m ((((w.alloc (.cells #[.int .i64 t.1, .slice pt t.2.length ct] 24)).alloc (.cells #[.int .i64 c.1, .slice pc c.2.length cc] 24)).alloc (.cells #[.int .i64 l.1, .slice pl l.2.length cl] 24)).alloc (.cells #[.int .i64 m.1, .slice pm m.2.length cm] 24)) (w.heap.size + 1 + 1 + 1) 0 := ⟨pm, cm, by simp <;> omega, by simp [go_sem], by simp [go_sem], hm1.below hA, hm2, hm3⟩
  have HP := Lib.hid (rPlain_c (hl.below hA))
  have HF : Hid (∀ W, Below w.heap.size w W → _) := fun W hW => rFree_c (hm.below hW)
  obtain ⟨x0, hx0⟩ : ∃ b, plainS l.1 l.2 = b := ⟨_, rfl⟩
  rw [hx0] at HP
  have HX := Lib.hid hx0
  obtain ⟨x1, hx1⟩ : ∃ b, freeS m.1 m.2 = b := ⟨_, rfl⟩
  simp only [hx1] at HF
  have HY := Lib.hid hx1
  clear hx0 hx1
  cases x0 with
  | true =>
    cases x1 with
    | true =>
      go_enter Try.func14, Try.ntmps14
      go_upto_region 3 with (first | (go_at_call 24; refine HP.out.mono ?_; rintro e w1 ⟨_, rfl, hb1, rfl⟩; have hAB : Below w.heap.size w w1 := hA.trans (hb1.mono hA.size); have bm0 : w1.cell? ⟨w.heap.size + 1 + 1 + 1, 0, none⟩ = some (.int .i64 m.1) := (hb1.cell (p := ⟨w.heap.size + 1 + 1 + 1, 0, none⟩) (by simp <;> omega)).trans (by simp [go_sem]); have bm1 : w1.cell? ⟨w.heap.size + 1 + 1 + 1, 1, none⟩ = some (.slice pm m.2.length cm) := (hb1.cell (p := ⟨w.heap.size + 1 + 1 + 1, 1, none⟩) (by simp <;> omega)).trans (by simp [go_sem])) | (go_at_call 29; refine (HF.out w1 hAB).mono ?_; rintro e w2 ⟨_, rfl, hb2, rfl⟩))
      have hAC : Below w.heap.size w w2 := hAB.trans (hb2.mono hAB.size)
      have hct := (hbt.below hb1).below hb2
      have hcc := (hbc.below hb1).below hb2
      have hcl := (hbl.below hb1).below hb2
      have hcm := (hbm.below hb1).below hb2
      refine wp_region_monoF 14 (fun kq v W => match kq with | 17 => LV t v W | 18 => LV l v W | 19 => v = .bool (rleM t l) | 20 => v = .bool (rleM t l) | 21 => ((rleM t l) = true → LV l v W) | 22 => ((rleM t l) = true → LV m v W) | 23 => ((rleM t l) = true → v = .bool (rleM l m)) | 24 => v = .bool ((rleM t l) && (rleM l m)) | 25 => v = .bool ((rleM t l) && (rleM l m)) | 26 => (((rleM t l) && (rleM l m)) = true → LV m v W) | 27 => (((rleM t l) && (rleM l m)) = true → LV c v W) | 28 => (((rleM t l) && (rleM l m)) = true → v = .bool (rleM m c)) | 29 => v = .bool (((rleM t l) && (rleM l m)) && (rleM m c)) | 30 => v = .int .i64 (sayI (((rleM t l) && (rleM l m)) && (rleM m c))) | _ => True) (by kernel_rfl) (by kernel_rfl) (by simp) ?_ ?_ ?_
      · intro kq v W W' h hb
        revert h
        try dsimp only
        split
        · intro h; exact LV.below h hb
        · intro h; exact LV.below h hb
        · intro h; exact h
        · intro h; exact h
        · intro h' e; have h := h' e; exact LV.below h hb
        · intro h' e; have h := h' e; exact LV.below h hb
        · intro h' e; have h := h' e; exact h
        · intro h; exact h
        · intro h; exact h
        · intro h' e; have h := h' e; exact LV.below h hb
        · intro h' e; have h := h' e; exact LV.below h hb
        · intro h' e; have h := h' e; exact h
        · intro h; exact h
        · intro h; exact h
        · intro h; trivial
      · intro a' W hB hs hk i o d ho hd hG
        match i, ho with
        | 0, ho =>
          obtain rfl : _ = o := Option.some.inj ho
          obtain rfl : 17 = d := Option.some.inj hd
          obtain ⟨v, hr, hv⟩ := run_loadL (ev := a'.eval) (W := W) (hk 4 (by kernel_rfl)) (hct.below hB)
          exact .inr ⟨rfl, .inl ⟨v, W, hr, Below.refl _ _, hv⟩⟩
        | 1, ho =>
          obtain rfl : _ = o := Option.some.inj ho
          obtain rfl : 18 = d := Option.some.inj hd
          obtain ⟨v, hr, hv⟩ := run_loadL (ev := a'.eval) (W := W) (hk 6 (by kernel_rfl)) (hcl.below hB)
          exact .inr ⟨rfl, .inl ⟨v, W, hr, Below.refl _ _, hv⟩⟩
        | 2, ho =>
          obtain rfl : _ = o := Option.some.inj ho
          obtain rfl : 19 = d := Option.some.inj hd
          have g17 : LV t (a'.eval (.tmp 17)) W := hG ⟨0, .data⟩ (by simp) rfl 17 rfl
          have g18 : LV l (a'.eval (.tmp 18)) W := hG ⟨1, .data⟩ (by simp) rfl 18 rfl
          exact .inr ⟨rfl, .inr ⟨_, _, run_call rfl map_2 ent_gatehouseref01_Leq, rLeq_c g17 g18⟩⟩
        | 3, ho =>
          obtain rfl : _ = o := Option.some.inj ho
          obtain rfl : 20 = d := Option.some.inj hd
          have g19 : (a'.eval (.tmp 19)) = .bool (rleM t l) := hG ⟨2, .data⟩ (by simp) rfl 19 rfl
          exact .inr ⟨rfl, .inl ⟨_, W, run_move rfl, Below.refl _ _, g19⟩⟩
        | 4, ho =>
          obtain rfl : _ = o := Option.some.inj ho
          obtain rfl : 21 = d := Option.some.inj hd
          have gg : a'.eval (.tmp 20) = .bool (rleM t l) := hG ⟨3, .guard⟩ (by simp) rfl 20 rfl
          by_cases gc : (rleM t l) = true
          · obtain ⟨v, hr, hv⟩ := run_loadL (ev := a'.eval) (W := W) (hk 6 (by kernel_rfl)) (hcl.below hB)
            exact .inr ⟨want_yes (n := 31) (d := 20) rfl hs (by decide) rfl (gg.trans (by rw [gc])), .inl ⟨v, W, hr, Below.refl _ _, fun _ => hv⟩⟩
          · exact .inl ⟨want_no (n := 31) (d := 20) rfl hs (by decide) rfl gg gc, fun e => absurd e gc⟩
        | 5, ho =>
          obtain rfl : _ = o := Option.some.inj ho
          obtain rfl : 22 = d := Option.some.inj hd
          have gg : a'.eval (.tmp 20) = .bool (rleM t l) := hG ⟨3, .guard⟩ (by simp) rfl 20 rfl
          by_cases gc : (rleM t l) = true
          · obtain ⟨v, hr, hv⟩ := run_loadL (ev := a'.eval) (W := W) (hk 7 (by kernel_rfl)) (hcm.below hB)
            exact .inr ⟨want_yes (n := 31) (d := 20) rfl hs (by decide) rfl (gg.trans (by rw [gc])), .inl ⟨v, W, hr, Below.refl _ _, fun _ => hv⟩⟩
          · exact .inl ⟨want_no (n := 31) (d := 20) rfl hs (by decide) rfl gg gc, fun e => absurd e gc⟩
        | 6, ho =>
          obtain rfl : _ = o := Option.some.inj ho
          obtain rfl : 23 = d := Option.some.inj hd
          have gg : a'.eval (.tmp 20) = .bool (rleM t l) := hG ⟨3, .guard⟩ (by simp) rfl 20 rfl
          by_cases gc : (rleM t l) = true
          · have g21 : LV l (a'.eval (.tmp 21)) W := hG ⟨4, .data⟩ (by simp) rfl 21 rfl gc
            have g22 : LV m (a'.eval (.tmp 22)) W := hG ⟨5, .data⟩ (by simp) rfl 22 rfl gc
            exact .inr ⟨want_yes (n := 31) (d := 20) rfl hs (by decide) rfl (gg.trans (by rw [gc])), .inr ⟨_, _, run_call rfl map_2 ent_gatehouseref01_Leq, (rLeq_c g21 g22).mono (fun e W' ⟨v, he, hb, hv⟩ => ⟨v, he, hb, fun _ => hv⟩)⟩⟩
          · exact .inl ⟨want_no (n := 31) (d := 20) rfl hs (by decide) rfl gg gc, fun e => absurd e gc⟩
        | 7, ho =>
          obtain rfl : _ = o := Option.some.inj ho
          obtain rfl : 24 = d := Option.some.inj hd
          have g20 : (a'.eval (.tmp 20)) = .bool (rleM t l) := hG ⟨3, .data⟩ (by simp) rfl 20 rfl
          by_cases hq : (rleM t l) = true
          · exact .inr ⟨rfl, .inl ⟨_, W, run_pick_yes (g20.trans (by rw [hq])) (hG ⟨6, .data⟩ (by simp) rfl 23 rfl hq), Below.refl _ _, by rw [hq]; rfl⟩⟩
          · have hq' : (rleM t l) = false := by simpa using hq
            exact .inr ⟨rfl, .inl ⟨_, W, run_pick_no (g20.trans (by rw [hq'])) rfl, Below.refl _ _, by rw [hq']; rfl⟩⟩
        | 8, ho =>
          obtain rfl : _ = o := Option.some.inj ho
          obtain rfl : 25 = d := Option.some.inj hd
          have g24 : (a'.eval (.tmp 24)) = .bool ((rleM t l) && (rleM l m)) := hG ⟨7, .data⟩ (by simp) rfl 24 rfl
          exact .inr ⟨rfl, .inl ⟨_, W, run_move rfl, Below.refl _ _, g24⟩⟩
        | 9, ho =>
          obtain rfl : _ = o := Option.some.inj ho
          obtain rfl : 26 = d := Option.some.inj hd
          have gg : a'.eval (.tmp 25) = .bool ((rleM t l) && (rleM l m)) := hG ⟨8, .guard⟩ (by simp) rfl 25 rfl
          by_cases gc : ((rleM t l) && (rleM l m)) = true
          · obtain ⟨v, hr, hv⟩ := run_loadL (ev := a'.eval) (W := W) (hk 7 (by kernel_rfl)) (hcm.below hB)
            exact .inr ⟨want_yes (n := 31) (d := 25) rfl hs (by decide) rfl (gg.trans (by rw [gc])), .inl ⟨v, W, hr, Below.refl _ _, fun _ => hv⟩⟩
          · exact .inl ⟨want_no (n := 31) (d := 25) rfl hs (by decide) rfl gg gc, fun e => absurd e gc⟩
        | 10, ho =>
          obtain rfl : _ = o := Option.some.inj ho
          obtain rfl : 27 = d := Option.some.inj hd
          have gg : a'.eval (.tmp 25) = .bool ((rleM t l) && (rleM l m)) := hG ⟨8, .guard⟩ (by simp) rfl 25 rfl
          by_cases gc : ((rleM t l) && (rleM l m)) = true
          · obtain ⟨v, hr, hv⟩ := run_loadL (ev := a'.eval) (W := W) (hk 5 (by kernel_rfl)) (hcc.below hB)
            exact .inr ⟨want_yes (n := 31) (d := 25) rfl hs (by decide) rfl (gg.trans (by rw [gc])), .inl ⟨v, W, hr, Below.refl _ _, fun _ => hv⟩⟩
          · exact .inl ⟨want_no (n := 31) (d := 25) rfl hs (by decide) rfl gg gc, fun e => absurd e gc⟩
        | 11, ho =>
          obtain rfl : _ = o := Option.some.inj ho
          obtain rfl : 28 = d := Option.some.inj hd
          have gg : a'.eval (.tmp 25) = .bool ((rleM t l) && (rleM l m)) := hG ⟨8, .guard⟩ (by simp) rfl 25 rfl
          by_cases gc : ((rleM t l) && (rleM l m)) = true
          · have g26 : LV m (a'.eval (.tmp 26)) W := hG ⟨9, .data⟩ (by simp) rfl 26 rfl gc
            have g27 : LV c (a'.eval (.tmp 27)) W := hG ⟨10, .data⟩ (by simp) rfl 27 rfl gc
            exact .inr ⟨want_yes (n := 31) (d := 25) rfl hs (by decide) rfl (gg.trans (by rw [gc])), .inr ⟨_, _, run_call rfl map_2 ent_gatehouseref01_Leq, (rLeq_c g26 g27).mono (fun e W' ⟨v, he, hb, hv⟩ => ⟨v, he, hb, fun _ => hv⟩)⟩⟩
          · exact .inl ⟨want_no (n := 31) (d := 25) rfl hs (by decide) rfl gg gc, fun e => absurd e gc⟩
        | 12, ho =>
          obtain rfl : _ = o := Option.some.inj ho
          obtain rfl : 29 = d := Option.some.inj hd
          have g25 : (a'.eval (.tmp 25)) = .bool ((rleM t l) && (rleM l m)) := hG ⟨8, .data⟩ (by simp) rfl 25 rfl
          by_cases hq : ((rleM t l) && (rleM l m)) = true
          · exact .inr ⟨rfl, .inl ⟨_, W, run_pick_yes (g25.trans (by rw [hq])) (hG ⟨11, .data⟩ (by simp) rfl 28 rfl hq), Below.refl _ _, by rw [hq]; rfl⟩⟩
          · have hq' : ((rleM t l) && (rleM l m)) = false := by simpa using hq
            exact .inr ⟨rfl, .inl ⟨_, W, run_pick_no (g25.trans (by rw [hq'])) rfl, Below.refl _ _, by rw [hq']; rfl⟩⟩
        | 13, ho =>
          obtain rfl : _ = o := Option.some.inj ho
          obtain rfl : 30 = d := Option.some.inj hd
          have g29 : (a'.eval (.tmp 29)) = .bool (((rleM t l) && (rleM l m)) && (rleM m c)) := hG ⟨12, .data⟩ (by simp) rfl 29 rfl
          exact .inr ⟨rfl, .inr ⟨_, _, run_call rfl map_1 ent_gatehouseref07_say, say_c' g29⟩⟩
        | j + 14, ho => simp at ho
      · intro a' W hB hs hdf hk hG
        obtain ⟨tm, df⟩ := a'
        obtain rfl : df = [] := hdf
        have e0 : tm.getD 0 undef = .agg #[.int .i64 t.fst, .slice pt t.snd.length ct] := hk 0 (by kernel_rfl)
        have e1 : tm.getD 1 undef = .agg #[.int .i64 c.fst, .slice pc c.snd.length cc] := hk 1 (by kernel_rfl)
        have e2 : tm.getD 2 undef = .agg #[.int .i64 l.fst, .slice pl l.snd.length cl] := hk 2 (by kernel_rfl)
        have e3 : tm.getD 3 undef = .agg #[.int .i64 m.fst, .slice pm m.snd.length cm] := hk 3 (by kernel_rfl)
        have e4 : tm.getD 4 undef = .pointer (some ⟨w.heap.size, 0, none⟩) := hk 4 (by kernel_rfl)
        have e5 : tm.getD 5 undef = .pointer (some ⟨w.heap.size + 1, 0, none⟩) := hk 5 (by kernel_rfl)
        have e6 : tm.getD 6 undef = .pointer (some ⟨w.heap.size + 1 + 1, 0, none⟩) := hk 6 (by kernel_rfl)
        have e7 : tm.getD 7 undef = .pointer (some ⟨w.heap.size + 1 + 1 + 1, 0, none⟩) := hk 7 (by kernel_rfl)
        have e8 : tm.getD 8 undef = .int .i64 0 := hk 8 (by kernel_rfl)
        have e9 : tm.getD 9 undef = .agg #[.int .i64 l.fst, .slice pl l.snd.length cl] := hk 9 (by kernel_rfl)
        have e10 : tm.getD 10 undef = .bool true := hk 10 (by kernel_rfl)
        have e11 : tm.getD 11 undef = .bool false := hk 11 (by kernel_rfl)
        have e12 : tm.getD 12 undef = .bool false := hk 12 (by kernel_rfl)
        have e13 : tm.getD 13 undef = .agg #[.int .i64 m.fst, .slice pm m.snd.length cm] := hk 13 (by kernel_rfl)
        have e14 : tm.getD 14 undef = .bool true := hk 14 (by kernel_rfl)
        have e15 : tm.getD 15 undef = .bool false := hk 15 (by kernel_rfl)
        have e16 : tm.getD 16 undef = .bool false := hk 16 (by kernel_rfl)
        have g17 : LV t (tm.getD 17 undef) W := hG 0 17 (by decide) rfl
        have g18 : LV l (tm.getD 18 undef) W := hG 1 18 (by decide) rfl
        have g19 : (tm.getD 19 undef) = .bool (rleM t l) := hG 2 19 (by decide) rfl
        have g20 : (tm.getD 20 undef) = .bool (rleM t l) := hG 3 20 (by decide) rfl
        have g21 : (rleM t l) = true → LV l (tm.getD 21 undef) W := hG 4 21 (by decide) rfl
        have g22 : (rleM t l) = true → LV m (tm.getD 22 undef) W := hG 5 22 (by decide) rfl
        have g23 : (rleM t l) = true → (tm.getD 23 undef) = .bool (rleM l m) := hG 6 23 (by decide) rfl
        have g24 : (tm.getD 24 undef) = .bool ((rleM t l) && (rleM l m)) := hG 7 24 (by decide) rfl
        have g25 : (tm.getD 25 undef) = .bool ((rleM t l) && (rleM l m)) := hG 8 25 (by decide) rfl
        have g26 : ((rleM t l) && (rleM l m)) = true → LV m (tm.getD 26 undef) W := hG 9 26 (by decide) rfl
        have g27 : ((rleM t l) && (rleM l m)) = true → LV c (tm.getD 27 undef) W := hG 10 27 (by decide) rfl
        have g28 : ((rleM t l) && (rleM l m)) = true → (tm.getD 28 undef) = .bool (rleM m c) := hG 11 28 (by decide) rfl
        have g29 : (tm.getD 29 undef) = .bool (((rleM t l) && (rleM l m)) && (rleM m c)) := hG 12 29 (by decide) rfl
        have g30 : (tm.getD 30 undef) = .int .i64 (sayI (((rleM t l) && (rleM l m)) && (rleM m c))) := hG 13 30 (by decide) rfl
        have htm := arr_of tm [.agg #[.int .i64 t.fst, .slice pt t.snd.length ct], .agg #[.int .i64 c.fst, .slice pc c.snd.length cc], .agg #[.int .i64 l.fst, .slice pl l.snd.length cl], .agg #[.int .i64 m.fst, .slice pm m.snd.length cm], .pointer (some ⟨w.heap.size, 0, none⟩), .pointer (some ⟨w.heap.size + 1, 0, none⟩), .pointer (some ⟨w.heap.size + 1 + 1, 0, none⟩), .pointer (some ⟨w.heap.size + 1 + 1 + 1, 0, none⟩), .int .i64 0, .agg #[.int .i64 l.fst, .slice pl l.snd.length cl], .bool true, .bool false, .bool false, .agg #[.int .i64 m.fst, .slice pm m.snd.length cm], .bool true, .bool false, .bool false, tm.getD 17 undef, tm.getD 18 undef, tm.getD 19 undef, tm.getD 20 undef, tm.getD 21 undef, tm.getD 22 undef, tm.getD 23 undef, tm.getD 24 undef, tm.getD 25 undef, tm.getD 26 undef, tm.getD 27 undef, tm.getD 28 undef, tm.getD 29 undef, tm.getD 30 undef] hs (by show [tm.getD 0 undef, tm.getD 1 undef, tm.getD 2 undef, tm.getD 3 undef, tm.getD 4 undef, tm.getD 5 undef, tm.getD 6 undef, tm.getD 7 undef, tm.getD 8 undef, tm.getD 9 undef, tm.getD 10 undef, tm.getD 11 undef, tm.getD 12 undef, tm.getD 13 undef, tm.getD 14 undef, tm.getD 15 undef, tm.getD 16 undef, tm.getD 17 undef, tm.getD 18 undef, tm.getD 19 undef, tm.getD 20 undef, tm.getD 21 undef, tm.getD 22 undef, tm.getD 23 undef, tm.getD 24 undef, tm.getD 25 undef, tm.getD 26 undef, tm.getD 27 undef, tm.getD 28 undef, tm.getD 29 undef, tm.getD 30 undef] = _; rw [e0, e1, e2, e3, e4, e5, e6, e7, e8, e9, e10, e11, e12, e13, e14, e15, e16])
        clear hs hk hG e0 e1 e2 e3 e4 e5 e6 e7 e8 e9 e10 e11 e12 e13 e14 e15 e16
        generalize tm.getD 17 undef = t17 at htm g17
        generalize tm.getD 18 undef = t18 at htm g18
        generalize tm.getD 19 undef = t19 at htm g19
        generalize tm.getD 20 undef = t20 at htm g20
        generalize tm.getD 21 undef = t21 at htm g21
        generalize tm.getD 22 undef = t22 at htm g22
        generalize tm.getD 23 undef = t23 at htm g23
        generalize tm.getD 24 undef = t24 at htm g24
        generalize tm.getD 25 undef = t25 at htm g25
        generalize tm.getD 26 undef = t26 at htm g26
        generalize tm.getD 27 undef = t27 at htm g27
        generalize tm.getD 28 undef = t28 at htm g28
        generalize tm.getD 29 undef = t29 at htm g29
        generalize tm.getD 30 undef = t30 at htm g30
        subst htm
        subst g19
        subst g20
        subst g24
        subst g25
        subst g29
        subst g30
        simp only [List.drop_succ_cons, List.drop_zero]
        go_wp2
        go_ret
        first | exact ⟨_, rfl, hAC.trans (hB.mono hAC.size), by unfold rlendI; rw [HX.out, HY.out]; rfl⟩ | exact ⟨by unfold rlendI; rw [HX.out, HY.out]; rfl, hAC.trans (hB.mono hAC.size)⟩
    | false =>
      go_enter Try.func14, Try.ntmps14
      go_wp2_with (first | (go_at_call 24; refine HP.out.mono ?_; rintro e w1 ⟨_, rfl, hb1, rfl⟩; have hAB : Below w.heap.size w w1 := hA.trans (hb1.mono hA.size); have bm0 : w1.cell? ⟨w.heap.size + 1 + 1 + 1, 0, none⟩ = some (.int .i64 m.1) := (hb1.cell (p := ⟨w.heap.size + 1 + 1 + 1, 0, none⟩) (by simp <;> omega)).trans (by simp [go_sem]); have bm1 : w1.cell? ⟨w.heap.size + 1 + 1 + 1, 1, none⟩ = some (.slice pm m.2.length cm) := (hb1.cell (p := ⟨w.heap.size + 1 + 1 + 1, 1, none⟩) (by simp <;> omega)).trans (by simp [go_sem])) | (go_at_call 29; refine (HF.out w1 hAB).mono ?_; rintro e w2 ⟨_, rfl, hb2, rfl⟩))
      go_ret
      exact ⟨_, rfl, hAB.trans (hb2.mono hAB.size), by unfold rlendI; rw [HX.out, HY.out]; rfl⟩
  | false =>
    go_enter Try.func14, Try.ntmps14
    go_wp2_with (go_at_call 24; refine HP.out.mono ?_; rintro e w1 ⟨_, rfl, hb1, rfl⟩)
    go_ret
    exact ⟨_, rfl, hA.trans (hb1.mono hA.size), by unfold rlendI; rw [HX.out]; rfl⟩
end Go.Proofs.Ytnjmgholoigpkaa
