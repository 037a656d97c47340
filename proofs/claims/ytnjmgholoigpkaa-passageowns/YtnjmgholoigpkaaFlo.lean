/- floor, and the closure that it answers. -/
import Derived.Test.YtnjmgholoigpkaaUnd2
namespace Go.Proofs.Ytnjmgholoigpkaa
open Go.RowKit Go.Sort
theorem ent_label_Up : Enters 34 := fun args W => by go_simp
theorem ent_passage_greatest : Enters 54 := fun args W => by go_simp
/-- greatest's closure, and what it holds. -/
def FV (ls : List ML) (v : Value) (W : World) : Prop := ls.length ≤ 16 ∧ ∃ B u, v = .func (.func 81) #[] #[.pointer (some ⟨B, 0, none⟩)] ∧ W.cell? ⟨B, 0, none⟩ = some u ∧ LsV ls u W
theorem FV.below {ls : List ML} {v : Value} {W W' : World} (h : FV ls v W) (hb : Below W.heap.size W W') : FV ls v W' := by
  obtain ⟨h0, B, u, h1, h2, h3⟩ := h
  exact ⟨h0, B, u, h1, (hb.cell (p := ⟨B, 0, none⟩) (World.block_lt_of_cell? W _ h2)).trans h2, h3.below hb⟩
theorem FV.lev {ls : List ML} {v : Value} {W : World} (h : FV ls v W) : Lev (gr ls) v W := by
  obtain ⟨h0, B, u, rfl, h2, h3⟩ := h
  exact ⟨_, _, rfl, ent_greatest1, fun W' hb' c => greatest1_any ls c B u W' ((hb'.cell (p := ⟨B, 0, none⟩) (World.block_lt_of_cell? W _ h2)).trans h2) (h3.below hb') h0⟩
theorem greatest_f {ls : List ML} {v : Value} {W : World} (h : LsV ls v W) (hn : ls.length ≤ 16) : Calls Try.prog 54 #[v] W fun e W' => ∃ v', e = .returned v' ∧ Below W.heap.size W W' ∧ FV ls v' W' := by
  have h' := h
  obtain ⟨b, rfl, hb, hL⟩ := h'
  have hA : Below W.heap.size W (W.alloc (.cells #[.slice (some ⟨b, 0, none⟩) ls.length ls.length] 45)) := by go_grown
  have HV : Hid (FV ls (.func (.func 81) #[] #[.pointer (some ⟨W.heap.size, 0, none⟩)]) (W.alloc (.cells #[.slice (some ⟨b, 0, none⟩) ls.length ls.length] 45))) :=
    ⟨hn, W.heap.size, _, rfl, by simp [go_sem], h.below hA⟩
  clear h hL
  go_enter Try.func54, Try.ntmps54
  go_wp2_with fail
  go_ret
  exact ⟨_, rfl, hA, HV.out⟩
/-- A new box for a function, behind w. -/
def FBox (w : World) (v : Value) (W : World) : Prop := ∃ g, v = .pointer (some ⟨g, 0, none⟩) ∧ w.heap.size ≤ g ∧ W.heap[g]? = some (.cells #[.nilFunc] 60)
theorem FBox.below {w : World} {v : Value} {W W' : World} (h : FBox w v W) (hb : Below W.heap.size W W') : FBox w v W' := by
  obtain ⟨g, h1, h2, h3⟩ := h
  exact ⟨g, h1, h2, (hb.block g (Array.getElem?_eq_some_iff.1 h3).1).trans h3⟩
theorem store_other {W : World} {g : Nat} {y x : Value} {a : Addr} (hg : W.heap[g]? = some (.cells #[.nilFunc] 60)) (hc : W.cell? a = some x) (hx : x ≠ .nilFunc) : (W.setCell ⟨g, 0, none⟩ y).cell? a = some x := by
  rw [World.cell?_setCell_other _ _ _ _ (fun e => ?_)]
  · exact hc
  · rw [← e] at hc
    simp [World.cell?, hg] at hc
    exact hx hc.symm
theorem CatsAt.store {W : World} {g : Nat} {y : Value} {p : Option Addr} {xs : List (Int × Int)} (h : CatsAt W p xs) (hg : W.heap[g]? = some (.cells #[.nilFunc] 60)) : CatsAt (W.setCell ⟨g, 0, none⟩ y) p xs := fun j hj => by
  obtain ⟨b, off, hp, hbl, c0, c1⟩ := h j hj
  exact ⟨b, off, hp, by simpa [World.setCell] using hbl, store_other hg c0 (by simp), store_other hg c1 (by simp)⟩
theorem LBox.store {l : ML} {W : World} {b o g : Nat} {y : Value} (h : LBox l W b o) (hg : W.heap[g]? = some (.cells #[.nilFunc] 60)) : LBox l (W.setCell ⟨g, 0, none⟩ y) b o := by
  obtain ⟨p, cap, h1, h2, h3, h4, h5⟩ := h
  exact ⟨p, cap, by simpa [World.setCell] using h1, store_other hg h2 (by simp), store_other hg h3 (by simp), h4.store hg, h5⟩
theorem FV.store {ls : List ML} {v : Value} {W : World} {g : Nat} {y : Value} (h : FV ls v W) (hg : W.heap[g]? = some (.cells #[.nilFunc] 60)) : FV ls v (W.setCell ⟨g, 0, none⟩ y) := by
  obtain ⟨h0, B, u, h1, h2, b, h3, h4, h5⟩ := h
  exact ⟨h0, B, u, h1, store_other hg h2 (by rw [h3]; simp), b, h3, by simpa [World.setCell] using h4, fun j hj => (h5 j hj).store hg⟩
set_option maxRecDepth 100000 in
set_option maxHeartbeats 1000000 in
theorem floor_c {t g : ML} {v u : Value} {w : World} (ht : LV t v w) (hg : LV g u w) :
    Calls Try.prog 46 #[v, u] w fun e w' => ∃ v', e = .returned v' ∧ Below w.heap.size w w' ∧ Lev (fl t g) v' w' := by
  obtain ⟨pt, ct, rfl, ht1, ht2, ht3⟩ := id ht
  obtain ⟨pg, cg, rfl, hg1, hg2, hg3⟩ := id hg
  have hA : Below w.heap.size w ((w.alloc (.cells #[.int .i64 t.1, .slice pt t.2.length ct] 24)).alloc (.cells #[.int .i64 g.1, .slice pg g.2.length cg] 24)) := by go_grown
  have hbt : LBox t ((w.alloc (.cells #[.int .i64 t.1, .slice pt t.2.length ct] 24)).alloc (.cells #[.int .i64 g.1, .slice pg g.2.length cg] 24)) w.heap.size 0 := ⟨pt, ct, by simp; omega, by simp [go_sem], by simp [go_sem], ht1.below hA, ht2, ht3⟩
  have hbg : LBox g ((w.alloc (.cells #[.int .i64 t.1, .slice pt t.2.length ct] 24)).alloc (.cells #[.int .i64 g.1, .slice pg g.2.length cg] 24)) (w.heap.size + 1) 0 := ⟨pg, cg, by simp, by simp [go_sem], by simp [go_sem], hg1.below hA, hg2, hg3⟩
  go_enter Try.func46, Try.ntmps46
  go_wp2_with fail
  refine wp_region_mono 7 (fun k v W => match k with | 6 => LV t v W | 7 => LV (upM t) v W | 8 => LV g v W | 9 => LV (upM g) v W | 10 => LsV [(upM t), (upM g)] v W | 11 => FV [(upM t), (upM g)] v W | 5 => (FBox w) v W | _ => True) (by kernel_rfl) (by kernel_rfl) (by kernel_rfl) (by kernel_rfl) (by simp) (by kernel_rfl) ?_ ?_ ?_
  · intro k v W W' h hb
    revert h
    try dsimp only
    split
    · intro h; exact LV.below h hb
    · intro h; exact LV.below h hb
    · intro h; exact LV.below h hb
    · intro h; exact LV.below h hb
    · intro h; exact LsV.below h hb
    · intro h; exact FV.below h hb
    · intro h; exact FBox.below h hb
    · intro h; trivial
  · intro a' W hB hs hk i o d ho hd hG
    match i, ho with
    | 0, ho =>
      obtain rfl : _ = o := Option.some.inj ho
      obtain rfl : 6 = d := Option.some.inj hd
      obtain ⟨v, hr, hv⟩ := run_loadL (ev := a'.eval) (W := W) (hk 2 (by kernel_rfl)) (hbt.below hB)
      exact .inr ⟨rfl, .inl ⟨v, W, hr, Below.refl _ _, hv⟩⟩
    | 1, ho =>
      obtain rfl : _ = o := Option.some.inj ho
      obtain rfl : 7 = d := Option.some.inj hd
      have g6 : LV t (a'.eval (.tmp 6)) W := hG ⟨0, .data⟩ (by simp) rfl 6 rfl
      exact .inr ⟨rfl, .inr ⟨_, _, run_call rfl map_1 ent_label_Up, Up_c g6⟩⟩
    | 2, ho =>
      obtain rfl : _ = o := Option.some.inj ho
      obtain rfl : 8 = d := Option.some.inj hd
      obtain ⟨v, hr, hv⟩ := run_loadL (ev := a'.eval) (W := W) (hk 3 (by kernel_rfl)) (hbg.below hB)
      exact .inr ⟨rfl, .inl ⟨v, W, hr, Below.refl _ _, hv⟩⟩
    | 3, ho =>
      obtain rfl : _ = o := Option.some.inj ho
      obtain rfl : 9 = d := Option.some.inj hd
      have g8 : LV g (a'.eval (.tmp 8)) W := hG ⟨2, .data⟩ (by simp) rfl 8 rfl
      exact .inr ⟨rfl, .inr ⟨_, _, run_call rfl map_1 ent_label_Up, Up_c g8⟩⟩
    | 4, ho =>
      obtain rfl : _ = o := Option.some.inj ho
      obtain rfl : 10 = d := Option.some.inj hd
      have g7 : LV (upM t) (a'.eval (.tmp 7)) W := hG ⟨1, .data⟩ (by simp) rfl 7 rfl
      have g9 : LV (upM g) (a'.eval (.tmp 9)) W := hG ⟨3, .data⟩ (by simp) rfl 9 rfl
      obtain ⟨v, W', hr, hb, hv⟩ := run_slice2 (ev := a'.eval) (W := W) rfl rfl g7 g9
      exact .inr ⟨rfl, .inl ⟨v, W', hr, hb, hv⟩⟩
    | 5, ho =>
      obtain rfl : _ = o := Option.some.inj ho
      obtain rfl : 11 = d := Option.some.inj hd
      have g10 : LsV [(upM t), (upM g)] (a'.eval (.tmp 10)) W := hG ⟨4, .data⟩ (by simp) rfl 10 rfl
      exact .inr ⟨rfl, .inr ⟨_, _, run_call rfl map_1 ent_passage_greatest, greatest_f g10 (by simp)⟩⟩
    | 6, ho =>
      obtain rfl : _ = o := Option.some.inj ho
      obtain rfl : 5 = d := Option.some.inj hd
      exact .inr ⟨rfl, .inl ⟨.pointer (some ⟨W.heap.size, 0, none⟩), W.alloc (.cells #[.nilFunc] 60), by go_simp, by go_grown, W.heap.size, rfl, by have := hB.size; simp at this; omega, World.alloc_heap_new W _⟩⟩
    | j + 7, ho => simp at ho
  · intro a' W hB hs hdf hk hG
    obtain ⟨tm, df⟩ := a'
    obtain rfl : df = [] := hdf
    have e0 : tm.getD 0 undef = .agg #[.int .i64 t.fst, .slice pt t.snd.length ct] := hk 0 (by kernel_rfl)
    have e1 : tm.getD 1 undef = .agg #[.int .i64 g.fst, .slice pg g.snd.length cg] := hk 1 (by kernel_rfl)
    have e2 : tm.getD 2 undef = .pointer (some ⟨w.heap.size, 0, none⟩) := hk 2 (by kernel_rfl)
    have e3 : tm.getD 3 undef = .pointer (some ⟨w.heap.size + 1, 0, none⟩) := hk 3 (by kernel_rfl)
    have e4 : tm.getD 4 undef = .nilFunc := hk 4 (by kernel_rfl)
    have e12 : tm.getD 12 undef = undef := hk 12 (by kernel_rfl)
    have g6 : LV t (tm.getD 6 undef) W := hG 0 6 (by decide) rfl
    have g7 : LV (upM t) (tm.getD 7 undef) W := hG 1 7 (by decide) rfl
    have g8 : LV g (tm.getD 8 undef) W := hG 2 8 (by decide) rfl
    have g9 : LV (upM g) (tm.getD 9 undef) W := hG 3 9 (by decide) rfl
    have g10 : LsV [(upM t), (upM g)] (tm.getD 10 undef) W := hG 4 10 (by decide) rfl
    have g11 : FV [(upM t), (upM g)] (tm.getD 11 undef) W := hG 5 11 (by decide) rfl
    have g5 : (FBox w) (tm.getD 5 undef) W := hG 6 5 (by decide) rfl
    have htm := arr_of tm [.agg #[.int .i64 t.fst, .slice pt t.snd.length ct], .agg #[.int .i64 g.fst, .slice pg g.snd.length cg], .pointer (some ⟨w.heap.size, 0, none⟩), .pointer (some ⟨w.heap.size + 1, 0, none⟩), .nilFunc, tm.getD 5 undef, tm.getD 6 undef, tm.getD 7 undef, tm.getD 8 undef, tm.getD 9 undef, tm.getD 10 undef, tm.getD 11 undef, undef] hs (by show [tm.getD 0 undef, tm.getD 1 undef, tm.getD 2 undef, tm.getD 3 undef, tm.getD 4 undef, tm.getD 5 undef, tm.getD 6 undef, tm.getD 7 undef, tm.getD 8 undef, tm.getD 9 undef, tm.getD 10 undef, tm.getD 11 undef, tm.getD 12 undef] = _; rw [e0, e1, e2, e3, e4, e12])
    clear hs hk hG e0 e1 e2 e3 e4 e12
    generalize tm.getD 6 undef = t6 at htm g6
    generalize tm.getD 7 undef = t7 at htm g7
    generalize tm.getD 8 undef = t8 at htm g8
    generalize tm.getD 9 undef = t9 at htm g9
    generalize tm.getD 10 undef = t10 at htm g10
    generalize tm.getD 11 undef = t11 at htm g11
    generalize tm.getD 5 undef = t5 at htm g5
    subst htm
    simp only [List.drop_succ_cons, List.drop_zero]
    obtain ⟨gb, rfl, hgb, hgc⟩ := g5
    have hgl : gb < W.heap.size := (Array.getElem?_eq_some_iff.1 hgc).1
    have hgn : W.cell? ⟨gb, 0, none⟩ = some .nilFunc := by simp [World.cell?, hgc]
    have hgf : ∀ o, W.frozen? ⟨gb, o, none⟩ = false := fun o => by simp [World.frozen?, hgc]
    obtain ⟨h0, B, u, rfl, h2, h3⟩ := id g11
    have HS : Hid (∀ y, FV [upM t, upM g] (.func (.func 81) #[] #[.pointer (some ⟨B, 0, none⟩)]) (W.setCell ⟨gb, 0, none⟩ y)) := fun y => g11.store hgc
    have HC : Hid (∀ y, (W.setCell ⟨gb, 0, none⟩ y).cell? ⟨gb, 0, none⟩ = some y) := fun y => by simp [World.cell?, one_setCell hgc]
    have HB : Hid (Below w.heap.size w W) := hA.trans (hB.mono hA.size)
    have hst : (store ⟨gb, 0, none⟩ (.func (.func 81) #[] #[.pointer (some ⟨B, 0, none⟩)])).run Try.prog W = .ok () (W.setCell ⟨gb, 0, none⟩ (.func (.func 81) #[] #[.pointer (some ⟨B, 0, none⟩)])) := by
      rw [run_store _ _ _ _ _ rfl]
      simp [hgf, hgn]
    clear g6 g7 g8 g9 g10 g11 h2 h3 hbt hbg hB hA hgc
    go_wp2
    go_ret
    refine ⟨_, rfl, HB.out.setCell (p := ⟨gb, 0, none⟩) hgb _, _, _, rfl, ent_floor1, fun W' hb' c => ?_⟩
    exact floor1_any (gr [upM t, upM g]) c gb _ W' ((hb'.cell (p := ⟨gb, 0, none⟩) (by simpa [World.setCell] using hgl)).trans (HC.out _)) ((HS.out _).lev.below hb')
end Go.Proofs.Ytnjmgholoigpkaa
