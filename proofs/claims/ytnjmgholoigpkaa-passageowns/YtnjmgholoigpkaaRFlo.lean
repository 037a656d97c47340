/- floor and Below of the reference. -/
import Derived.Test.YtnjmgholoigpkaaRef7
namespace Go.Proofs.Ytnjmgholoigpkaa
open Go.RowKit Go.Sort
theorem ent_gatehouseref07_at : Enters 51 := fun args W => by go_simp
theorem run_max {ev : Operand → Value} {W : World} {dst : Option Nat} {ty : TypeId} {pos : String} {af : Array Edge} {gd : Option (Nat × Bool)} {a b : Int} {x y : Operand} (hx : ev x = .int .i64 a) (hy : ev y = .int .i64 b) :
    (execOp ev { dst := dst, op := .call { callee := .builtin .max, args := #[x, y], argTypes := #[3, 3] }, type := ty, pos := pos, after := af, guard := gd }).run Try.prog W = .ok (.value (.int .i64 (max a b))) W := by
  rw [← max_if]
  go_simp
def flZ (t g : ML) (c : Int) : Int := if aZ t c = 0 then 0 else if aZ g c = 0 then 0 else if aZ t c = 5 then 0 else if aZ g c = 5 then 0 else max (aZ t c) (aZ g c)
theorem at_c' {l : ML} {v u : Value} {w : World} {c : Int} (h : LV l v w) (hu : u = .int .i64 c) : Calls Try.prog 51 #[v, u] w fun e w' => ∃ v', e = .returned v' ∧ Below w.heap.size w w' ∧ v' = .int .i64 (aZ l c) := by
  subst hu; exact at_c h c
set_option maxRecDepth 100000 in
set_option maxHeartbeats 1000000 in
theorem rfloor_c {t g : ML} {vt vg : Value} {w : World} (ht : LV t vt w) (hg : LV g vg w) (c : Int) :
    Calls Try.prog 49 #[vt, vg, .int .i64 c] w fun e w' => ∃ v', e = .returned v' ∧ Below w.heap.size w w' ∧ v' = .int .i64 (flZ t g c) := by
  obtain ⟨pt, ct, rfl, ht1, ht2, ht3⟩ := id ht
  obtain ⟨pg, cg, rfl, hg1, hg2, hg3⟩ := id hg
  have hA : Below w.heap.size w ((w.alloc (.cells #[.int .i64 t.1, .slice pt t.2.length ct] 24)).alloc (.cells #[.int .i64 g.1, .slice pg g.2.length cg] 24)) := by go_grown
  have hbt : LBox t ((w.alloc (.cells #[.int .i64 t.1, .slice pt t.2.length ct] 24)).alloc (.cells #[.int .i64 g.1, .slice pg g.2.length cg] 24)) w.heap.size 0 := ⟨pt, ct, by simp <;> omega, by simp [go_sem], by simp [go_sem], ht1.below hA, ht2, ht3⟩
  have hbg : LBox g ((w.alloc (.cells #[.int .i64 t.1, .slice pt t.2.length ct] 24)).alloc (.cells #[.int .i64 g.1, .slice pg g.2.length cg] 24)) (w.heap.size + 1) 0 := ⟨pg, cg, by simp <;> omega, by simp [go_sem], by simp [go_sem], hg1.below hA, hg2, hg3⟩
  have HF : Hid (flZ t g c = if aZ t c = 0 then 0 else if aZ g c = 0 then 0 else if aZ t c = 5 then 0 else if aZ g c = 5 then 0 else max (aZ t c) (aZ g c)) := rfl
  go_enter Try.func49, Try.ntmps49
  go_wp2_with fail
  refine wp_region_mono 8 (fun k v W => match k with | 9 => LV t v W | 10 => v = .int .i64 c | 11 => v = .int .i64 (aZ t c) | 12 => LV g v W | 13 => v = .int .i64 c | 14 => v = .int .i64 (aZ g c) | 7 => v = .int .i64 (aZ t c) | 8 => v = .int .i64 (aZ g c) | _ => True) (by kernel_rfl) (by kernel_rfl) (by kernel_rfl) (by kernel_rfl) (by simp) (by kernel_rfl) ?_ ?_ ?_
  · intro k v W W' h hb
    revert h
    try dsimp only
    split
    · intro h; exact LV.below h hb
    · intro h; exact h
    · intro h; exact h
    · intro h; exact LV.below h hb
    · intro h; exact h
    · intro h; exact h
    · intro h; exact h
    · intro h; exact h
    · intro h; trivial
  · intro a' W hB hs hk i o d ho hd hG
    match i, ho with
    | 0, ho =>
      obtain rfl : _ = o := Option.some.inj ho
      obtain rfl : 9 = d := Option.some.inj hd
      obtain ⟨v, hr, hv⟩ := run_loadL (ev := a'.eval) (W := W) (hk 3 (by kernel_rfl)) (hbt.below hB)
      exact .inr ⟨rfl, .inl ⟨v, W, hr, Below.refl _ _, hv⟩⟩
    | 1, ho =>
      obtain rfl : _ = o := Option.some.inj ho
      obtain rfl : 10 = d := Option.some.inj hd
      exact .inr ⟨rfl, .inl ⟨_, W, run_move (hk 2 (by kernel_rfl)), Below.refl _ _, rfl⟩⟩
    | 2, ho =>
      obtain rfl : _ = o := Option.some.inj ho
      obtain rfl : 11 = d := Option.some.inj hd
      have g9 : LV t (a'.eval (.tmp 9)) W := hG ⟨0, .data⟩ (by simp) rfl 9 rfl
      have g10 : (a'.eval (.tmp 10)) = .int .i64 c := hG ⟨1, .data⟩ (by simp) rfl 10 rfl
      exact .inr ⟨rfl, .inr ⟨_, _, run_call rfl map_2 ent_gatehouseref07_at, at_c' g9 g10⟩⟩
    | 3, ho =>
      obtain rfl : _ = o := Option.some.inj ho
      obtain rfl : 12 = d := Option.some.inj hd
      obtain ⟨v, hr, hv⟩ := run_loadL (ev := a'.eval) (W := W) (hk 4 (by kernel_rfl)) (hbg.below hB)
      exact .inr ⟨rfl, .inl ⟨v, W, hr, Below.refl _ _, hv⟩⟩
    | 4, ho =>
      obtain rfl : _ = o := Option.some.inj ho
      obtain rfl : 13 = d := Option.some.inj hd
      exact .inr ⟨rfl, .inl ⟨_, W, run_move (hk 2 (by kernel_rfl)), Below.refl _ _, rfl⟩⟩
    | 5, ho =>
      obtain rfl : _ = o := Option.some.inj ho
      obtain rfl : 14 = d := Option.some.inj hd
      have g12 : LV g (a'.eval (.tmp 12)) W := hG ⟨3, .data⟩ (by simp) rfl 12 rfl
      have g13 : (a'.eval (.tmp 13)) = .int .i64 c := hG ⟨4, .data⟩ (by simp) rfl 13 rfl
      exact .inr ⟨rfl, .inr ⟨_, _, run_call rfl map_2 ent_gatehouseref07_at, at_c' g12 g13⟩⟩
    | 6, ho =>
      obtain rfl : _ = o := Option.some.inj ho
      obtain rfl : 7 = d := Option.some.inj hd
      have g11 : (a'.eval (.tmp 11)) = .int .i64 (aZ t c) := hG ⟨2, .data⟩ (by simp) rfl 11 rfl
      exact .inr ⟨rfl, .inl ⟨_, W, run_assign rfl, Below.refl _ _, g11⟩⟩
    | 7, ho =>
      obtain rfl : _ = o := Option.some.inj ho
      obtain rfl : 8 = d := Option.some.inj hd
      have g14 : (a'.eval (.tmp 14)) = .int .i64 (aZ g c) := hG ⟨5, .data⟩ (by simp) rfl 14 rfl
      exact .inr ⟨rfl, .inl ⟨_, W, run_assign rfl, Below.refl _ _, g14⟩⟩
    | j + 8, ho => simp at ho
  · intro a' W hB hs hdf hk hG
    obtain ⟨tm, df⟩ := a'
    obtain rfl : df = [] := hdf
    have e0 : tm.getD 0 undef = .agg #[.int .i64 t.fst, .slice pt t.snd.length ct] := hk 0 (by kernel_rfl)
    have e1 : tm.getD 1 undef = .agg #[.int .i64 g.fst, .slice pg g.snd.length cg] := hk 1 (by kernel_rfl)
    have e2 : tm.getD 2 undef = .int .i64 c := hk 2 (by kernel_rfl)
    have e3 : tm.getD 3 undef = .pointer (some ⟨w.heap.size, 0, none⟩) := hk 3 (by kernel_rfl)
    have e4 : tm.getD 4 undef = .pointer (some ⟨w.heap.size + 1, 0, none⟩) := hk 4 (by kernel_rfl)
    have e5 : tm.getD 5 undef = undef := hk 5 (by kernel_rfl)
    have e6 : tm.getD 6 undef = .int .i64 0 := hk 6 (by kernel_rfl)
    have e15 : tm.getD 15 undef = undef := hk 15 (by kernel_rfl)
    have e16 : tm.getD 16 undef = undef := hk 16 (by kernel_rfl)
    have e17 : tm.getD 17 undef = undef := hk 17 (by kernel_rfl)
    have e18 : tm.getD 18 undef = undef := hk 18 (by kernel_rfl)
    have e19 : tm.getD 19 undef = undef := hk 19 (by kernel_rfl)
    have e20 : tm.getD 20 undef = undef := hk 20 (by kernel_rfl)
    have e21 : tm.getD 21 undef = undef := hk 21 (by kernel_rfl)
    have e22 : tm.getD 22 undef = undef := hk 22 (by kernel_rfl)
    have e23 : tm.getD 23 undef = undef := hk 23 (by kernel_rfl)
    have e24 : tm.getD 24 undef = undef := hk 24 (by kernel_rfl)
    have e25 : tm.getD 25 undef = undef := hk 25 (by kernel_rfl)
    have e26 : tm.getD 26 undef = undef := hk 26 (by kernel_rfl)
    have e27 : tm.getD 27 undef = undef := hk 27 (by kernel_rfl)
    have e28 : tm.getD 28 undef = undef := hk 28 (by kernel_rfl)
    have e29 : tm.getD 29 undef = undef := hk 29 (by kernel_rfl)
    have e30 : tm.getD 30 undef = undef := hk 30 (by kernel_rfl)
    have e31 : tm.getD 31 undef = undef := hk 31 (by kernel_rfl)
    have g9 : LV t (tm.getD 9 undef) W := hG 0 9 (by decide) rfl
    have g10 : (tm.getD 10 undef) = .int .i64 c := hG 1 10 (by decide) rfl
    have g11 : (tm.getD 11 undef) = .int .i64 (aZ t c) := hG 2 11 (by decide) rfl
    have g12 : LV g (tm.getD 12 undef) W := hG 3 12 (by decide) rfl
    have g13 : (tm.getD 13 undef) = .int .i64 c := hG 4 13 (by decide) rfl
    have g14 : (tm.getD 14 undef) = .int .i64 (aZ g c) := hG 5 14 (by decide) rfl
    have g7 : (tm.getD 7 undef) = .int .i64 (aZ t c) := hG 6 7 (by decide) rfl
    have g8 : (tm.getD 8 undef) = .int .i64 (aZ g c) := hG 7 8 (by decide) rfl
    have htm := arr_of tm [.agg #[.int .i64 t.fst, .slice pt t.snd.length ct], .agg #[.int .i64 g.fst, .slice pg g.snd.length cg], .int .i64 c, .pointer (some ⟨w.heap.size, 0, none⟩), .pointer (some ⟨w.heap.size + 1, 0, none⟩), undef, .int .i64 0, tm.getD 7 undef, tm.getD 8 undef, tm.getD 9 undef, tm.getD 10 undef, tm.getD 11 undef, tm.getD 12 undef, tm.getD 13 undef, tm.getD 14 undef, undef, undef, undef, undef, undef, undef, undef, undef, undef, undef, undef, undef, undef, undef, undef, undef, undef] hs (by show [tm.getD 0 undef, tm.getD 1 undef, tm.getD 2 undef, tm.getD 3 undef, tm.getD 4 undef, tm.getD 5 undef, tm.getD 6 undef, tm.getD 7 undef, tm.getD 8 undef, tm.getD 9 undef, tm.getD 10 undef, tm.getD 11 undef, tm.getD 12 undef, tm.getD 13 undef, tm.getD 14 undef, tm.getD 15 undef, tm.getD 16 undef, tm.getD 17 undef, tm.getD 18 undef, tm.getD 19 undef, tm.getD 20 undef, tm.getD 21 undef, tm.getD 22 undef, tm.getD 23 undef, tm.getD 24 undef, tm.getD 25 undef, tm.getD 26 undef, tm.getD 27 undef, tm.getD 28 undef, tm.getD 29 undef, tm.getD 30 undef, tm.getD 31 undef] = _; rw [e0, e1, e2, e3, e4, e5, e6, e15, e16, e17, e18, e19, e20, e21, e22, e23, e24, e25, e26, e27, e28, e29, e30, e31])
    clear hs hk hG e0 e1 e2 e3 e4 e5 e6 e15 e16 e17 e18 e19 e20 e21 e22 e23 e24 e25 e26 e27 e28 e29 e30 e31
    generalize tm.getD 9 undef = t9 at htm g9
    generalize tm.getD 10 undef = t10 at htm g10
    generalize tm.getD 11 undef = t11 at htm g11
    generalize tm.getD 12 undef = t12 at htm g12
    generalize tm.getD 13 undef = t13 at htm g13
    generalize tm.getD 14 undef = t14 at htm g14
    generalize tm.getD 7 undef = t7 at htm g7
    generalize tm.getD 8 undef = t8 at htm g8
    subst htm
    subst g10
    subst g11
    subst g13
    subst g14
    subst g7
    subst g8
    simp only [List.drop_succ_cons, List.drop_zero]
    have HB : Hid (Below w.heap.size w W) := hA.trans (hB.mono hA.size)
    clear hA hB hbt hbg ht1 hg1 g9 g12
    obtain ⟨x, hx⟩ : ∃ x, aZ t c = x := ⟨_, rfl⟩
    obtain ⟨y, hy⟩ : ∃ y, aZ g c = y := ⟨_, rfl⟩
    rw [hx, hy] at HF
    simp only [hx, hy]
    clear hx hy
    by_cases h1 : x = 0
    · have k1 : (x == 0) = true := by simp [h1]
      rw [if_pos h1] at HF
      clear h1
      go_wp2
      go_ret
      exact ⟨_, rfl, HB.out, by rw [HF.out]; rfl⟩
    · have k1 : (x == 0) = false := by simp [h1]
      rw [if_neg h1] at HF
      clear h1
      by_cases h2 : y = 0
      · have k2 : (y == 0) = true := by simp [h2]
        rw [if_pos h2] at HF
        clear h2
        go_wp2
        go_ret
        exact ⟨_, rfl, HB.out, by rw [HF.out]; rfl⟩
      · have k2 : (y == 0) = false := by simp [h2]
        rw [if_neg h2] at HF
        clear h2
        by_cases h3 : x = 5
        · have k3 : (x == 5) = true := by simp [h3]
          rw [if_pos h3] at HF
          clear h3
          go_wp2
          go_ret
          exact ⟨_, rfl, HB.out, by rw [HF.out]; rfl⟩
        · have k3 : (x == 5) = false := by simp [h3]
          rw [if_neg h3] at HF
          clear h3
          by_cases h4 : y = 5
          · have k4 : (y == 5) = true := by simp [h4]
            rw [if_pos h4] at HF
            clear h4
            go_wp2
            go_ret
            exact ⟨_, rfl, HB.out, by rw [HF.out]; rfl⟩
          · have k4 : (y == 5) = false := by simp [h4]
            rw [if_neg h4] at HF
            clear h4
            by_cases h5 : x < y
            · rw [show max x y = y from by omega] at HF
              go_wp2
              go_ret
              first | exact ⟨by rw [HF.out]; rfl, HB.out⟩ | exact ⟨_, rfl, HB.out, by rw [HF.out]; rfl⟩
            · rw [show max x y = x from by omega] at HF
              go_wp2
              go_ret
              first | exact ⟨by rw [HF.out]; rfl, HB.out⟩ | exact ⟨_, rfl, HB.out, by rw [HF.out]; rfl⟩
end Go.Proofs.Ytnjmgholoigpkaa
