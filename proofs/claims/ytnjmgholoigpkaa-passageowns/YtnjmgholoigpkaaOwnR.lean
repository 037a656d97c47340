/- What Own of the reference answers. -/
import Derived.Test.YtnjmgholoigpkaaOwnP
namespace Go.Proofs.Ytnjmgholoigpkaa
open Go.RowKit Go.Sort
theorem rNamed_i {ls : List ML} {v : Value} {W : World} (h : LsV ls v W) (hn : ls.length ≤ 16) : Calls Try.prog 27 #[v] W fun e W' => ∃ v', e = .returned v' ∧ Below W.heap.size W W' ∧ IV (nmM ls) v' W' := by
  refine (rNamed_c h hn).mono ?_
  rintro e W' ⟨v', rfl, hb, g, cap, rfl, hown⟩
  exact ⟨_, rfl, hb, _, hown⟩
def rownM (t c : ML) (cat : Int) : ML × ML × Int :=
  if isCt cat = true then (if ((nmM [t, c]).any fun y => y == cat) = true then ((0, []), (0, []), 8)
    else if (wX t cat 0 != 0) = true then ((0, []), (0, []), 7) else if (wX c cat 4 != 0) = true then ((0, []), (0, []), 7) else (wM t cat 0, wM c cat 4, 0)) else ((0, []), (0, []), 1)
theorem any_st (P : Int → Bool) (cs : List Int) (k : Nat) (h : k < cs.length) : (cs.drop k).any P = (P cs[k] || (cs.drop (k + 1)).any P) := by
  rw [List.drop_eq_getElem_cons h, List.any_cons]
set_option maxRecDepth 100000 in
set_option maxHeartbeats 40000000 in
theorem rOwn_c {t c : ML} {vt vc : Value} {w : World} {cat : Int} (ht : LV t vt w) (hc : LV c vc w) :
    Calls Try.prog 20 #[vt, vc, .int .i64 cat] w fun e w' => ∃ x y, e = .returned (.tuple #[x, y, .int .i64 (rownM t c cat).2.2]) ∧ Below w.heap.size w w' ∧ RV w.heap.size (rownM t c cat).1 x w' ∧ RV w.heap.size (rownM t c cat).2.1 y w' := by
  obtain ⟨pt, ct, rfl, ht1, ht2, ht3⟩ := id ht
  obtain ⟨pc, cc, rfl, hc1, hc2, hc3⟩ := id hc
  obtain ⟨W0, hW0⟩ : ∃ W0, W0 = (((w.alloc (.cells #[.int .i64 t.1, .slice pt t.2.length ct] 24)).alloc (.cells #[.int .i64 c.1, .slice pc c.2.length cc] 24)).alloc (.cells #[.int .i64 0, .slice none 0 0] 24)).alloc (.cells #[.int .i64 0, .slice none 0 0] 24) := ⟨_, rfl⟩
  have hA : Below w.heap.size w W0 := by rw [hW0]; go_grown
  have hbt : LBox t W0 w.heap.size 0 := ⟨pt, ct, by rw [hW0]; simp <;> omega, by rw [hW0]; simp [go_sem], by rw [hW0]; simp [go_sem], ht1.below hA, ht2, ht3⟩
  have hbc : LBox c W0 (w.heap.size + 1) 0 := ⟨pc, cc, by rw [hW0]; simp <;> omega, by rw [hW0]; simp [go_sem], by rw [hW0]; simp [go_sem], hc1.below hA, hc2, hc3⟩
  have hz6 : ZBox W0 (w.heap.size + 1 + 1) := ⟨by rw [hW0]; simp <;> omega, by rw [hW0]; simp [go_sem], by rw [hW0]; simp [go_sem], fun o => by rw [hW0]; simp [go_sem]⟩
  have hz7 : ZBox W0 (w.heap.size + 1 + 1 + 1) := ⟨by rw [hW0]; simp, by rw [hW0]; simp [go_sem], by rw [hW0]; simp [go_sem], fun o => by rw [hW0]; simp [go_sem]⟩
  have hlen : (nmM [t, c]).length < 1000000 := by
    have h1 := named_len [labM t, labM c] 2
    have h2 : namedS ([labM t, labM c].take 2) = nmM [t, c] := rfl
    rw [h2] at h1
    have h3 : total ([labM t, labM c].take 2) = t.2.length + (c.2.length + 0) := rfl
    omega
  have HD : Hid (rownM t c cat = if isCt cat = true then (if ((nmM [t, c]).any fun y => y == cat) = true then ((0, []), (0, []), 8)
    else if (wX t cat 0 != 0) = true then ((0, []), (0, []), 7) else if (wX c cat 4 != 0) = true then ((0, []), (0, []), 7) else (wM t cat 0, wM c cat 4, 0)) else ((0, []), (0, []), 1)) := rfl
  have HC := Lib.hid (Cat_any cat W0)
  rw [hW0] at HC
  clear ht1 hc1
  obtain ⟨x0, hx0⟩ : ∃ x0, isCt cat = x0 := ⟨_, rfl⟩
  rw [hx0] at HC HD
  clear hx0
  cases x0 with
  | false =>
    have HDx : Hid (rownM t c cat = ((0, []), (0, []), 1)) := by simp only [Hid]; rw [HD.out]; rfl
    clear HD hbt hbc
    have HD := HDx
    clear HDx
    go_enter Try.func20, Try.ntmps20
    go_upto_region 2 with (go_at_call 44; refine HC.out.mono ?_; rintro e w1 ⟨rfl, hw1⟩; rw [hw1]; clear hw1 w1)
    rw [← hW0]
    have hy6 := hz6
    have hy7 := hz7
    obtain ⟨z6, z60, z61, z6f⟩ := hy6.below (Below.refl _ _)
    obtain ⟨z7, z70, z71, z7f⟩ := hy7.below (Below.refl _ _)
    have HB := Lib.hid hA
    clear hW0 HC hy6 hy7 hz6 hz7
    go_wp2
    (refine bodyPost_ret (by first | (simp [results, Try.results20, go_sem, z60, z61, z70, z71]; rfl) | simp [results, Try.results20, go_sem, z60, z61, z70, z71]) rfl ⟨_, _, by first | (rw [HD.out]; done) | (rw [HD.out]; rfl), ?_, ?_, ?_⟩)
    all_goals first
      | exact (((HB.out.setCell (p := ⟨w.heap.size + 1 + 1, 0, none⟩) (by simp <;> omega) _).setCell (p := ⟨w.heap.size + 1 + 1, 1, none⟩) (by simp <;> omega) _).setCell (p := ⟨w.heap.size + 1 + 1 + 1, 0, none⟩) (by simp <;> omega) _).setCell (p := ⟨w.heap.size + 1 + 1 + 1, 1, none⟩) (by simp <;> omega) _
      | (rw [HD.out]; exact RV.zero _ _)
      | (rw [HD.out]; exact RV.zero _ _)
  | true =>
    have HDx : Hid (rownM t c cat = (if ((nmM [t, c]).any fun y => y == cat) = true then ((0, []), (0, []), 8)
      else if (wX t cat 0 != 0) = true then ((0, []), (0, []), 7) else if (wX c cat 4 != 0) = true then ((0, []), (0, []), 7) else (wM t cat 0, wM c cat 4, 0))) := by simp only [Hid]; rw [HD.out]; rfl
    clear HD
    have HD := HDx
    clear HDx
    go_enter Try.func20, Try.ntmps20
    go_upto_region 3 with (go_at_call 44; refine HC.out.mono ?_; rintro e w1 ⟨rfl, hw1⟩; rw [hw1]; clear hw1 w1)
    rw [← hW0]
    clear HC hW0
    refine wp_region_monoF 6 (fun kq v W => match kq with | 20 => LV t v W | 21 => LV c v W | 22 => LsV [t, c] v W | 23 => IV (nmM [t, c]) v W | 24 => v = .int .i64 (((nmM [t, c])).length : Nat) | 25 => v = .int .i64 0 | _ => True) (by kernel_rfl) (by kernel_rfl) (by simp) ?_ ?_ ?_
    · intro kq v W W' h hb
      revert h
      try dsimp only
      split
      · intro h; exact LV.below h hb
      · intro h; exact LV.below h hb
      · intro h; exact LsV.below h hb
      · intro h; exact IV.below h hb
      · intro h; exact h
      · intro h; exact h
      · intro h; trivial
    · intro a' W hB hs hk i o d ho hd hG
      match i, ho with
      | 0, ho =>
        obtain rfl : _ = o := Option.some.inj ho
        obtain rfl : 20 = d := Option.some.inj hd
        obtain ⟨v, hr, hv⟩ := run_loadL (ev := a'.eval) (W := W) (hk 3 (by kernel_rfl)) (hbt.below hB)
        exact .inr ⟨rfl, .inl ⟨v, W, hr, Below.refl _ _, hv⟩⟩
      | 1, ho =>
        obtain rfl : _ = o := Option.some.inj ho
        obtain rfl : 21 = d := Option.some.inj hd
        obtain ⟨v, hr, hv⟩ := run_loadL (ev := a'.eval) (W := W) (hk 4 (by kernel_rfl)) (hbc.below hB)
        exact .inr ⟨rfl, .inl ⟨v, W, hr, Below.refl _ _, hv⟩⟩
      | 2, ho =>
        obtain rfl : _ = o := Option.some.inj ho
        obtain rfl : 22 = d := Option.some.inj hd
        have g20 : LV t (a'.eval (.tmp 20)) W := hG ⟨0, .data⟩ (by simp) rfl 20 rfl
        have g21 : LV c (a'.eval (.tmp 21)) W := hG ⟨1, .data⟩ (by simp) rfl 21 rfl
        obtain ⟨v, W', hr, hb, hv⟩ := run_slice2 (ev := a'.eval) (W := W) rfl rfl g20 g21
        exact .inr ⟨rfl, .inl ⟨v, W', hr, hb, hv⟩⟩
      | 3, ho =>
        obtain rfl : _ = o := Option.some.inj ho
        obtain rfl : 23 = d := Option.some.inj hd
        have g22 : LsV [t, c] (a'.eval (.tmp 22)) W := hG ⟨2, .data⟩ (by simp) rfl 22 rfl
        exact .inr ⟨rfl, .inr ⟨_, _, run_call rfl map_1 ent_gatehouseref01_Named, rNamed_i g22 (by simp)⟩⟩
      | 4, ho =>
        obtain rfl : _ = o := Option.some.inj ho
        obtain rfl : 24 = d := Option.some.inj hd
        have g23 : IV (nmM [t, c]) (a'.eval (.tmp 23)) W := hG ⟨3, .data⟩ (by simp) rfl 23 rfl
        exact .inr ⟨rfl, .inl ⟨_, W, run_len g23, Below.refl _ _, rfl⟩⟩
      | 5, ho =>
        obtain rfl : _ = o := Option.some.inj ho
        obtain rfl : 25 = d := Option.some.inj hd
        exact .inr ⟨rfl, .inl ⟨_, W, run_move rfl, Below.refl _ _, rfl⟩⟩
      | j + 6, ho => simp at ho
    · intro a' W hB hs hdf hk hG
      obtain ⟨tm, df⟩ := a'
      obtain rfl : df = [] := hdf
      have e0 : tm.getD 0 undef = .agg #[.int .i64 t.fst, .slice pt t.snd.length ct] := hk 0 (by kernel_rfl)
      have e1 : tm.getD 1 undef = .agg #[.int .i64 c.fst, .slice pc c.snd.length cc] := hk 1 (by kernel_rfl)
      have e2 : tm.getD 2 undef = .int .i64 cat := hk 2 (by kernel_rfl)
      have e3 : tm.getD 3 undef = .pointer (some ⟨w.heap.size, 0, none⟩) := hk 3 (by kernel_rfl)
      have e4 : tm.getD 4 undef = .pointer (some ⟨w.heap.size + 1, 0, none⟩) := hk 4 (by kernel_rfl)
      have e5 : tm.getD 5 undef = undef := hk 5 (by kernel_rfl)
      have e6 : tm.getD 6 undef = .pointer (some ⟨w.heap.size + 1 + 1, 0, none⟩) := hk 6 (by kernel_rfl)
      have e7 : tm.getD 7 undef = .pointer (some ⟨w.heap.size + 1 + 1 + 1, 0, none⟩) := hk 7 (by kernel_rfl)
      have e8 : tm.getD 8 undef = .int .i64 0 := hk 8 (by kernel_rfl)
      have e9 : tm.getD 9 undef = undef := hk 9 (by kernel_rfl)
      have e10 : tm.getD 10 undef = undef := hk 10 (by kernel_rfl)
      have e11 : tm.getD 11 undef = undef := hk 11 (by kernel_rfl)
      have e12 : tm.getD 12 undef = undef := hk 12 (by kernel_rfl)
      have e13 : tm.getD 13 undef = undef := hk 13 (by kernel_rfl)
      have e14 : tm.getD 14 undef = undef := hk 14 (by kernel_rfl)
      have e15 : tm.getD 15 undef = .int .i64 cat := hk 15 (by kernel_rfl)
      have e16 : tm.getD 16 undef = .bool true := hk 16 (by kernel_rfl)
      have e17 : tm.getD 17 undef = .bool false := hk 17 (by kernel_rfl)
      have e18 : tm.getD 18 undef = undef := hk 18 (by kernel_rfl)
      have e19 : tm.getD 19 undef = undef := hk 19 (by kernel_rfl)
      have e26 : tm.getD 26 undef = undef := hk 26 (by kernel_rfl)
      have e27 : tm.getD 27 undef = undef := hk 27 (by kernel_rfl)
      have e28 : tm.getD 28 undef = undef := hk 28 (by kernel_rfl)
      have e29 : tm.getD 29 undef = undef := hk 29 (by kernel_rfl)
      have e30 : tm.getD 30 undef = undef := hk 30 (by kernel_rfl)
      have e31 : tm.getD 31 undef = undef := hk 31 (by kernel_rfl)
      have e32 : tm.getD 32 undef = undef := hk 32 (by kernel_rfl)
      have e33 : tm.getD 33 undef = undef := hk 33 (by kernel_rfl)
      have e34 : tm.getD 34 undef = undef := hk 34 (by kernel_rfl)
      have e35 : tm.getD 35 undef = undef := hk 35 (by kernel_rfl)
      have e36 : tm.getD 36 undef = undef := hk 36 (by kernel_rfl)
      have e37 : tm.getD 37 undef = undef := hk 37 (by kernel_rfl)
      have e38 : tm.getD 38 undef = undef := hk 38 (by kernel_rfl)
      have e39 : tm.getD 39 undef = undef := hk 39 (by kernel_rfl)
      have e40 : tm.getD 40 undef = undef := hk 40 (by kernel_rfl)
      have e41 : tm.getD 41 undef = undef := hk 41 (by kernel_rfl)
      have e42 : tm.getD 42 undef = undef := hk 42 (by kernel_rfl)
      have e43 : tm.getD 43 undef = undef := hk 43 (by kernel_rfl)
      have e44 : tm.getD 44 undef = undef := hk 44 (by kernel_rfl)
      have e45 : tm.getD 45 undef = undef := hk 45 (by kernel_rfl)
      have e46 : tm.getD 46 undef = undef := hk 46 (by kernel_rfl)
      have e47 : tm.getD 47 undef = undef := hk 47 (by kernel_rfl)
      have e48 : tm.getD 48 undef = undef := hk 48 (by kernel_rfl)
      have e49 : tm.getD 49 undef = undef := hk 49 (by kernel_rfl)
      have e50 : tm.getD 50 undef = undef := hk 50 (by kernel_rfl)
      have e51 : tm.getD 51 undef = undef := hk 51 (by kernel_rfl)
      have e52 : tm.getD 52 undef = undef := hk 52 (by kernel_rfl)
      have e53 : tm.getD 53 undef = undef := hk 53 (by kernel_rfl)
      have e54 : tm.getD 54 undef = undef := hk 54 (by kernel_rfl)
      have e55 : tm.getD 55 undef = undef := hk 55 (by kernel_rfl)
      have e56 : tm.getD 56 undef = undef := hk 56 (by kernel_rfl)
      have g20 : LV t (tm.getD 20 undef) W := hG 0 20 (by decide) rfl
      have g21 : LV c (tm.getD 21 undef) W := hG 1 21 (by decide) rfl
      have g22 : LsV [t, c] (tm.getD 22 undef) W := hG 2 22 (by decide) rfl
      have g23 : IV (nmM [t, c]) (tm.getD 23 undef) W := hG 3 23 (by decide) rfl
      have g24 : (tm.getD 24 undef) = .int .i64 (((nmM [t, c])).length : Nat) := hG 4 24 (by decide) rfl
      have g25 : (tm.getD 25 undef) = .int .i64 0 := hG 5 25 (by decide) rfl
      have htm := arr_of tm ((.agg #[.int .i64 t.fst, .slice pt t.snd.length ct] : Value) :: (.agg #[.int .i64 c.fst, .slice pc c.snd.length cc] : Value) :: (.int .i64 cat : Value) :: (.pointer (some ⟨w.heap.size, 0, none⟩) : Value) :: (.pointer (some ⟨w.heap.size + 1, 0, none⟩) : Value) :: (undef : Value) :: (.pointer (some ⟨w.heap.size + 1 + 1, 0, none⟩) : Value) :: (.pointer (some ⟨w.heap.size + 1 + 1 + 1, 0, none⟩) : Value) :: (.int .i64 0 : Value) :: (undef : Value) :: (undef : Value) :: (undef : Value) :: (undef : Value) :: (undef : Value) :: (undef : Value) :: (.int .i64 cat : Value) :: (.bool true : Value) :: (.bool false : Value) :: (undef : Value) :: (undef : Value) :: (tm.getD 20 undef : Value) :: (tm.getD 21 undef : Value) :: (tm.getD 22 undef : Value) :: (tm.getD 23 undef : Value) :: (tm.getD 24 undef : Value) :: (tm.getD 25 undef : Value) :: (undef : Value) :: (undef : Value) :: (undef : Value) :: (undef : Value) :: (undef : Value) :: (undef : Value) :: (undef : Value) :: (undef : Value) :: (undef : Value) :: (undef : Value) :: (undef : Value) :: (undef : Value) :: (undef : Value) :: (undef : Value) :: (undef : Value) :: (undef : Value) :: (undef : Value) :: (undef : Value) :: (undef : Value) :: (undef : Value) :: (undef : Value) :: (undef : Value) :: (undef : Value) :: (undef : Value) :: (undef : Value) :: (undef : Value) :: (undef : Value) :: (undef : Value) :: (undef : Value) :: (undef : Value) :: (undef : Value) :: []) hs (by show (tm.getD 0 undef :: tm.getD 1 undef :: tm.getD 2 undef :: tm.getD 3 undef :: tm.getD 4 undef :: tm.getD 5 undef :: tm.getD 6 undef :: tm.getD 7 undef :: tm.getD 8 undef :: tm.getD 9 undef :: tm.getD 10 undef :: tm.getD 11 undef :: tm.getD 12 undef :: tm.getD 13 undef :: tm.getD 14 undef :: tm.getD 15 undef :: tm.getD 16 undef :: tm.getD 17 undef :: tm.getD 18 undef :: tm.getD 19 undef :: tm.getD 20 undef :: tm.getD 21 undef :: tm.getD 22 undef :: tm.getD 23 undef :: tm.getD 24 undef :: tm.getD 25 undef :: tm.getD 26 undef :: tm.getD 27 undef :: tm.getD 28 undef :: tm.getD 29 undef :: tm.getD 30 undef :: tm.getD 31 undef :: tm.getD 32 undef :: tm.getD 33 undef :: tm.getD 34 undef :: tm.getD 35 undef :: tm.getD 36 undef :: tm.getD 37 undef :: tm.getD 38 undef :: tm.getD 39 undef :: tm.getD 40 undef :: tm.getD 41 undef :: tm.getD 42 undef :: tm.getD 43 undef :: tm.getD 44 undef :: tm.getD 45 undef :: tm.getD 46 undef :: tm.getD 47 undef :: tm.getD 48 undef :: tm.getD 49 undef :: tm.getD 50 undef :: tm.getD 51 undef :: tm.getD 52 undef :: tm.getD 53 undef :: tm.getD 54 undef :: tm.getD 55 undef :: tm.getD 56 undef :: []) = _; rw [e0, e1, e2, e3, e4, e5, e6, e7, e8, e9, e10, e11, e12, e13, e14, e15, e16, e17, e18, e19, e26, e27, e28, e29, e30, e31, e32, e33, e34, e35, e36, e37, e38, e39, e40, e41, e42, e43, e44, e45, e46, e47, e48, e49, e50, e51, e52, e53, e54, e55, e56]; try rfl)
      clear hs hk hG e0 e1 e2 e3 e4 e5 e6 e7 e8 e9 e10 e11 e12 e13 e14 e15 e16 e17 e18 e19 e26 e27 e28 e29 e30 e31 e32 e33 e34 e35 e36 e37 e38 e39 e40 e41 e42 e43 e44 e45 e46 e47 e48 e49 e50 e51 e52 e53 e54 e55 e56
      generalize tm.getD 20 undef = t20 at htm g20
      generalize tm.getD 21 undef = t21 at htm g21
      generalize tm.getD 22 undef = t22 at htm g22
      generalize tm.getD 23 undef = t23 at htm g23
      generalize tm.getD 24 undef = t24 at htm g24
      generalize tm.getD 25 undef = t25 at htm g25
      subst htm
      subst g24
      subst g25
      simp only [List.drop_succ_cons, List.drop_zero]
      have hA2 : Below w.heap.size w W := hA.trans (hB.mono hA.size)
      have hct := hbt.below hB
      have hcc := hbc.below hB
      have hx6 := hz6.below hB
      have hx7 := hz7.below hB
      obtain ⟨cs, hcs⟩ : ∃ cs, nmM [t, c] = cs := ⟨_, rfl⟩
      rw [hcs] at g23 hlen HD
      simp only [hcs]
      obtain ⟨p, cz, rfl⟩ := g23.form
      have HI := Lib.hid g23
      clear hcs g23 hbt hbc hz6 hz7 hB hA g20 g21 g22
      go_wp2_with fail
      go_loopw [25] (fun i wr => ∃ k : Nat, k ≤ cs.length ∧ i = .int .i64 k ∧ (cs.any fun y => y == cat) = ((cs.drop k).any fun y => y == cat) ∧ Below W.heap.size W wr) (fun i _ => cs.length - (intOf i).toNat)
      case atStart => exact ⟨0, Nat.zero_le _, rfl, by simp, Below.refl _ _⟩
      case round =>
        obtain ⟨k, hk, rfl, hr, hbw⟩ := hrel
        have HR := Lib.hid hr
        clear hr
        have hA3 : Below w.heap.size w wr := hA2.trans (hbw.mono hA2.size)
        have hy6 := hx6.below hbw
        have hy7 := hx7.below hbw
        by_cases hlt : k < cs.length
        · obtain ⟨gz, rfl, hgz, c0w⟩ := iv_cell HI.out k hlt
          have c0 := (hbw.cell (p := ⟨gz, k, none⟩) hgz).trans c0w
          have hki : (k : Int) < (cs.length : Int) := by omega
          have HT := Lib.hid (any_st (fun y => y == cat) cs k hlt)
          by_cases he : (cs[k] == cat) = true
          · have HDx : Hid (rownM t c cat = ((0, []), (0, []), 8)) := by
              simp only [Hid]
              rw [HD.out, if_pos (by rw [HR.out, HT.out]; simp [he])]
            clear HD
            have HD := HDx
            clear HDx c0w HR HT HI hct hcc hx6 hx7
            have HB := Lib.hid hA3
            obtain ⟨z6, z60, z61, z6f⟩ := hy6.below (Below.refl _ _)
            obtain ⟨z7, z70, z71, z7f⟩ := hy7.below (Below.refl _ _)
            clear hy6 hy7 hA2 hA3 hbw
            go_wp2
            (refine bodyPost_ret (by first | (simp [results, Try.results20, go_sem, z60, z61, z70, z71]; rfl) | simp [results, Try.results20, go_sem, z60, z61, z70, z71]) rfl ⟨_, _, by first | (rw [HD.out]; done) | (rw [HD.out]; rfl), ?_, ?_, ?_⟩)
            all_goals first
              | exact (((HB.out.setCell (p := ⟨w.heap.size + 1 + 1, 0, none⟩) (by simp <;> omega) _).setCell (p := ⟨w.heap.size + 1 + 1, 1, none⟩) (by simp <;> omega) _).setCell (p := ⟨w.heap.size + 1 + 1 + 1, 0, none⟩) (by simp <;> omega) _).setCell (p := ⟨w.heap.size + 1 + 1 + 1, 1, none⟩) (by simp <;> omega) _
              | (rw [HD.out]; exact RV.zero _ _)
              | (rw [HD.out]; exact RV.zero _ _)
          · have he' : (cs[k] == cat) = false := by simpa using he
            clear c0w HI hct hcc hx6 hx7 hy6 hy7 HD
            go_wp2
            go_roundw
            case rel => exact ⟨k + 1, by omega, by go_num, by rw [HR.out, HT.out]; simp [he'], hbw⟩
            case measure => simp [intOf]; omega
        · obtain rfl : k = cs.length := by omega
          have hkk : ¬ (cs.length : Int) < (cs.length : Int) := by omega
          rw [if_neg (by rw [HR.out, List.drop_length]; simp)] at HD
          obtain ⟨p1, c1, hl1, bt0, bt1, btc, bt2, bt3⟩ := hct.below hbw
          have HW := Lib.hid (rWith_c (l := t) ⟨p1, c1, rfl, btc, bt2, bt3⟩ cat 0)
          have hcc' := hcc.below hbw
          have HW2 : Hid (∀ W', Below wr.heap.size wr W' → ∃ p c', W'.cell? ⟨w.heap.size + 1, 0, none⟩ = some (.int .i64 c.1) ∧ W'.cell? ⟨w.heap.size + 1, 1, none⟩ = some (.slice p c.2.length c') ∧ Calls Try.prog 45 #[.agg #[.int .i64 c.1, .slice p c.2.length c'], .int .i64 cat, .int .i64 4] W' fun e W'' => ∃ x, e = .returned (.tuple #[x, .int .i64 (wX c cat 4)]) ∧ Below W'.heap.size W' W'' ∧ RV W'.heap.size (wM c cat 4) x W'') := fun W' hb => by
            obtain ⟨p, c', h1, h2, h3, h4, h5, h6⟩ := hcc'.below hb
            exact ⟨p, c', h2, h3, rWith_c (l := c) ⟨p, c', rfl, h4, h5, h6⟩ cat 4⟩
          have hWs : w.heap.size + 1 + 1 + 1 < wr.heap.size := hy7.lt
          obtain ⟨e1, he1⟩ : ∃ e1, wX t cat 0 = e1 := ⟨_, rfl⟩
          rw [he1] at HW HD
          obtain ⟨e2, he2⟩ : ∃ e2, wX c cat 4 = e2 := ⟨_, rfl⟩
          rw [he2] at HD
          simp only [he2] at HW2
          clear he1 he2 hct hcc hcc' btc HI HR hx6 hx7 hbw hA2 hlt hlen
          by_cases q1 : e1 = 0
          · have q1' : (e1 != 0) = false := by simp [q1]
            have q1'' : (e1 == 0) = true := by simp [q1]
            rw [q1'] at HD
            by_cases q2 : e2 = 0
            · have q2' : (e2 != 0) = false := by simp [q2]
              have q2'' : (e2 == 0) = true := by simp [q2]
              rw [q2'] at HD
              subst q1 q2
              go_upto_region 13 with (first | (go_at_call 45; refine HW.out.mono ?_; rintro e w2 ⟨x, rfl, hb2, hx2⟩; obtain ⟨sx, rfl, hRx⟩ := hx2; obtain ⟨p2, c2, rfl, _, _⟩ := id hRx.out; have hbA : Below wr.heap.size wr (w2.alloc (.cells #[.int .i64 (wM t cat 0).1, .slice p2 (wM t cat 0).2.length c2] 24)) := hb2.alloc hb2.size _; obtain ⟨p3, c3, bc0, bc1, HW3⟩ := HW2.out _ hbA; have HW3' := Lib.hid HW3; have hRxA := hRx.below (show Below w2.heap.size w2 (w2.alloc (.cells #[.int .i64 (wM t cat 0).1, .slice p2 (wM t cat 0).2.length c2] 24)) from by go_grown); clear HW3 HW HW2) | (go_at_call 45; refine HW3'.out.mono ?_; rintro e w3 ⟨y, rfl, hb3, hy3⟩; obtain ⟨sy, rfl, hRy⟩ := hy3; obtain ⟨p4, c4, rfl, _, _⟩ := id hRy.out))
              have hW2s : wr.heap.size ≤ w2.heap.size := hb2.size
              have hb03 : Below wr.heap.size wr w3 := hbA.trans (hb3.mono hbA.size)
              have hW3s : w2.heap.size + 1 ≤ w3.heap.size := by have := hb3.size; simp at this; omega
              have o0 : w3.cell? ⟨w2.heap.size, 0, none⟩ = some (.int .i64 (wM t cat 0).1) := (hb3.cell (p := ⟨w2.heap.size, 0, none⟩) (by simp)).trans (by simp [go_sem])
              have o1 : w3.cell? ⟨w2.heap.size, 1, none⟩ = some (.slice p2 (wM t cat 0).2.length c2) := (hb3.cell (p := ⟨w2.heap.size, 1, none⟩) (by simp)).trans (by simp [go_sem])
              obtain ⟨Wr, hWr⟩ : ∃ Wr, Wr = w3.alloc (.cells #[.int .i64 (wM c cat 4).1, .slice p4 (wM c cat 4).2.length c4] 24) := ⟨_, rfl⟩
              have hb3r : Below w3.heap.size w3 Wr := by rw [hWr]; go_grown
              have hbr : Below wr.heap.size wr Wr := hb03.trans (hb3r.mono hb03.size)
              have u0 : Wr.cell? ⟨w2.heap.size, 0, none⟩ = some (.int .i64 (wM t cat 0).1) := (hb3r.cell (p := ⟨w2.heap.size, 0, none⟩) (by simp; omega)).trans o0
              have u1 : Wr.cell? ⟨w2.heap.size, 1, none⟩ = some (.slice p2 (wM t cat 0).2.length c2) := (hb3r.cell (p := ⟨w2.heap.size, 1, none⟩) (by simp; omega)).trans o1
              have v0 : Wr.cell? ⟨w3.heap.size, 0, none⟩ = some (.int .i64 (wM c cat 4).1) := by rw [hWr]; simp [go_sem]
              have v1 : Wr.cell? ⟨w3.heap.size, 1, none⟩ = some (.slice p4 (wM c cat 4).2.length c4) := by rw [hWr]; simp [go_sem]
              have hrs : w3.heap.size < Wr.heap.size := by rw [hWr]; simp
              have HRx := Lib.hid ((hRxA.below hb3).below hb3r)
              have HRy := Lib.hid ((hRy.mono (show wr.heap.size ≤ _ from hbA.size)).below hb3r)
              rw [← hWr]
              obtain ⟨z6, z60, z61, z6f⟩ := hy6.below hbr
              obtain ⟨z7, z70, z71, z7f⟩ := hy7.below hbr
              have HB : Hid (Below w.heap.size w Wr) := hA3.trans (hbr.mono hA3.size)
              have n2 : w.heap.size + 1 + 1 + 1 < w2.heap.size := by omega
              have n3 : w2.heap.size < w3.heap.size := by omega
              obtain ⟨b2, hb2e⟩ : ∃ b2, b2 = w2.heap.size := ⟨_, rfl⟩
              obtain ⟨b3, hb3e⟩ : ∃ b3, b3 = w3.heap.size := ⟨_, rfl⟩
              rw [← hb2e] at u0 u1 n2 n3 ⊢
              rw [← hb3e] at v0 v1 n3 hrs ⊢
              clear hb2e hb3e hWr hbr HW3' hRx hRxA hRy hb03 hb3r hb3 hbA hb2 hy6 hy7 hA3 bc0 bc1 bt0 bt1 o0 o1 hW2s hW3s
              go_region_law (fail)
              all_goals go_wp2
              all_goals (refine bodyPost_ret (by first | (simp [results, Try.results20, go_sem, z60, z61, z70, z71]; rfl) | simp [results, Try.results20, go_sem, z60, z61, z70, z71]) rfl ⟨_, _, by first | (rw [HD.out]; done) | (rw [HD.out]; rfl), ?_, ?_, ?_⟩)
              all_goals first
                | exact (((HB.out.drew.setCell (p := ⟨w.heap.size + 1 + 1, 0, none⟩) (by simp <;> omega) _).setCell (p := ⟨w.heap.size + 1 + 1, 1, none⟩) (by simp <;> omega) _).setCell (p := ⟨w.heap.size + 1 + 1 + 1, 0, none⟩) (by simp <;> omega) _).setCell (p := ⟨w.heap.size + 1 + 1 + 1, 1, none⟩) (by simp <;> omega) _
                | (rw [HD.out]; exact RV.mono (B := wr.heap.size) (RV.set (RV.set (RV.set (RV.set ⟨_, rfl, HRx.out⟩ (by simp; omega) _) (by simp; omega) _) (by simp; omega) _) (by simp; omega) _) (by omega))
                | (rw [HD.out]; exact RV.mono (B := wr.heap.size) (RV.set (RV.set (RV.set (RV.set ⟨_, rfl, HRy.out⟩ (by simp; omega) _) (by simp; omega) _) (by simp; omega) _) (by simp; omega) _) (by omega))
            · have q2' : (e2 != 0) = true := by simp [q2]
              have q2'' : (e2 == 0) = false := by simp [q2]
              rw [q2'] at HD
              subst q1
              go_upto_region 12 with (first | (go_at_call 45; refine HW.out.mono ?_; rintro e w2 ⟨x, rfl, hb2, hx2⟩; obtain ⟨sx, rfl, hRx⟩ := hx2; obtain ⟨p2, c2, rfl, _, _⟩ := id hRx.out; have hbA : Below wr.heap.size wr (w2.alloc (.cells #[.int .i64 (wM t cat 0).1, .slice p2 (wM t cat 0).2.length c2] 24)) := hb2.alloc hb2.size _; obtain ⟨p3, c3, bc0, bc1, HW3⟩ := HW2.out _ hbA; have HW3' := Lib.hid HW3; have hRxA := hRx.below (show Below w2.heap.size w2 (w2.alloc (.cells #[.int .i64 (wM t cat 0).1, .slice p2 (wM t cat 0).2.length c2] 24)) from by go_grown); clear HW3 HW HW2) | (go_at_call 45; refine HW3'.out.mono ?_; rintro e w3 ⟨y, rfl, hb3, hy3⟩; obtain ⟨sy, rfl, hRy⟩ := hy3; obtain ⟨p4, c4, rfl, _, _⟩ := id hRy.out))
              have hW2s : wr.heap.size ≤ w2.heap.size := hb2.size
              have hb03 : Below wr.heap.size wr w3 := hbA.trans (hb3.mono hbA.size)
              have hW3s : w2.heap.size + 1 ≤ w3.heap.size := by have := hb3.size; simp at this; omega
              have o0 : w3.cell? ⟨w2.heap.size, 0, none⟩ = some (.int .i64 (wM t cat 0).1) := (hb3.cell (p := ⟨w2.heap.size, 0, none⟩) (by simp)).trans (by simp [go_sem])
              have o1 : w3.cell? ⟨w2.heap.size, 1, none⟩ = some (.slice p2 (wM t cat 0).2.length c2) := (hb3.cell (p := ⟨w2.heap.size, 1, none⟩) (by simp)).trans (by simp [go_sem])
              obtain ⟨Wr, hWr⟩ : ∃ Wr, Wr = w3.alloc (.cells #[.int .i64 (wM c cat 4).1, .slice p4 (wM c cat 4).2.length c4] 24) := ⟨_, rfl⟩
              have hb3r : Below w3.heap.size w3 Wr := by rw [hWr]; go_grown
              have hbr : Below wr.heap.size wr Wr := hb03.trans (hb3r.mono hb03.size)
              have u0 : Wr.cell? ⟨w2.heap.size, 0, none⟩ = some (.int .i64 (wM t cat 0).1) := (hb3r.cell (p := ⟨w2.heap.size, 0, none⟩) (by simp; omega)).trans o0
              have u1 : Wr.cell? ⟨w2.heap.size, 1, none⟩ = some (.slice p2 (wM t cat 0).2.length c2) := (hb3r.cell (p := ⟨w2.heap.size, 1, none⟩) (by simp; omega)).trans o1
              have v0 : Wr.cell? ⟨w3.heap.size, 0, none⟩ = some (.int .i64 (wM c cat 4).1) := by rw [hWr]; simp [go_sem]
              have v1 : Wr.cell? ⟨w3.heap.size, 1, none⟩ = some (.slice p4 (wM c cat 4).2.length c4) := by rw [hWr]; simp [go_sem]
              have hrs : w3.heap.size < Wr.heap.size := by rw [hWr]; simp
              have HRx := Lib.hid ((hRxA.below hb3).below hb3r)
              have HRy := Lib.hid ((hRy.mono (show wr.heap.size ≤ _ from hbA.size)).below hb3r)
              rw [← hWr]
              obtain ⟨z6, z60, z61, z6f⟩ := hy6.below hbr
              obtain ⟨z7, z70, z71, z7f⟩ := hy7.below hbr
              have HB : Hid (Below w.heap.size w Wr) := hA3.trans (hbr.mono hA3.size)
              have n2 : w.heap.size + 1 + 1 + 1 < w2.heap.size := by omega
              have n3 : w2.heap.size < w3.heap.size := by omega
              obtain ⟨b2, hb2e⟩ : ∃ b2, b2 = w2.heap.size := ⟨_, rfl⟩
              obtain ⟨b3, hb3e⟩ : ∃ b3, b3 = w3.heap.size := ⟨_, rfl⟩
              rw [← hb2e] at u0 u1 n2 n3 ⊢
              rw [← hb3e] at v0 v1 n3 hrs ⊢
              clear hb2e hb3e hWr hbr HW3' hRx hRxA hRy hb03 hb3r hb3 hbA hb2 hy6 hy7 hA3 bc0 bc1 bt0 bt1 o0 o1 hW2s hW3s
              go_wp2
              (refine bodyPost_ret (by first | (simp [results, Try.results20, go_sem, z60, z61, z70, z71]; rfl) | simp [results, Try.results20, go_sem, z60, z61, z70, z71]) rfl ⟨_, _, by first | (rw [HD.out]; done) | (rw [HD.out]; rfl), ?_, ?_, ?_⟩)
              all_goals first
                | exact (((HB.out.setCell (p := ⟨w.heap.size + 1 + 1, 0, none⟩) (by simp <;> omega) _).setCell (p := ⟨w.heap.size + 1 + 1, 1, none⟩) (by simp <;> omega) _).setCell (p := ⟨w.heap.size + 1 + 1 + 1, 0, none⟩) (by simp <;> omega) _).setCell (p := ⟨w.heap.size + 1 + 1 + 1, 1, none⟩) (by simp <;> omega) _
                | (rw [HD.out]; exact RV.zero _ _)
                | (rw [HD.out]; exact RV.zero _ _)
          · have q1' : (e1 != 0) = true := by simp [q1]
            have q1'' : (e1 == 0) = false := by simp [q1]
            rw [if_pos q1'] at HD
            go_upto_region 12 with (first | (go_at_call 45; refine HW.out.mono ?_; rintro e w2 ⟨x, rfl, hb2, hx2⟩; obtain ⟨sx, rfl, hRx⟩ := hx2; obtain ⟨p2, c2, rfl, _, _⟩ := id hRx.out; have hbA : Below wr.heap.size wr (w2.alloc (.cells #[.int .i64 (wM t cat 0).1, .slice p2 (wM t cat 0).2.length c2] 24)) := hb2.alloc hb2.size _; obtain ⟨p3, c3, bc0, bc1, HW3⟩ := HW2.out _ hbA; have HW3' := Lib.hid HW3; have hRxA := hRx.below (show Below w2.heap.size w2 (w2.alloc (.cells #[.int .i64 (wM t cat 0).1, .slice p2 (wM t cat 0).2.length c2] 24)) from by go_grown); clear HW3 HW HW2) | (go_at_call 45; refine HW3'.out.mono ?_; rintro e w3 ⟨y, rfl, hb3, hy3⟩; obtain ⟨sy, rfl, hRy⟩ := hy3; obtain ⟨p4, c4, rfl, _, _⟩ := id hRy.out))
            have hW2s : wr.heap.size ≤ w2.heap.size := hb2.size
            have hb03 : Below wr.heap.size wr w3 := hbA.trans (hb3.mono hbA.size)
            have hW3s : w2.heap.size + 1 ≤ w3.heap.size := by have := hb3.size; simp at this; omega
            have o0 : w3.cell? ⟨w2.heap.size, 0, none⟩ = some (.int .i64 (wM t cat 0).1) := (hb3.cell (p := ⟨w2.heap.size, 0, none⟩) (by simp)).trans (by simp [go_sem])
            have o1 : w3.cell? ⟨w2.heap.size, 1, none⟩ = some (.slice p2 (wM t cat 0).2.length c2) := (hb3.cell (p := ⟨w2.heap.size, 1, none⟩) (by simp)).trans (by simp [go_sem])
            obtain ⟨Wr, hWr⟩ : ∃ Wr, Wr = w3.alloc (.cells #[.int .i64 (wM c cat 4).1, .slice p4 (wM c cat 4).2.length c4] 24) := ⟨_, rfl⟩
            have hb3r : Below w3.heap.size w3 Wr := by rw [hWr]; go_grown
            have hbr : Below wr.heap.size wr Wr := hb03.trans (hb3r.mono hb03.size)
            have u0 : Wr.cell? ⟨w2.heap.size, 0, none⟩ = some (.int .i64 (wM t cat 0).1) := (hb3r.cell (p := ⟨w2.heap.size, 0, none⟩) (by simp; omega)).trans o0
            have u1 : Wr.cell? ⟨w2.heap.size, 1, none⟩ = some (.slice p2 (wM t cat 0).2.length c2) := (hb3r.cell (p := ⟨w2.heap.size, 1, none⟩) (by simp; omega)).trans o1
            have v0 : Wr.cell? ⟨w3.heap.size, 0, none⟩ = some (.int .i64 (wM c cat 4).1) := by rw [hWr]; simp [go_sem]
            have v1 : Wr.cell? ⟨w3.heap.size, 1, none⟩ = some (.slice p4 (wM c cat 4).2.length c4) := by rw [hWr]; simp [go_sem]
            have hrs : w3.heap.size < Wr.heap.size := by rw [hWr]; simp
            have HRx := Lib.hid ((hRxA.below hb3).below hb3r)
            have HRy := Lib.hid ((hRy.mono (show wr.heap.size ≤ _ from hbA.size)).below hb3r)
            rw [← hWr]
            obtain ⟨z6, z60, z61, z6f⟩ := hy6.below hbr
            obtain ⟨z7, z70, z71, z7f⟩ := hy7.below hbr
            have HB : Hid (Below w.heap.size w Wr) := hA3.trans (hbr.mono hA3.size)
            have n2 : w.heap.size + 1 + 1 + 1 < w2.heap.size := by omega
            have n3 : w2.heap.size < w3.heap.size := by omega
            obtain ⟨b2, hb2e⟩ : ∃ b2, b2 = w2.heap.size := ⟨_, rfl⟩
            obtain ⟨b3, hb3e⟩ : ∃ b3, b3 = w3.heap.size := ⟨_, rfl⟩
            rw [← hb2e] at u0 u1 n2 n3 ⊢
            rw [← hb3e] at v0 v1 n3 hrs ⊢
            clear hb2e hb3e hWr hbr HW3' hRx hRxA hRy hb03 hb3r hb3 hbA hb2 hy6 hy7 hA3 bc0 bc1 bt0 bt1 o0 o1 hW2s hW3s
            go_wp2
            (refine bodyPost_ret (by first | (simp [results, Try.results20, go_sem, z60, z61, z70, z71]; rfl) | simp [results, Try.results20, go_sem, z60, z61, z70, z71]) rfl ⟨_, _, by first | (rw [HD.out]; done) | (rw [HD.out]; rfl), ?_, ?_, ?_⟩)
            all_goals first
              | exact (((HB.out.setCell (p := ⟨w.heap.size + 1 + 1, 0, none⟩) (by simp <;> omega) _).setCell (p := ⟨w.heap.size + 1 + 1, 1, none⟩) (by simp <;> omega) _).setCell (p := ⟨w.heap.size + 1 + 1 + 1, 0, none⟩) (by simp <;> omega) _).setCell (p := ⟨w.heap.size + 1 + 1 + 1, 1, none⟩) (by simp <;> omega) _
              | (rw [HD.out]; exact RV.zero _ _)
              | (rw [HD.out]; exact RV.zero _ _)
end Go.Proofs.Ytnjmgholoigpkaa
