/- What Floor of package passage answers. -/
import Derived.Test.YtnjmgholoigpkaaMakeN
import Derived.Test.YtnjmgholoigpkaaOwnP
namespace Go.Proofs.Ytnjmgholoigpkaa
open Go.RowKit Go.Sort
def flX (t g : ML) (cs : List Int) : List (Int × Int) := rowS (fl t g) cs
def floM (t g : ML) : ML := (rkD (fl t g 0) (flX t g (namL [t, g])), rkL (fl t g 0) (flX t g (namL [t, g])))
def floE (t g : ML) : Int := rkE (fl t g 0) (flX t g (namL [t, g]))
theorem flo_rng {x : Int} (h : 0 ≤ x ∧ x ≤ 5) : 0 ≤ flo x ∧ flo x ≤ 5 := by unfold flo; split <;> omega
theorem fl_lev {t g : ML} (ht : OkL t) (hg : OkL g) (c : Int) : lev (fl t g c) = true := by
  rw [fl_at ht hg]
  have h1 := ot_rng (ht.lo c)
  have h2 := ot_rng (hg.lo c)
  have := flo_rng (x := max (ot 0 5 (aM t c)) (ot 0 5 (aM g c))) (by omega)
  simp [lev, this.1, this.2]
theorem fl_can {t g : ML} (rt : rightM t = true) (rg : rightM g = true) : ((flX t g (namL [t, g])).any fun x => !can x) = false := by
  rw [List.any_eq_false]
  intro x hx
  unfold flX rowS at hx
  obtain ⟨c, hc, rfl⟩ := List.mem_map.1 hx
  obtain ⟨l, hl, hcl⟩ := List.mem_flatMap.1 hc
  have hcan : isCt c = true := by
    unfold catL at hcl
    obtain ⟨y, hy, rfl⟩ := List.mem_map.1 hcl
    have : can y = true := by
      simp only [List.mem_cons, List.not_mem_nil, or_false] at hl
      rcases hl with rfl | rfl
      · exact right_can rt y hy
      · exact right_can rg y hy
    unfold can at this
    rw [Bool.and_eq_true] at this
    exact this.1
  simp [can, hcan, fl_lev (okL rt) (okL rg) c]
theorem flX_snoc (t g : ML) (cs : List Int) (k : Nat) (h : k < cs.length) : flX t g (cs.take (k + 1)) = flX t g (cs.take k) ++ [(cs[k], fl t g cs[k])] := by
  unfold flX rowS; rw [List.take_succ_eq_append_getElem h, List.map_append]; rfl
theorem flX_len (t g : ML) (cs : List Int) : (flX t g cs).length = cs.length := by unfold flX rowS; simp
theorem ent_passage_floorX : Enters 46 := fun args W => by go_simp
/-- Make, whatever row of the call's own it is handed. -/
theorem Make_own {t g : ML} {r : Value} {W : World} {B : Nat} (rt : rightM t = true) (rg : rightM g = true) (hown : W.ownsRow B 50 2 r (flX t g (namL [t, g])).length (flat (flX t g (namL [t, g])))) (hl : (namL [t, g]).length ≤ 100) :
    Calls Try.prog 48 #[.int .i64 (fl t g 0), r] W fun e W' => ∃ x, e = .returned (.tuple #[x, .int .i64 (floE t g)]) ∧ Below W.heap.size W W' ∧ RV W.heap.size (floM t g) x W' := by
  have hlev := fl_lev (okL rt) (okL rg) 0
  have hcan := fl_can rt rg
  rcases Joins.ownsRow_forms hown with ⟨rfl, hn⟩ | ⟨gb, cap, rfl⟩
  · have hx : flX t g (namL [t, g]) = [] := List.length_eq_zero_iff.1 (by omega)
    refine (Make_nil (fl t g 0) W hlev).mono ?_
    rintro e W' ⟨x, rfl, hb, hR⟩
    refine ⟨x, ?_, hb, ?_⟩
    · unfold floE; rw [hx]; rfl
    · unfold floM; rw [hx]; exact hR
  · obtain ⟨p, cap', hv, hc, hcap⟩ := own_out hown
    cases hv
    refine (Make_gen (fl t g 0) gb 0 cap (flX t g (namL [t, g])) W hlev hcan (by rw [flX_len]; omega) hc).mono ?_
    rintro e W' ⟨v, zs, hp, hs, rfl, hR, hb⟩
    obtain ⟨e1, e2, e3⟩ := makes_eq (fl t g 0) hcan hp hs
    refine ⟨_, by rw [e3]; rfl, hb, v, by rw [e1]; rfl, ?_⟩
    rw [e2] at hR
    exact hR
set_option maxRecDepth 100000 in
set_option maxHeartbeats 8000000 in
theorem Floor_c {t g : ML} {vt vg : Value} {w : World} (ht : LV t vt w) (hg : LV g vg w) (rt : rightM t = true) (rg : rightM g = true) :
    Calls Try.prog 21 #[vt, vg] w fun e w' => ∃ x, e = .returned (.tuple #[x, .int .i64 (floE t g)]) ∧ Below w.heap.size w w' ∧ RV w.heap.size (floM t g) x w' := by
  obtain ⟨pt, ct, rfl, ht1, ht2, ht3⟩ := id ht
  obtain ⟨pg, cg, rfl, hg1, hg2, hg3⟩ := id hg
  obtain ⟨W0, hW0⟩ : ∃ W0, W0 = ((w.alloc (.cells #[.int .i64 t.1, .slice pt t.2.length ct] 24)).alloc (.cells #[.int .i64 g.1, .slice pg g.2.length cg] 24)).alloc (.cells #[.int .i64 0, .slice none 0 0] 24) := ⟨_, rfl⟩
  have hA : Below w.heap.size w W0 := by rw [hW0]; go_grown
  have hbt : LBox t W0 w.heap.size 0 := ⟨pt, ct, by rw [hW0]; simp <;> omega, by rw [hW0]; simp [go_sem], by rw [hW0]; simp [go_sem], ht1.below hA, ht2, ht3⟩
  have hbg : LBox g W0 (w.heap.size + 1) 0 := ⟨pg, cg, by rw [hW0]; simp <;> omega, by rw [hW0]; simp [go_sem], by rw [hW0]; simp [go_sem], hg1.below hA, hg2, hg3⟩
  have hz4 : ZBox W0 (w.heap.size + 1 + 1) := ⟨by rw [hW0]; simp, by rw [hW0]; simp [go_sem], by rw [hW0]; simp [go_sem], fun o => by rw [hW0]; simp [go_sem]⟩
  have hlen : (namL [t, g]).length ≤ 100 := by
    have := namL_len [t, g] (fun x hx => by
      simp only [List.mem_cons, List.not_mem_nil, or_false] at hx
      rcases hx with rfl | rfl <;> assumption)
    simp at this
    omega
  clear ht1 hg1
  go_enter Try.func21, Try.ntmps21
  go_upto_region 1 with fail
  rw [← hW0]
  clear hW0
  refine wp_region_monoF 3 (fun kq v W => match kq with | 10 => LV t v W | 11 => LV g v W | 12 => Lev (fl t g) v W | _ => True) (by kernel_rfl) (by kernel_rfl) (by simp) ?_ ?_ ?_
  · intro kq v W W' h hb
    revert h
    try dsimp only
    split
    · intro h; exact LV.below h hb
    · intro h; exact LV.below h hb
    · intro h; exact Lev.below h hb
    · intro h; trivial
  · intro a' W hB hs hk i o d ho hd hG
    match i, ho with
    | 0, ho =>
      obtain rfl : _ = o := Option.some.inj ho
      obtain rfl : 10 = d := Option.some.inj hd
      obtain ⟨v, hr, hv⟩ := run_loadL (ev := a'.eval) (W := W) (hk 2 (by kernel_rfl)) (hbt.below hB)
      exact .inr ⟨rfl, .inl ⟨v, W, hr, Below.refl _ _, hv⟩⟩
    | 1, ho =>
      obtain rfl : _ = o := Option.some.inj ho
      obtain rfl : 11 = d := Option.some.inj hd
      obtain ⟨v, hr, hv⟩ := run_loadL (ev := a'.eval) (W := W) (hk 3 (by kernel_rfl)) (hbg.below hB)
      exact .inr ⟨rfl, .inl ⟨v, W, hr, Below.refl _ _, hv⟩⟩
    | 2, ho =>
      obtain rfl : _ = o := Option.some.inj ho
      obtain rfl : 12 = d := Option.some.inj hd
      have g10 : LV t (a'.eval (.tmp 10)) W := hG ⟨0, .data⟩ (by simp) rfl 10 rfl
      have g11 : LV g (a'.eval (.tmp 11)) W := hG ⟨1, .data⟩ (by simp) rfl 11 rfl
      exact .inr ⟨rfl, .inr ⟨_, _, run_call rfl map_2 ent_passage_floorX, floor_c g10 g11⟩⟩
    | j + 3, ho => simp at ho
  · intro a' W hB hs hdf hk hG
    obtain ⟨tm, df⟩ := a'
    obtain rfl : df = [] := hdf
    have e0 : tm.getD 0 undef = .agg #[.int .i64 t.fst, .slice pt t.snd.length ct] := hk 0 (by kernel_rfl)
    have e1 : tm.getD 1 undef = .agg #[.int .i64 g.fst, .slice pg g.snd.length cg] := hk 1 (by kernel_rfl)
    have e2 : tm.getD 2 undef = .pointer (some ⟨w.heap.size, 0, none⟩) := hk 2 (by kernel_rfl)
    have e3 : tm.getD 3 undef = .pointer (some ⟨w.heap.size + 1, 0, none⟩) := hk 3 (by kernel_rfl)
    have e4 : tm.getD 4 undef = .pointer (some ⟨w.heap.size + 1 + 1, 0, none⟩) := hk 4 (by kernel_rfl)
    have e5 : tm.getD 5 undef = .int .i64 0 := hk 5 (by kernel_rfl)
    have e6 : tm.getD 6 undef = undef := hk 6 (by kernel_rfl)
    have e7 : tm.getD 7 undef = undef := hk 7 (by kernel_rfl)
    have e8 : tm.getD 8 undef = undef := hk 8 (by kernel_rfl)
    have e9 : tm.getD 9 undef = undef := hk 9 (by kernel_rfl)
    have e13 : tm.getD 13 undef = undef := hk 13 (by kernel_rfl)
    have e14 : tm.getD 14 undef = undef := hk 14 (by kernel_rfl)
    have e15 : tm.getD 15 undef = undef := hk 15 (by kernel_rfl)
    have e16 : tm.getD 16 undef = undef := hk 16 (by kernel_rfl)
    have e17 : tm.getD 17 undef = undef := hk 17 (by kernel_rfl)
    have e18 : tm.getD 18 undef = undef := hk 18 (by kernel_rfl)
    have e19 : tm.getD 19 undef = undef := hk 19 (by kernel_rfl)
    have e20 : tm.getD 20 undef = undef := hk 20 (by kernel_rfl)
    have e21 : tm.getD 21 undef = undef := hk 21 (by kernel_rfl)
    have e22 : tm.getD 22 undef = undef := hk 22 (by kernel_rfl)
    have e23 : tm.getD 23 undef = undef := hk 23 (by kernel_rfl)
    have e24 : tm.getD 24 undef = undef := hk 24 (by kernel_rfl)
    have e25 : tm.getD 25 undef = undef := hk 25 (by kernel_rfl)
    have e26 : tm.getD 26 undef = undef := hk 26 (by kernel_rfl)
    have e27 : tm.getD 27 undef = undef := hk 27 (by kernel_rfl)
    have e28 : tm.getD 28 undef = undef := hk 28 (by kernel_rfl)
    have e29 : tm.getD 29 undef = undef := hk 29 (by kernel_rfl)
    have e30 : tm.getD 30 undef = undef := hk 30 (by kernel_rfl)
    have e31 : tm.getD 31 undef = undef := hk 31 (by kernel_rfl)
    have e32 : tm.getD 32 undef = undef := hk 32 (by kernel_rfl)
    have e33 : tm.getD 33 undef = undef := hk 33 (by kernel_rfl)
    have e34 : tm.getD 34 undef = undef := hk 34 (by kernel_rfl)
    have e35 : tm.getD 35 undef = undef := hk 35 (by kernel_rfl)
    have e36 : tm.getD 36 undef = undef := hk 36 (by kernel_rfl)
    have g10 : LV t (tm.getD 10 undef) W := hG 0 10 (by decide) rfl
    have g11 : LV g (tm.getD 11 undef) W := hG 1 11 (by decide) rfl
    have g12 : Lev (fl t g) (tm.getD 12 undef) W := hG 2 12 (by decide) rfl
    have htm := arr_of tm ((.agg #[.int .i64 t.fst, .slice pt t.snd.length ct] : Value) :: (.agg #[.int .i64 g.fst, .slice pg g.snd.length cg] : Value) :: (.pointer (some ⟨w.heap.size, 0, none⟩) : Value) :: (.pointer (some ⟨w.heap.size + 1, 0, none⟩) : Value) :: (.pointer (some ⟨w.heap.size + 1 + 1, 0, none⟩) : Value) :: (.int .i64 0 : Value) :: (undef : Value) :: (undef : Value) :: (undef : Value) :: (undef : Value) :: (tm.getD 10 undef : Value) :: (tm.getD 11 undef : Value) :: (tm.getD 12 undef : Value) :: (undef : Value) :: (undef : Value) :: (undef : Value) :: (undef : Value) :: (undef : Value) :: (undef : Value) :: (undef : Value) :: (undef : Value) :: (undef : Value) :: (undef : Value) :: (undef : Value) :: (undef : Value) :: (undef : Value) :: (undef : Value) :: (undef : Value) :: (undef : Value) :: (undef : Value) :: (undef : Value) :: (undef : Value) :: (undef : Value) :: (undef : Value) :: (undef : Value) :: (undef : Value) :: (undef : Value) :: []) hs (by show (tm.getD 0 undef :: tm.getD 1 undef :: tm.getD 2 undef :: tm.getD 3 undef :: tm.getD 4 undef :: tm.getD 5 undef :: tm.getD 6 undef :: tm.getD 7 undef :: tm.getD 8 undef :: tm.getD 9 undef :: tm.getD 10 undef :: tm.getD 11 undef :: tm.getD 12 undef :: tm.getD 13 undef :: tm.getD 14 undef :: tm.getD 15 undef :: tm.getD 16 undef :: tm.getD 17 undef :: tm.getD 18 undef :: tm.getD 19 undef :: tm.getD 20 undef :: tm.getD 21 undef :: tm.getD 22 undef :: tm.getD 23 undef :: tm.getD 24 undef :: tm.getD 25 undef :: tm.getD 26 undef :: tm.getD 27 undef :: tm.getD 28 undef :: tm.getD 29 undef :: tm.getD 30 undef :: tm.getD 31 undef :: tm.getD 32 undef :: tm.getD 33 undef :: tm.getD 34 undef :: tm.getD 35 undef :: tm.getD 36 undef :: []) = _; rw [e0, e1, e2, e3, e4, e5, e6, e7, e8, e9, e13, e14, e15, e16, e17, e18, e19, e20, e21, e22, e23, e24, e25, e26, e27, e28, e29, e30, e31, e32, e33, e34, e35, e36]; try rfl)
    clear hs hk hG e0 e1 e2 e3 e4 e5 e6 e7 e8 e9 e13 e14 e15 e16 e17 e18 e19 e20 e21 e22 e23 e24 e25 e26 e27 e28 e29 e30 e31 e32 e33 e34 e35 e36
    generalize tm.getD 10 undef = t10 at htm g10
    generalize tm.getD 11 undef = t11 at htm g11
    generalize tm.getD 12 undef = t12 at htm g12
    subst htm
    simp only [List.drop_succ_cons, List.drop_zero]
    have hA1 : Below w.heap.size w W := hA.trans (hB.mono hA.size)
    have hct := hbt.below hB
    have hcg := hbg.below hB
    have hy4 := hz4.below hB
    obtain ⟨f, cap, rfl, he, hF⟩ := id g12
    have HLv := Lib.hid g12
    clear g10 g11 g12 hbt hbg hz4 hB hA
    go_upto_region 3 with fail
    obtain ⟨W1, hW1⟩ : ∃ W1, W1 = W := ⟨_, rfl⟩
    rw [← hW1] at hA1 hct hcg hy4 hF HLv ⊢
    clear hW1
    refine wp_region_monoF 6 (fun kq v W => match kq with | 13 => LV t v W | 14 => LV g v W | 15 => LsV [t, g] v W | 16 => IV (namL [t, g]) v W | 17 => v = .int .i64 (((namL [t, g])).length : Nat) | 18 => v = .int .i64 0 | _ => True) (by kernel_rfl) (by kernel_rfl) (by simp) ?_ ?_ ?_
    · intro kq v W W' h hb
      revert h
      try dsimp only
      split
      · intro h; exact LV.below h hb
      · intro h; exact LV.below h hb
      · intro h; exact LsV.below h hb
      · intro h; exact IV.below h hb
      · intro h; exact h
      · intro h; exact h
      · intro h; trivial
    · intro a' W hB hs hk i o d ho hd hG
      match i, ho with
      | 0, ho =>
        obtain rfl : _ = o := Option.some.inj ho
        obtain rfl : 13 = d := Option.some.inj hd
        obtain ⟨v, hr, hv⟩ := run_loadL (ev := a'.eval) (W := W) (hk 2 (by kernel_rfl)) (hct.below hB)
        exact .inr ⟨rfl, .inl ⟨v, W, hr, Below.refl _ _, hv⟩⟩
      | 1, ho =>
        obtain rfl : _ = o := Option.some.inj ho
        obtain rfl : 14 = d := Option.some.inj hd
        obtain ⟨v, hr, hv⟩ := run_loadL (ev := a'.eval) (W := W) (hk 3 (by kernel_rfl)) (hcg.below hB)
        exact .inr ⟨rfl, .inl ⟨v, W, hr, Below.refl _ _, hv⟩⟩
      | 2, ho =>
        obtain rfl : _ = o := Option.some.inj ho
        obtain rfl : 15 = d := Option.some.inj hd
        have g13 : LV t (a'.eval (.tmp 13)) W := hG ⟨0, .data⟩ (by simp) rfl 13 rfl
        have g14 : LV g (a'.eval (.tmp 14)) W := hG ⟨1, .data⟩ (by simp) rfl 14 rfl
        obtain ⟨v, W', hr, hb, hv⟩ := run_slice2 (ev := a'.eval) (W := W) rfl rfl g13 g14
        exact .inr ⟨rfl, .inl ⟨v, W', hr, hb, hv⟩⟩
      | 3, ho =>
        obtain rfl : _ = o := Option.some.inj ho
        obtain rfl : 16 = d := Option.some.inj hd
        have g15 : LsV [t, g] (a'.eval (.tmp 15)) W := hG ⟨2, .data⟩ (by simp) rfl 15 rfl
        exact .inr ⟨rfl, .inr ⟨_, _, run_call rfl map_1 ent_passage_named, named_c g15 (by simp)⟩⟩
      | 4, ho =>
        obtain rfl : _ = o := Option.some.inj ho
        obtain rfl : 17 = d := Option.some.inj hd
        have g16 : IV (namL [t, g]) (a'.eval (.tmp 16)) W := hG ⟨3, .data⟩ (by simp) rfl 16 rfl
        exact .inr ⟨rfl, .inl ⟨_, W, run_len g16, Below.refl _ _, rfl⟩⟩
      | 5, ho =>
        obtain rfl : _ = o := Option.some.inj ho
        obtain rfl : 18 = d := Option.some.inj hd
        exact .inr ⟨rfl, .inl ⟨_, W, run_move rfl, Below.refl _ _, rfl⟩⟩
      | j + 6, ho => simp at ho
    · intro a' W hB hs hdf hk hG
      obtain ⟨tm, df⟩ := a'
      obtain rfl : df = [] := hdf
      have e0 : tm.getD 0 undef = .agg #[.int .i64 t.fst, .slice pt t.snd.length ct] := hk 0 (by kernel_rfl)
      have e1 : tm.getD 1 undef = .agg #[.int .i64 g.fst, .slice pg g.snd.length cg] := hk 1 (by kernel_rfl)
      have e2 : tm.getD 2 undef = .pointer (some ⟨w.heap.size, 0, none⟩) := hk 2 (by kernel_rfl)
      have e3 : tm.getD 3 undef = .pointer (some ⟨w.heap.size + 1, 0, none⟩) := hk 3 (by kernel_rfl)
      have e4 : tm.getD 4 undef = .pointer (some ⟨w.heap.size + 1 + 1, 0, none⟩) := hk 4 (by kernel_rfl)
      have e5 : tm.getD 5 undef = .int .i64 0 := hk 5 (by kernel_rfl)
      have e6 : tm.getD 6 undef = .func (.func f) #[] cap := hk 6 (by kernel_rfl)
      have e7 : tm.getD 7 undef = .slice none 0 0 := hk 7 (by kernel_rfl)
      have e8 : tm.getD 8 undef = undef := hk 8 (by kernel_rfl)
      have e9 : tm.getD 9 undef = undef := hk 9 (by kernel_rfl)
      have e10 : tm.getD 10 undef = t10 := hk 10 (by kernel_rfl)
      have e11 : tm.getD 11 undef = t11 := hk 11 (by kernel_rfl)
      have e12 : tm.getD 12 undef = .func (.func f) #[] cap := hk 12 (by kernel_rfl)
      have e19 : tm.getD 19 undef = undef := hk 19 (by kernel_rfl)
      have e20 : tm.getD 20 undef = undef := hk 20 (by kernel_rfl)
      have e21 : tm.getD 21 undef = undef := hk 21 (by kernel_rfl)
      have e22 : tm.getD 22 undef = undef := hk 22 (by kernel_rfl)
      have e23 : tm.getD 23 undef = undef := hk 23 (by kernel_rfl)
      have e24 : tm.getD 24 undef = undef := hk 24 (by kernel_rfl)
      have e25 : tm.getD 25 undef = undef := hk 25 (by kernel_rfl)
      have e26 : tm.getD 26 undef = undef := hk 26 (by kernel_rfl)
      have e27 : tm.getD 27 undef = undef := hk 27 (by kernel_rfl)
      have e28 : tm.getD 28 undef = undef := hk 28 (by kernel_rfl)
      have e29 : tm.getD 29 undef = undef := hk 29 (by kernel_rfl)
      have e30 : tm.getD 30 undef = undef := hk 30 (by kernel_rfl)
      have e31 : tm.getD 31 undef = undef := hk 31 (by kernel_rfl)
      have e32 : tm.getD 32 undef = undef := hk 32 (by kernel_rfl)
      have e33 : tm.getD 33 undef = undef := hk 33 (by kernel_rfl)
      have e34 : tm.getD 34 undef = undef := hk 34 (by kernel_rfl)
      have e35 : tm.getD 35 undef = undef := hk 35 (by kernel_rfl)
      have e36 : tm.getD 36 undef = undef := hk 36 (by kernel_rfl)
      have g13 : LV t (tm.getD 13 undef) W := hG 0 13 (by decide) rfl
      have g14 : LV g (tm.getD 14 undef) W := hG 1 14 (by decide) rfl
      have g15 : LsV [t, g] (tm.getD 15 undef) W := hG 2 15 (by decide) rfl
      have g16 : IV (namL [t, g]) (tm.getD 16 undef) W := hG 3 16 (by decide) rfl
      have g17 : (tm.getD 17 undef) = .int .i64 (((namL [t, g])).length : Nat) := hG 4 17 (by decide) rfl
      have g18 : (tm.getD 18 undef) = .int .i64 0 := hG 5 18 (by decide) rfl
      have htm := arr_of tm ((.agg #[.int .i64 t.fst, .slice pt t.snd.length ct] : Value) :: (.agg #[.int .i64 g.fst, .slice pg g.snd.length cg] : Value) :: (.pointer (some ⟨w.heap.size, 0, none⟩) : Value) :: (.pointer (some ⟨w.heap.size + 1, 0, none⟩) : Value) :: (.pointer (some ⟨w.heap.size + 1 + 1, 0, none⟩) : Value) :: (.int .i64 0 : Value) :: (.func (.func f) #[] cap : Value) :: (.slice none 0 0 : Value) :: (undef : Value) :: (undef : Value) :: (t10 : Value) :: (t11 : Value) :: (.func (.func f) #[] cap : Value) :: (tm.getD 13 undef : Value) :: (tm.getD 14 undef : Value) :: (tm.getD 15 undef : Value) :: (tm.getD 16 undef : Value) :: (tm.getD 17 undef : Value) :: (tm.getD 18 undef : Value) :: (undef : Value) :: (undef : Value) :: (undef : Value) :: (undef : Value) :: (undef : Value) :: (undef : Value) :: (undef : Value) :: (undef : Value) :: (undef : Value) :: (undef : Value) :: (undef : Value) :: (undef : Value) :: (undef : Value) :: (undef : Value) :: (undef : Value) :: (undef : Value) :: (undef : Value) :: (undef : Value) :: []) hs (by show (tm.getD 0 undef :: tm.getD 1 undef :: tm.getD 2 undef :: tm.getD 3 undef :: tm.getD 4 undef :: tm.getD 5 undef :: tm.getD 6 undef :: tm.getD 7 undef :: tm.getD 8 undef :: tm.getD 9 undef :: tm.getD 10 undef :: tm.getD 11 undef :: tm.getD 12 undef :: tm.getD 13 undef :: tm.getD 14 undef :: tm.getD 15 undef :: tm.getD 16 undef :: tm.getD 17 undef :: tm.getD 18 undef :: tm.getD 19 undef :: tm.getD 20 undef :: tm.getD 21 undef :: tm.getD 22 undef :: tm.getD 23 undef :: tm.getD 24 undef :: tm.getD 25 undef :: tm.getD 26 undef :: tm.getD 27 undef :: tm.getD 28 undef :: tm.getD 29 undef :: tm.getD 30 undef :: tm.getD 31 undef :: tm.getD 32 undef :: tm.getD 33 undef :: tm.getD 34 undef :: tm.getD 35 undef :: tm.getD 36 undef :: []) = _; rw [e0, e1, e2, e3, e4, e5, e6, e7, e8, e9, e10, e11, e12, e19, e20, e21, e22, e23, e24, e25, e26, e27, e28, e29, e30, e31, e32, e33, e34, e35, e36]; try rfl)
      clear hs hk hG e0 e1 e2 e3 e4 e5 e6 e7 e8 e9 e10 e11 e12 e19 e20 e21 e22 e23 e24 e25 e26 e27 e28 e29 e30 e31 e32 e33 e34 e35 e36
      generalize tm.getD 13 undef = t13 at htm g13
      generalize tm.getD 14 undef = t14 at htm g14
      generalize tm.getD 15 undef = t15 at htm g15
      generalize tm.getD 16 undef = t16 at htm g16
      generalize tm.getD 17 undef = t17 at htm g17
      generalize tm.getD 18 undef = t18 at htm g18
      subst htm
      subst g17
      subst g18
      simp only [List.drop_succ_cons, List.drop_zero]
      have hA2 : Below w.heap.size w W := hA1.trans (hB.mono hA1.size)
      have hx4 := hy4.below hB
      have HF : Hid (∀ W', Below W.heap.size W W' → ∀ c, Calls Try.prog f (#[.int .i64 c] ++ cap) W' fun e W'' => e = .returned (.int .i64 (fl t g c)) ∧ Below W'.heap.size W' W'') := fun W' hb c => hF W' (hB.trans (hb.mono hB.size)) c
      obtain ⟨cs, hcs⟩ : ∃ cs, namL [t, g] = cs := ⟨_, rfl⟩
      rw [hcs] at g16 hlen
      simp only [hcs]
      obtain ⟨p, cz, rfl⟩ := g16.form
      have HI := Lib.hid g16
      have he' := fun args W => he args W
      have HCS := Lib.hid hcs
      clear hcs g13 g14 g15 g16 hct hcg hy4 hB hA1 hF HLv he
      obtain ⟨i0, hi, hz0, hz1, hz2⟩ := info_parts info30
      go_wp2_with fail
      go_loopw [7, 18] (fun r i wr => ∃ k : Nat, k ≤ cs.length ∧ i = .int .i64 k ∧ wr.ownsRow W.heap.size 50 2 r (flX t g (cs.take k)).length (flat (flX t g (cs.take k))) ∧ Below W.heap.size W wr) (fun _ i _ => cs.length - (intOf i).toNat)
      case atStart => exact ⟨0, Nat.zero_le _, rfl, World.ownsRow_nil _ _ _ _, Below.refl _ _⟩
      case round =>
        obtain ⟨k, hk, rfl, hown, hbw⟩ := hrel
        by_cases hlt : k < cs.length
        · obtain ⟨gz, rfl, hgz, c0w⟩ := iv_cell HI.out k hlt
          have c0 := (hbw.cell (p := ⟨gz, k, none⟩) hgz).trans c0w
          have hki : (k : Int) < (cs.length : Int) := by omega
          have HS := Lib.hid (flX_snoc t g cs k hlt)
          have HC := Lib.hid (HF.out wr hbw cs[k])
          have hln : (flX t g (cs.take k)).length ≤ k := by rw [flX_len]; exact List.length_take_le _ _
          clear c0w HI HF
          go_wp2_with fail
          refine HC.out.mono ?_
          rintro e w2 ⟨rfl, hb2⟩
          have hown2 := own_belowN hown hb2 (Nat.le_refl _)
          have hbw2 : Below W.heap.size W w2 := hbw.trans (hb2.mono hbw.size)
          have hownA := hown2.alloc (.cells #[.int .i64 cs[k], .int .i64 (fl t g cs[k])] 50)
          have hbA : Below W.heap.size W (w2.alloc (.cells #[.int .i64 cs[k], .int .i64 (fl t g cs[k])] 50)) := hbw2.alloc hbw2.size _
          have HO := Lib.hid (cell_two_new w2 (.int .i64 cs[k]) (.int .i64 (fl t g cs[k])) 50)
          have h63 : (flX t g (cs.take k)).length + 1 ≤ maxLen := by unfold maxLen; omega
          have hby : ((flX t g (cs.take k)).length + 1) * 16 ≤ 140737488355328 := by omega
          have HLT := Lib.hid hownA.lt
          have hsz : W.heap.size ≤ (w2.alloc (.cells #[.int .i64 cs[k], .int .i64 (fl t g cs[k])] 50)).heap.size := hbA.size
          clear HC hown hown2 hb2 hbw hbw2
          go_wp2_with (at_builtin; refine wpList_append_own _ rfl _ _ 22 rfl W.heap.size 50 i0 (.agg #[.int .i64 0, .int .i64 0]) 2 16 Try.underlying22 hi hz0 hz1 hz2 rfl (by decide) _ _ _ rfl hownA ⟨w2.heap.size, 0, none⟩ 1 1 [.int .i64 cs[k], .int .i64 (fl t g cs[k])] rfl rfl HO.out (fun x hx => by simp at hx; rcases hx with rfl | rfl <;> rfl) h63 hby hsz ?_; intro v5 w5 hown5 hgrow5 hnil5)
          go_roundw
          case rel =>
            refine ⟨k + 1, by omega, by go_num, ?_, Below.grown hbA hgrow5 hsz (fun j hj => (HLT.out j hj).1)⟩
            rw [HS.out, List.length_append, flat_append]
            exact hown5
          case measure => simp [intOf]; omega
        · obtain rfl : k = cs.length := by omega
          have hkk : ¬ (cs.length : Int) < (cs.length : Int) := by omega
          rw [List.take_length] at hown
          have HC := Lib.hid (HF.out wr hbw 0)
          have hA3 : Below w.heap.size w wr := hA2.trans (hbw.mono hA2.size)
          have hz4 := hx4.below hbw
          clear HI HF hx4 hbw hA2
          go_wp2_with fail
          refine HC.out.mono ?_
          rintro e w2 ⟨rfl, hb2⟩
          have hown2 := own_belowN hown hb2 (Nat.le_refl _)
          rw [← HCS.out] at hown2 hlen
          have HM := Lib.hid (Make_own rt rg hown2 hlen)
          obtain ⟨pr, cr, hr⟩ : ∃ p c, u7 = .slice p (flX t g cs).length c := by
            rcases hown.2 with ⟨h, h0⟩ | ⟨gg, cap, _, h, _⟩
            · exact ⟨none, 0, by rw [h, h0]⟩
            · exact ⟨_, _, h⟩
          subst hr
          clear hown hown2 HC
          go_wp2_with (go_at_call 48; refine HM.out.mono ?_; rintro e w3 ⟨x, rfl, hb3, hR3⟩; refine Hid.out ?_)
          refine Lib.hid ?_
          have hb23 : Below wr.heap.size wr w3 := hb2.trans (hb3.mono hb2.size)
          obtain ⟨z4, z40, z41, z4f⟩ := hz4.below hb23
          have hws : w.heap.size + 1 + 1 < w2.heap.size := Nat.lt_of_lt_of_le hz4.lt hb2.size
          obtain ⟨s3, rfl, hRw⟩ := hR3
          obtain ⟨p3, c3, rfl, _, _⟩ := id hRw.out
          have HRw := Lib.hid hRw
          have HB := Lib.hid (hA3.trans (hb23.mono hA3.size))
          clear HM hRw hb23 hb3 hb2 hA3 hz4
          go_wp2
          refine bodyPost_ret (by simp [results, Try.results21, go_sem, z40, z41]; rfl) rfl ⟨_, rfl, ?_, ?_⟩
          · exact (HB.out.setCell (p := ⟨w.heap.size + 1 + 1, 0, none⟩) (by simp <;> omega) _).setCell (p := ⟨w.heap.size + 1 + 1, 1, none⟩) (by simp <;> omega) _
          · exact RV.mono (RV.set (RV.set ⟨_, rfl, HRw.out⟩ (by simp; omega) _) (by simp; omega) _) (by omega)
end Go.Proofs.Ytnjmgholoigpkaa
