/- LabelMakes answers true, for every default and every row of entries that a memory bears, whatever the memory. -/
import Derived.Test.YtibnmiigfiofmaaDoorLives
import Derived.Test.YtibnmiigfiofmaaDoorMakesM
namespace Go.Proofs.YtibnmiigfiofmaaDoor
open Go.RowKit Go.Sort

theorem same_self (d : Int) (xs : List (Int × Int)) : sameS d d xs xs = true := by simp [sameS]
def kD (d : Int) (xs : List (Int × Int)) : Int := if lev d = true then rkD d xs else 0
def kL (d : Int) (xs : List (Int × Int)) : List (Int × Int) := if lev d = true then rkL d xs else []
def kE (d : Int) (xs : List (Int × Int)) : Int := if lev d = true then rkE d xs else 1
theorem kL_len (d : Int) (xs : List (Int × Int)) : (kL d xs).length ≤ 16 := by
  unfold kL rkL fitL
  repeat (split <;> try simp)
  assumption
theorem Make_all (d : Int) (xs : List (Int × Int)) (hm : xs.length ≤ 8796093021952) (b cap : Nat) (W : World) (hc : CatsAt W (some ⟨b, 0, none⟩) xs) :
    Calls Tryd.prog 18 #[.int .i64 d, .slice (some ⟨b, 0, none⟩) xs.length cap] W fun e w' => ∃ p c, e = .returned (.tuple #[.agg #[.int .i64 (kD d xs), .slice p (kL d xs).length c], .int .i64 (kE d xs)]) ∧ CatsAt w' p (kL d xs) ∧ Below W.heap.size W w' := by
  by_cases hl : lev d = true
  · by_cases ha : (xs.any fun x => !can x) = true
    · refine (Make_bad d (some ⟨b, 0, none⟩) cap xs W hl ha (by unfold maxLen; omega) hc).mono ?_
      rintro e w' ⟨rfl, hb⟩
      exact ⟨none, 0, by simp [kD, kL, kE, hl, rkD, rkL, rkE, ha], fun j hj => by simp [kL, hl, rkL, ha] at hj, hb⟩
    · have ha' : (xs.any fun x => !can x) = false := by simpa using ha
      refine (Make_gen d b 0 cap xs W hl ha' hm hc).mono ?_
      rintro e w' ⟨v, zs, hp, hs, rfl, hR, hb⟩
      obtain ⟨e1, e2, e3⟩ := makes_eq d ha' hp hs
      rw [e1, e3]
      rw [e2] at hR
      obtain ⟨p, c, rfl, hc', _⟩ := hR.out
      refine ⟨p, c, by simp [kD, kL, kE, hl], by simp only [kL, hl, if_true]; exact hc', hb⟩
  · refine (Make_nolev d _ W (by simpa using hl)).mono ?_
    rintro e w' ⟨rfl, hb⟩
    exact ⟨none, 0, by simp [kD, kL, kE, hl], fun j hj => by simp [kL, hl] at hj, hb⟩
theorem rMake_nolev (d : Int) (v : Value) (w : World) (hl : lev d = false) :
    Calls Tryd.prog 19 #[.int .i64 d, v] w fun e w' => e = .returned (.tuple #[.agg #[.int .i64 0, .slice none 0 0], .int .i64 1]) ∧ Below w.heap.size w w' := by
  go_enter Tryd.func19, Tryd.ntmps19
  go_wp2_with (go_at_call 44; refine (Level_any _ _).mono ?_; rintro e w' ⟨rfl, rfl⟩)
  refine bodyPost_ret (by simp [results, Tryd.results19, go_sem]) rfl ⟨rfl, by go_grown⟩
theorem rMake_all (d : Int) (xs : List (Int × Int)) (hm : xs.length ≤ 8796093021952) (p : Option Addr) (cap : Nat) (hcap : xs.length ≤ cap) (W : World) (hc : CatsAt W p xs) :
    Calls Tryd.prog 19 #[.int .i64 d, .slice p xs.length cap] W fun e w' => ∃ p c, e = .returned (.tuple #[.agg #[.int .i64 (kD d xs), .slice p (kL d xs).length c], .int .i64 (kE d xs)]) ∧ CatsAt w' p (kL d xs) ∧ Below W.heap.size W w' := by
  by_cases hl : lev d = true
  · refine (rMake_any d p cap xs W hl hm hcap hc).mono ?_
    rintro e w' ⟨v, rfl, hR, hb⟩
    obtain ⟨p, c, rfl, hc', _⟩ := hR.out
    exact ⟨p, c, by simp [kD, kL, kE, hl], by simp only [kL, hl, if_true]; exact hc', hb⟩
  · refine (rMake_nolev d _ W (by simpa using hl)).mono ?_
    rintro e w' ⟨rfl, hb⟩
    exact ⟨none, 0, by simp [kD, kL, kE, hl], fun j hj => by simp [kL, hl] at hj, hb⟩
theorem flat_cells_any {w : World} {a : Addr} {xs : List (Int × Int)} (h : CatsAt w (some a) xs) : ∀ j u, (flat xs)[j]? = some u → w.cell? (a.add j) = some u := by
  cases xs with
  | nil => intro j u hu; simp [flat] at hu
  | cons x xs =>
    obtain ⟨b, off, e, _⟩ := h 0 (by simp)
    cases e
    exact flat_cells h
theorem cats_prefix {w : World} {p : Option Addr} {xs ys : List (Int × Int)} (h : CatsAt w p (xs ++ ys)) : CatsAt w p xs := fun j hj => by
  obtain ⟨b, off, e, hb, c0, c1⟩ := h j (by simp; omega)
  rw [List.getElem_append_left hj] at c0 c1
  exact ⟨b, off, e, hb, c0, c1⟩

set_option maxRecDepth 100000 in
set_option maxHeartbeats 8000000 in
theorem LabelMakes_any (d : Int) (p : Option Addr) (cap : Nat) (xs : List (Int × Int)) (w : World) (hm : xs.length ≤ 8796093021952) (hcap : xs.length ≤ cap) (hpn : p = none → cap = 0) (hc : CatsAt w p xs) :
    Calls Tryd.prog 4 #[.int .i64 d, .slice p xs.length cap] w fun e w' => e = .returned (.bool true) ∧ Below w.heap.size w w' := by
  obtain ⟨i0, hi, hz0, hz1, hz2⟩ := info_parts info30
  have hL := lives_any w
  have ma : xs.length ≤ maxLen := by unfold maxLen; omega
  obtain ⟨fd, hfd⟩ : ∃ d', d' = kD d xs := ⟨_, rfl⟩
  obtain ⟨fl, hfl⟩ : ∃ l, l = kL d xs := ⟨_, rfl⟩
  obtain ⟨fe, hfe⟩ : ∃ e, e = kE d xs := ⟨_, rfl⟩
  have hfl16 : fl.length ≤ maxLen := by rw [hfl]; have := kL_len d xs; unfold maxLen; omega
  have H18 : Hid (∀ b cap W, CatsAt W (some ⟨b, 0, none⟩) xs → Calls Tryd.prog 18 #[.int .i64 d, .slice (some ⟨b, 0, none⟩) xs.length cap] W fun e w' => ∃ p c, e = .returned (.tuple #[.agg #[.int .i64 fd, .slice p fl.length c], .int .i64 fe]) ∧ CatsAt w' p fl ∧ Below W.heap.size W w') := fun b cap W h => by rw [hfd, hfl, hfe]; exact Make_all d xs (by omega) b cap W h
  have H19 : Hid (∀ W, CatsAt W p xs → Calls Tryd.prog 19 #[.int .i64 d, .slice p xs.length cap] W fun e w' => ∃ p c, e = .returned (.tuple #[.agg #[.int .i64 fd, .slice p fl.length c], .int .i64 fe]) ∧ CatsAt w' p fl ∧ Below W.heap.size W w') := fun W h => by rw [hfd, hfl, hfe]; exact rMake_all d xs (by omega) p cap hcap W h
  have sF := same_self fd fl
  clear hfd hfl hfe
  have hone : Hid (∀ u ∈ [Value.int .i64 (-7), Value.int .i64 0], u.oneCell' = true) := fun x hx => by simp at hx; rcases hx with rfl | rfl <;> rfl
  have hgE := guardE
  have h63 : 0 + xs.length ≤ maxLen := by unfold maxLen; omega
  have hby : (0 + xs.length) * 16 ≤ 140737488355328 := by omega
  have h63b : 0 + xs.length + 1 ≤ maxLen := by unfold maxLen; omega
  have hbyb : (0 + xs.length + 1) * 16 ≤ 140737488355328 := by omega
  go_enter Tryd.func4, Tryd.ntmps4
  go_wp2_with (go_at_call 9; refine hL.mono ?_; rintro e w1 ⟨rfl, hb1⟩; refine Hid.out ?_)
  refine Lib.hid ?_
  clear hL
  have hOwn0 : (w1.alloc (.cells #[] 30)).ownsRow w1.heap.size 30 2 (.slice (some ⟨w1.heap.size, 0, none⟩) 0 0) 0 [] := World.ownsRow_lit (base := w1.heap.size) (e := 30) (size := 2) w1 #[] 0 (Nat.le_refl _) (by decide) rfl
  have hBl : Below w1.heap.size w1 (w1.alloc (.cells #[] 30)) := (Below.refl _ _).alloc (Nat.le_refl _) _
  have hc1 := hc.below hb1
  cases p with
  | none =>
    obtain rfl : cap = 0 := hpn rfl
    obtain rfl : xs = [] := List.eq_nil_of_length_eq_zero (by omega)
    clear hpn
    have hown4A := hOwn0.alloc (.cells #[.int .i64 (-7), .int .i64 0] 30)
    have HN2 : Hid (∀ j u, [Value.int .i64 (-7), Value.int .i64 0][j]? = some u → ((w1.alloc (.cells #[] 30)).alloc (.cells #[.int .i64 (-7), .int .i64 0] 30)).cell? ((⟨w1.heap.size + 1, 0, none⟩ : Addr).add j) = some u) := by
      have := cell_two_new (w1.alloc (.cells #[] 30)) (.int .i64 (-7)) (.int .i64 0) 30
      simp only [World.size_alloc] at this
      exact this
    go_wp2_with (at_builtin; refine wpList_append_own _ rfl _ _ 22 rfl w1.heap.size 30 i0 (.agg #[.int .i64 0, .int .i64 0]) 2 16 Tryd.underlying22 hi hz0 hz1 hz2 rfl (by decide) _ _ _ rfl hown4A ⟨w1.heap.size + 1, 0, none⟩ 1 1 [.int .i64 (-7), .int .i64 0] rfl rfl HN2.out hone.out h63b hbyb (by simp; omega) ?_; intro v5 w5 hown5 hgrow5 hnil5; refine Hid.out ?_)
    refine Lib.hid ?_
    have hb5 : Below w1.heap.size w1 w5 := Below.grown ((hBl.alloc (by simp) _)) hgrow5 (by simp; omega) (fun j hj => (hown4A.lt _ hj).1)
    obtain ⟨g', cap', rfl⟩ := ownsRow_succ hown5
    have hown6 : w5.ownsRow w1.heap.size 30 2 (.slice (some ⟨g', 0, none⟩) (([] : List (Int × Int)).length + 1) cap') (([] : List (Int × Int)) ++ [(-7, 0)]).length (flat (([] : List (Int × Int)) ++ [(-7, 0)])) := by simpa [flat, flat_append] using hown5
    clear hown5 hown4A hgrow5 hnil5 HN2 hOwn0
    obtain ⟨po, co, eo, hco', hlo⟩ := own_out hown6
    have hco : CatsAt w5 (some ⟨g', 0, none⟩) (([] : List (Int × Int)) ++ [(-7, 0)]) := by
      rw [Value.slice.injEq] at eo
      obtain ⟨rfl, _, _⟩ := eo
      exact hco'
    have hcap6 : ([] : List (Int × Int)).length + 1 ≤ cap' := by
      rcases hown6.2 with ⟨h, _⟩ | ⟨_, _, _, h, _, _, h3, _⟩
      · rw [Value.slice.injEq] at h; exact absurd h.1 (by simp)
      · rw [Value.slice.injEq] at h
        obtain ⟨_, _, rfl⟩ := h
        simpa using h3
    have hg5 : g' < w5.heap.size := (hown6.lt g' rfl).2
    have hcx := cats_prefix hco
    have hlast : w5.cell? ⟨g', ([] : List (Int × Int)).length * 2, none⟩ = some (.int .i64 (-7)) := by
      obtain ⟨b', off', e', _, l0, _⟩ := hco ([] : List (Int × Int)).length (by simp)
      cases e'
      simpa using l0
    have hcat5 := hc1.below hb5
    have hB5 : Below w.heap.size w w5 := hb1.trans (hb5.mono hb1.size)
    have hnc : (([] : List (Int × Int)).length : Int) ≤ (cap' : Int) := by omega
    have hn0 : (0 : Int) ≤ (([] : List (Int × Int)).length : Int) := by omega
    have hn1 : (([] : List (Int × Int)).length : Int) < (([] : List (Int × Int)).length : Int) + 1 := by omega
    clear hco hco' eo hlo hown6 hb5 hc1 hBl hc
    go_wp2_with (go_at_call 18; refine Calls.mono (H18.out g' cap' _ hcx) ?_; rintro e w6 ⟨p6, c6, rfl, hc6, hb6⟩; refine Hid.out ?_)
    refine Lib.hid ?_
    obtain ⟨X6, hX6⟩ : ∃ X, X = w6.alloc (.cells #[.int .i64 fd, .slice p6 fl.length c6] 24) := ⟨_, rfl⟩
    have hbX6 : Below w6.heap.size w6 X6 := by rw [hX6]; exact (Below.refl _ _).alloc (Nat.le_refl _) _
    have hzX6 : X6.heap.size = w6.heap.size + 1 := by rw [hX6]; simp
    have k60 : X6.cell? ⟨w6.heap.size, 0, none⟩ = some (.int .i64 fd) := by rw [hX6]; simp [go_sem]
    have k61 : X6.cell? ⟨w6.heap.size, 1, none⟩ = some (.slice p6 fl.length c6) := by rw [hX6]; simp [go_sem]
    have h5X6 : Below w5.heap.size w5 X6 := hb6.trans (hbX6.mono hb6.size)
    have hcX6 : CatsAt X6 p6 fl := hc6.below hbX6
    go_wp2_with (go_at_call 19; rw [← hX6]; refine Calls.mono (H19.out _ (hcat5.below h5X6)) ?_; rintro e w7 ⟨p7, c7, rfl, hc7, hb7⟩; refine Hid.out ?_)
    refine Lib.hid ?_
    clear hX6
    obtain ⟨X7, hX7⟩ : ∃ X, X = w7.alloc (.cells #[.int .i64 fd, .slice p7 fl.length c7] 24) := ⟨_, rfl⟩
    have hbX7 : Below w7.heap.size w7 X7 := by rw [hX7]; exact (Below.refl _ _).alloc (Nat.le_refl _) _
    have hzX7 : X7.heap.size = w7.heap.size + 1 := by rw [hX7]; simp
    have k70 : X7.cell? ⟨w7.heap.size, 0, none⟩ = some (.int .i64 fd) := by rw [hX7]; simp [go_sem]
    have k71 : X7.cell? ⟨w7.heap.size, 1, none⟩ = some (.slice p7 fl.length c7) := by rw [hX7]; simp [go_sem]
    have hcX7 : CatsAt X7 p7 fl := hc7.below hbX7
    have h67 : Below X6.heap.size X6 X7 := hb7.trans (hbX7.mono hb7.size)
    have y60 := (hb7.cell (p := ⟨w6.heap.size, 0, none⟩) (by simp; omega)).trans k60
    have y61 := (hb7.cell (p := ⟨w6.heap.size, 1, none⟩) (by simp; omega)).trans k61
    have z67 : w6.heap.size < w7.heap.size := by have := hb7.size; omega
    have hS := Same_any fd fd p6 p7 c6 c7 fl fl X7 hfl16 hfl16 (hcX6.below h67) hcX7
    rw [sF] at hS
    have h5X7 : Below w5.heap.size w5 X7 := h5X6.trans (h67.mono h5X6.size)
    clear H18 H19 hc6 hc7 hcX6 hcX7 hb6 hbX6
    go_wp2_with (go_at_call 20; rw [← hX7]; refine hS.mono ?_; rintro e w8 ⟨rfl, hb8⟩; refine Hid.out ?_)
    refine Lib.hid ?_
    clear hX7 hS k60 k61 k70 k71 y60 y61
    have h58 : Below w5.heap.size w5 w8 := h5X7.trans (hb8.mono h5X7.size)
    have hl8 := (h58.cell (p := ⟨g', ([] : List (Int × Int)).length * 2, none⟩) hg5).trans hlast
    have hcx8 := hcx.below h58
    have hcat8 := hcat5.below h58
    have hB8 : Below w.heap.size w w8 := hB5.trans (h58.mono hB5.size)
    clear hb8 h58 hlast hcx hcat5
    simp only [List.length_nil, Nat.zero_mul] at hl8
    go_wp2
    go_loopw [54] (fun i wr => i = .int .i64 0 ∧ Below w8.heap.size w8 wr) (fun _ _ => 0)
    case atStart => exact ⟨rfl, Below.refl _ _⟩
    case round =>
      obtain ⟨rfl, hbw⟩ := hrel
      go_wp2
      go_ret
      exact ⟨rfl, hB8.trans (hbw.mono hB8.size)⟩
  | some a =>
    have HN : Hid (∀ j u, (flat xs)[j]? = some u → (w1.alloc (.cells #[] 30)).cell? (a.add j) = some u) := flat_cells_any (hc1.below hBl)
    go_wp2_with (at_builtin; refine wpList_append_own _ rfl _ _ 22 rfl w1.heap.size 30 i0 (.agg #[.int .i64 0, .int .i64 0]) 2 16 Tryd.underlying22 hi hz0 hz1 hz2 rfl (by decide) _ _ _ rfl hOwn0 a xs.length cap (flat xs) rfl (flat_length xs) HN.out (flat_one' xs) h63 hby (by simp) ?_; intro v4 w4 hown4 hgrow4 hnil4; refine Hid.out ?_)
    refine Lib.hid ?_
    have hb4 : Below w1.heap.size w1 w4 := Below.grown hBl hgrow4 (by simp) (fun j hj => (hOwn0.lt _ hj).1)
    have hz4 : w1.heap.size + 1 ≤ w4.heap.size := by have := hgrow4.size; simp at this; omega
    have hown4A := hown4.alloc (.cells #[.int .i64 (-7), .int .i64 0] 30)
    have HN2 : Hid (∀ j u, [Value.int .i64 (-7), Value.int .i64 0][j]? = some u → (w4.alloc (.cells #[.int .i64 (-7), .int .i64 0] 30)).cell? ((⟨w4.heap.size, 0, none⟩ : Addr).add j) = some u) := cell_two_new w4 (.int .i64 (-7)) (.int .i64 0) 30
    clear hnil4 hgrow4 HN hOwn0
    go_wp2_with (at_builtin; refine wpList_append_own _ rfl _ _ 22 rfl w1.heap.size 30 i0 (.agg #[.int .i64 0, .int .i64 0]) 2 16 Tryd.underlying22 hi hz0 hz1 hz2 rfl (by decide) _ _ _ rfl hown4A ⟨w4.heap.size, 0, none⟩ 1 1 [.int .i64 (-7), .int .i64 0] rfl rfl HN2.out hone.out h63b hbyb (by simp; omega) ?_; intro v5 w5 hown5 hgrow5 hnil5; refine Hid.out ?_)
    refine Lib.hid ?_
    have hb5 : Below w1.heap.size w1 w5 := Below.grown (hb4.alloc (by omega) _) hgrow5 (by simp; omega) (fun j hj => (hown4A.lt _ hj).1)
    obtain ⟨g', cap', rfl⟩ := ownsRow_succ hown5
    have hown6 : w5.ownsRow w1.heap.size 30 2 (.slice (some ⟨g', 0, none⟩) (xs.length + 1) cap') (xs ++ [(-7, 0)]).length (flat (xs ++ [(-7, 0)])) := by simpa [flat, flat_append] using hown5
    clear hown5 hown4A hgrow5 hnil5 HN2 hown4
    obtain ⟨po, co, eo, hco', hlo⟩ := own_out hown6
    have hco : CatsAt w5 (some ⟨g', 0, none⟩) (xs ++ [(-7, 0)]) := by
      rw [Value.slice.injEq] at eo
      obtain ⟨rfl, _, _⟩ := eo
      exact hco'
    have hcap6 : xs.length + 1 ≤ cap' := by
      rcases hown6.2 with ⟨h, _⟩ | ⟨_, _, _, h, _, _, h3, _⟩
      · rw [Value.slice.injEq] at h; exact absurd h.1 (by simp)
      · rw [Value.slice.injEq] at h
        obtain ⟨_, _, rfl⟩ := h
        simpa using h3
    have hg5 : g' < w5.heap.size := (hown6.lt g' rfl).2
    have hcx := cats_prefix hco
    have hlast : w5.cell? ⟨g', xs.length * 2, none⟩ = some (.int .i64 (-7)) := by
      obtain ⟨b', off', e', _, l0, _⟩ := hco xs.length (by simp)
      cases e'
      simpa using l0
    have hcat5 := hc1.below hb5
    have hB5 : Below w.heap.size w w5 := hb1.trans (hb5.mono hb1.size)
    have hnc : (xs.length : Int) ≤ (cap' : Int) := by omega
    have hn0 : (0 : Int) ≤ (xs.length : Int) := by omega
    have hn1 : (xs.length : Int) < (xs.length : Int) + 1 := by omega
    clear hco hco' eo hlo hown6 hb5 hc1 hBl hc
    go_wp2_with (go_at_call 18; refine Calls.mono (H18.out g' cap' _ hcx) ?_; rintro e w6 ⟨p6, c6, rfl, hc6, hb6⟩; refine Hid.out ?_)
    refine Lib.hid ?_
    obtain ⟨X6, hX6⟩ : ∃ X, X = w6.alloc (.cells #[.int .i64 fd, .slice p6 fl.length c6] 24) := ⟨_, rfl⟩
    have hbX6 : Below w6.heap.size w6 X6 := by rw [hX6]; exact (Below.refl _ _).alloc (Nat.le_refl _) _
    have hzX6 : X6.heap.size = w6.heap.size + 1 := by rw [hX6]; simp
    have k60 : X6.cell? ⟨w6.heap.size, 0, none⟩ = some (.int .i64 fd) := by rw [hX6]; simp [go_sem]
    have k61 : X6.cell? ⟨w6.heap.size, 1, none⟩ = some (.slice p6 fl.length c6) := by rw [hX6]; simp [go_sem]
    have h5X6 : Below w5.heap.size w5 X6 := hb6.trans (hbX6.mono hb6.size)
    have hcX6 : CatsAt X6 p6 fl := hc6.below hbX6
    go_wp2_with (go_at_call 19; rw [← hX6]; refine Calls.mono (H19.out _ (hcat5.below h5X6)) ?_; rintro e w7 ⟨p7, c7, rfl, hc7, hb7⟩; refine Hid.out ?_)
    refine Lib.hid ?_
    clear hX6
    obtain ⟨X7, hX7⟩ : ∃ X, X = w7.alloc (.cells #[.int .i64 fd, .slice p7 fl.length c7] 24) := ⟨_, rfl⟩
    have hbX7 : Below w7.heap.size w7 X7 := by rw [hX7]; exact (Below.refl _ _).alloc (Nat.le_refl _) _
    have hzX7 : X7.heap.size = w7.heap.size + 1 := by rw [hX7]; simp
    have k70 : X7.cell? ⟨w7.heap.size, 0, none⟩ = some (.int .i64 fd) := by rw [hX7]; simp [go_sem]
    have k71 : X7.cell? ⟨w7.heap.size, 1, none⟩ = some (.slice p7 fl.length c7) := by rw [hX7]; simp [go_sem]
    have hcX7 : CatsAt X7 p7 fl := hc7.below hbX7
    have h67 : Below X6.heap.size X6 X7 := hb7.trans (hbX7.mono hb7.size)
    have y60 := (hb7.cell (p := ⟨w6.heap.size, 0, none⟩) (by simp; omega)).trans k60
    have y61 := (hb7.cell (p := ⟨w6.heap.size, 1, none⟩) (by simp; omega)).trans k61
    have z67 : w6.heap.size < w7.heap.size := by have := hb7.size; omega
    have hS := Same_any fd fd p6 p7 c6 c7 fl fl X7 hfl16 hfl16 (hcX6.below h67) hcX7
    rw [sF] at hS
    have h5X7 : Below w5.heap.size w5 X7 := h5X6.trans (h67.mono h5X6.size)
    clear H18 H19 hc6 hc7 hcX6 hcX7 hb6 hbX6
    go_wp2_with (go_at_call 20; rw [← hX7]; refine hS.mono ?_; rintro e w8 ⟨rfl, hb8⟩; refine Hid.out ?_)
    refine Lib.hid ?_
    clear hX7 hS k60 k61 k70 k71 y60 y61
    have h58 : Below w5.heap.size w5 w8 := h5X7.trans (hb8.mono h5X7.size)
    have hl8 := (h58.cell (p := ⟨g', xs.length * 2, none⟩) hg5).trans hlast
    have hcx8 := hcx.below h58
    have hcat8 := hcat5.below h58
    have hB8 : Below w.heap.size w w8 := hB5.trans (h58.mono hB5.size)
    clear hb8 h58 hlast hcx hcat5
    go_wp2
    go_loopw [54] (fun i wr => ∃ k : Nat, k ≤ xs.length ∧ i = .int .i64 k ∧ Below w8.heap.size w8 wr) (fun i _ => xs.length - (intOf i).toNat)
    case atStart => exact ⟨0, Nat.zero_le _, rfl, Below.refl _ _⟩
    case round =>
      obtain ⟨k, hk, rfl, hbw⟩ := hrel
      by_cases hlt : k < xs.length
      · obtain ⟨b1, o1, he1, _, d0, d1⟩ := hcx8.get hbw (Below.refl _ _) (Nat.le_refl _) k hlt
        obtain ⟨b2, o2, he2, _, e0, e1⟩ := hcat8.get hbw (Below.refl _ _) (Nat.le_refl _) k hlt
        simp only [Option.some.injEq, Addr.mk.injEq, and_true] at he1
        obtain ⟨rfl, rfl⟩ := he1
        rw [Nat.zero_add] at d0 d1
        have hki : (k : Int) < (xs.length : Int) := by omega
        have hki1 : (k : Int) < (xs.length : Int) + 1 := by omega
        have hk0 : (0 : Int) ≤ (k : Int) := by omega
        rw [he2]
        clear hcx8 hcat8
        go_wp2
        go_quiet (fail)
        go_wp2
        go_roundw
        case rel => exact ⟨k + 1, by omega, by go_num, bdn hbw _⟩
        case measure => simp [intOf]; omega
      · go_wp2
        go_ret
        exact ⟨rfl, hB8.trans (hbw.mono hB8.size)⟩
end Go.Proofs.YtibnmiigfiofmaaDoor
