/- Both kinds of rooms tell the same: told of the laws answers true. -/
import Derived.Test.YthknnmllibdggaaOps8
namespace Go.Proofs.Ythknnmllibdggaa
open Go.RowKit Go.Sort
set_option maxRecDepth 100000 in
set_option maxHeartbeats 8000000 in
theorem told_any (w : World) (rb qb : Nat) (F G : Nat → Prop) (all : List Who) (al : Int → List Int) (ra rl : List Who) (N : Nat) (h : PS w rb qb F G all al ra rl N) (hN : N < 700000) (kd th sg of cd : Int) (ith : i64 th) (isg : i64 sg) (iof : i64 of) :
    Calls Try.prog 13 #[pv rb, pv qb, .agg #[.int .i64 kd, .int .i64 th, .int .i64 sg, .int .i64 of, .int .i64 cd]] w fun e w' => e = .returned (.bool true) ∧ Below w.heap.size w w' := by
  have HH := Lib.hid h
  obtain ⟨W1, hW1⟩ : ∃ W1, w.alloc (.cells #[.int .i64 kd, .int .i64 th, .int .i64 sg, .int .i64 of, .int .i64 cd] 33) = W1 := ⟨_, rfl⟩
  have b1 : Below w.heap.size w W1 := by rw [← hW1]; exact (Below.refl _ _).alloc (Nat.le_refl _) _
  have hO : W1.heap[w.heap.size]? = some (.cells #[.int .i64 kd, .int .i64 th, .int .i64 sg, .int .i64 of, .int .i64 cd] 33 (0, 0)) := by rw [← hW1]; exact heap_new _ _
  have d1 : W1.cell? ⟨w.heap.size, 1, none⟩ = some (.int .i64 th) := by rw [cell_of_row _ _ _ _ _ _ hO]; rfl
  have h1 := h.below b1
  have hWh := Where_any W1 rb F all al N th ith h1.rm
  rw [h.lk.whr] at hWh
  have HO := Lib.hid hO
  have HB1 := Lib.hid b1
  have hln := h.rf.lenA
  have hll := h.rf.lenL
  have hla := h.rm.len
  have hEq := h.lk.len
  clear h hO b1
  by_cases hw : waitsA ra th = true
  · obtain ⟨m, hm, he, hno, hwh⟩ := waits_yes hw
    rw [hwh] at hWh
    have HWh := Lib.hid (show Calls _ _ _ _ fun e w' => e = .returned (.tuple #[.int .i64 ra[m].2.1, .int .i64 ra[m].2.2, .bool true]) ∧ _ from hWh)
    have HAt := Lib.hid (fun X hX => rAt_yes X qb G ra rl N th ((HH.out.rf.below hX)) (by omega) m hm he hno)
    obtain ⟨xs, hxs⟩ : ∃ xs, ra[m].2.1 = xs := ⟨_, rfl⟩
    obtain ⟨xo, hxo⟩ : ∃ xo, ra[m].2.2 = xo := ⟨_, rfl⟩
    rw [hxs, hxo] at HWh
    have HXS := Lib.hid hxs
    have HXO := Lib.hid hxo
    have hmi : (0 : Int) ≤ (m : Int) := by omega
    have hml : (m : Int) < (ra.length : Int) := by omega
    clear hw he hno hwh hWh h1 hxs hxo
    go_enter Try.func13, Try.ntmps13
    go_wp2_with (go_at_call 22; refine HWh.out.mono ?_; rintro e w2 ⟨rfl, hb2⟩; refine Hid.out ?_)
    refine Lib.hid ?_
    have hB2 : Below w.heap.size w w2 := HB1.out.trans (hb2.mono HB1.out.size)
    have hO2 : w2.heap[w.heap.size]? = _ := (hb2.block _ (heap_lt HO.out)).trans HO.out
    have d2 : w2.cell? ⟨w.heap.size, 1, none⟩ = some (.int .i64 th) := by rw [cell_of_row _ _ _ _ _ _ hO2]; rfl
    have HAt2 := Lib.hid (HAt.out w2 hB2)
    have HB2 := Lib.hid hB2
    have HO2 := Lib.hid hO2
    clear hb2 hB2 hO2 HWh HAt
    go_wp2_with (go_at_call 36; refine HAt2.out.mono ?_; rintro e w3 ⟨rfl, hb3⟩; refine Hid.out ?_)
    refine Lib.hid ?_
    have hB3 : Below w.heap.size w w3 := HB2.out.trans (hb3.mono HB2.out.size)
    have hO3 : w3.heap[w.heap.size]? = _ := (hb3.block _ (heap_lt HO2.out)).trans HO2.out
    obtain ⟨v1, v2, hq3, ho1, _, _, _⟩ := (HH.out.rf.below hB3).rows
    obtain ⟨sp1, cp1, rfl⟩ := row_form ho1
    obtain ⟨g, rfl, hgl, e0, e1, e2⟩ := ho1.at_ (Below.refl _ _) hm
    rw [HXS.out] at e1
    rw [HXO.out] at e2
    have q0 : w3.cell? ⟨qb, 0, none⟩ = some (.slice (some ⟨g, 0, none⟩) ra.length cp1) := by rw [cell_of_row _ _ _ _ _ _ hq3]; rfl
    have HQ3 := Lib.hid hq3
    have HB3 := Lib.hid hB3
    have HO3 := Lib.hid hO3
    clear hb3 hB3 hO3 HAt2 e0 ho1 hq3
    go_wp2_with fail
    have cW : ∀ X, Below w3.heap.size w3 X → X.cell? ⟨qb, 0, none⟩ = some (.slice (some ⟨g, 0, none⟩) ra.length cp1) ∧ X.cell? ⟨w.heap.size, 1, none⟩ = some (.int .i64 th) ∧ X.cell? ⟨w.heap.size, 2, none⟩ = some (.int .i64 sg) ∧ X.cell? ⟨w.heap.size, 3, none⟩ = some (.int .i64 of) := fun X hX =>
      ⟨(hX.cell (p := ⟨qb, 0, none⟩) (heap_lt HQ3.out)).trans q0, (hX.cell (p := ⟨w.heap.size, 1, none⟩) (heap_lt HO3.out)).trans (by rw [cell_of_row _ _ _ _ _ _ HO3.out]; rfl), (hX.cell (p := ⟨w.heap.size, 2, none⟩) (heap_lt HO3.out)).trans (by rw [cell_of_row _ _ _ _ _ _ HO3.out]; rfl), (hX.cell (p := ⟨w.heap.size, 3, none⟩) (heap_lt HO3.out)).trans (by rw [cell_of_row _ _ _ _ _ _ HO3.out]; rfl)⟩
    have HEQ := Lib.hid hEq
    have HPS : Hid (∀ X, Below w3.heap.size w3 X → PS X rb qb F G all al ra rl N) := fun X hX => HH.out.below (HB3.out.trans (hX.mono HB3.out.size))
    have hL1 := listA_len all sg of
    have hL2 := ofL_len rl th
    clear hEq q0
    refine wp_region_monoT 12 34 (fun kq v X => match kq with | 66 => v = pv rb | 67 => v = .int .i64 (ra.length : Int) | 68 => v = pv qb | 69 => v = .pointer (some ⟨qb, 0, none⟩) | 70 => v = .pointer (some ⟨qb, 0, none⟩) | 71 => v = .slice (some ⟨g, 0, none⟩) ra.length cp1 | 72 => v = .int .i64 (ra.length : Int) | 73 => v = .bool true | 74 => v = .bool true | 75 => v = pv rb | 76 => v = .pointer (some ⟨w.heap.size, 2, none⟩) | 77 => v = .int .i64 sg | 78 => v = .pointer (some ⟨w.heap.size, 3, none⟩) | 79 => v = .int .i64 of | 80 => IRV (listA all sg of) (v) X | 81 => v = pv qb | 82 => v = .pointer (some ⟨w.heap.size, 2, none⟩) | 83 => v = .int .i64 sg | 84 => v = .pointer (some ⟨w.heap.size, 3, none⟩) | 85 => v = .int .i64 of | 86 => IRV (listA all sg of) (v) X | 87 => v = .bool true | 88 => v = .bool true | 89 => v = .bool true | 90 => v = pv rb | 91 => v = .pointer (some ⟨w.heap.size, 1, none⟩) | 92 => v = .int .i64 th | 93 => IRV (al th) (v) X | 94 => v = pv qb | 95 => v = .pointer (some ⟨w.heap.size, 1, none⟩) | 96 => v = .int .i64 th | 97 => IRV (al th) (v) X | 98 => v = .bool true | 99 => v = .bool true | _ => True) (by kernel_rfl) (by kernel_rfl) (by kernel_rfl) (by kernel_rfl) (by simp) (by kernel_rfl) ?_ ?_ ?_
    · intro kq v W W' h hb
      revert h
      try dsimp only
      split
      · intro h; exact h
      · intro h; exact h
      · intro h; exact h
      · intro h; exact h
      · intro h; exact h
      · intro h; exact h
      · intro h; exact h
      · intro h; exact h
      · intro h; exact h
      · intro h; exact h
      · intro h; exact h
      · intro h; exact h
      · intro h; exact h
      · intro h; exact h
      · intro h; exact h.below hb
      · intro h; exact h
      · intro h; exact h
      · intro h; exact h
      · intro h; exact h
      · intro h; exact h
      · intro h; exact h.below hb
      · intro h; exact h
      · intro h; exact h
      · intro h; exact h
      · intro h; exact h
      · intro h; exact h
      · intro h; exact h
      · intro h; exact h.below hb
      · intro h; exact h
      · intro h; exact h
      · intro h; exact h
      · intro h; exact h.below hb
      · intro h; exact h
      · intro h; exact h
      · intro h; trivial
    · intro a' X hB hs hk i o d ho hd hG
      match i, ho with
      | 0, ho =>
        obtain rfl : _ = o := Option.some.inj ho
        obtain rfl : 66 = d := Option.some.inj hd
        have g0 : a'.eval (.tmp 0) = pv rb := hk 0 (by kernel_rfl)
        obtain ⟨ev, hev⟩ : ∃ ev, a'.eval = ev := ⟨_, rfl⟩
        rw [hev] at g0 ⊢
        clear hev hG hk
        obtain ⟨c0, c1, c2, c3⟩ := cW X hB
        exact .inr ⟨rfl, .inl ⟨pv rb, X, by clear hs; go_simp, Below.refl _ _, rfl⟩⟩
      | 1, ho =>
        obtain rfl : _ = o := Option.some.inj ho
        obtain rfl : 67 = d := Option.some.inj hd
        have g66 : a'.eval (.tmp 66) = pv rb := hG ⟨0, .data⟩ (by simp) rfl 66 rfl
        refine .inr ⟨rfl, .inr ⟨21, #[pv rb], ?_, ?_⟩⟩
        · have gF : a'.eval (.func 21) = .func (.func 21) #[] #[] := rfl
          obtain ⟨ev, hev⟩ : ∃ ev, a'.eval = ev := ⟨_, rfl⟩
          rw [hev] at gF g66 ⊢
          exact exec_call1 rfl gF g66 (enters_of Try.func21 (by kernel_rfl) rfl)
        exact (Len_any X rb F all al N (HPS.out X hB).rm).mono fun e W' ⟨he, hw⟩ => ⟨_, he, by rw [hw]; exact Below.refl _ _, by show Value.int .i64 (all.length : Int) = .int .i64 (ra.length : Int); rw [HEQ.out]⟩
      | 2, ho =>
        obtain rfl : _ = o := Option.some.inj ho
        obtain rfl : 68 = d := Option.some.inj hd
        have g1 : a'.eval (.tmp 1) = pv qb := hk 1 (by kernel_rfl)
        obtain ⟨ev, hev⟩ : ∃ ev, a'.eval = ev := ⟨_, rfl⟩
        rw [hev] at g1 ⊢
        clear hev hG hk
        obtain ⟨c0, c1, c2, c3⟩ := cW X hB
        exact .inr ⟨rfl, .inl ⟨pv qb, X, by clear hs; go_simp, Below.refl _ _, rfl⟩⟩
      | 3, ho =>
        obtain rfl : _ = o := Option.some.inj ho
        obtain rfl : 69 = d := Option.some.inj hd
        have g68 : a'.eval (.tmp 68) = pv qb := hG ⟨2, .data⟩ (by simp) rfl 68 rfl
        obtain ⟨ev, hev⟩ : ∃ ev, a'.eval = ev := ⟨_, rfl⟩
        rw [hev] at g68 ⊢
        clear hev hG hk
        obtain ⟨c0, c1, c2, c3⟩ := cW X hB
        exact .inr ⟨rfl, .inl ⟨.pointer (some ⟨qb, 0, none⟩), X, by clear hs; go_simp, Below.refl _ _, rfl⟩⟩
      | 4, ho =>
        obtain rfl : _ = o := Option.some.inj ho
        obtain rfl : 70 = d := Option.some.inj hd
        have g69 : a'.eval (.tmp 69) = .pointer (some ⟨qb, 0, none⟩) := hG ⟨3, .data⟩ (by simp) rfl 69 rfl
        obtain ⟨ev, hev⟩ : ∃ ev, a'.eval = ev := ⟨_, rfl⟩
        rw [hev] at g69 ⊢
        clear hev hG hk
        obtain ⟨c0, c1, c2, c3⟩ := cW X hB
        exact .inr ⟨rfl, .inl ⟨.pointer (some ⟨qb, 0, none⟩), X, by clear hs; go_simp, Below.refl _ _, rfl⟩⟩
      | 5, ho =>
        obtain rfl : _ = o := Option.some.inj ho
        obtain rfl : 71 = d := Option.some.inj hd
        have g70 : a'.eval (.tmp 70) = .pointer (some ⟨qb, 0, none⟩) := hG ⟨4, .data⟩ (by simp) rfl 70 rfl
        obtain ⟨ev, hev⟩ : ∃ ev, a'.eval = ev := ⟨_, rfl⟩
        rw [hev] at g70 ⊢
        clear hev hG hk
        obtain ⟨c0, c1, c2, c3⟩ := cW X hB
        exact .inr ⟨rfl, .inl ⟨.slice (some ⟨g, 0, none⟩) ra.length cp1, X, by clear hs; go_simp, Below.refl _ _, rfl⟩⟩
      | 6, ho =>
        obtain rfl : _ = o := Option.some.inj ho
        obtain rfl : 72 = d := Option.some.inj hd
        have g71 : a'.eval (.tmp 71) = .slice (some ⟨g, 0, none⟩) ra.length cp1 := hG ⟨5, .data⟩ (by simp) rfl 71 rfl
        obtain ⟨ev, hev⟩ : ∃ ev, a'.eval = ev := ⟨_, rfl⟩
        rw [hev] at g71 ⊢
        clear hev hG hk
        obtain ⟨c0, c1, c2, c3⟩ := cW X hB
        exact .inr ⟨rfl, .inl ⟨.int .i64 (ra.length : Int), X, by clear hs; go_simp, Below.refl _ _, rfl⟩⟩
      | 7, ho =>
        obtain rfl : _ = o := Option.some.inj ho
        obtain rfl : 73 = d := Option.some.inj hd
        have g67 : a'.eval (.tmp 67) = .int .i64 (ra.length : Int) := hG ⟨1, .data⟩ (by simp) rfl 67 rfl
        have g72 : a'.eval (.tmp 72) = .int .i64 (ra.length : Int) := hG ⟨6, .data⟩ (by simp) rfl 72 rfl
        obtain ⟨ev, hev⟩ : ∃ ev, a'.eval = ev := ⟨_, rfl⟩
        rw [hev] at g67 g72 ⊢
        clear hev hG hk
        obtain ⟨c0, c1, c2, c3⟩ := cW X hB
        exact .inr ⟨rfl, .inl ⟨.bool true, X, by clear hs; go_simp, Below.refl _ _, rfl⟩⟩
      | 8, ho =>
        obtain rfl : _ = o := Option.some.inj ho
        obtain rfl : 74 = d := Option.some.inj hd
        have g73 : a'.eval (.tmp 73) = .bool true := hG ⟨7, .data⟩ (by simp) rfl 73 rfl
        obtain ⟨ev, hev⟩ : ∃ ev, a'.eval = ev := ⟨_, rfl⟩
        rw [hev] at g73 ⊢
        clear hev hG hk
        obtain ⟨c0, c1, c2, c3⟩ := cW X hB
        exact .inr ⟨rfl, .inl ⟨.bool true, X, by clear hs; go_simp, Below.refl _ _, rfl⟩⟩
      | 9, ho =>
        obtain rfl : _ = o := Option.some.inj ho
        obtain rfl : 75 = d := Option.some.inj hd
        have g0 : a'.eval (.tmp 0) = pv rb := hk 0 (by kernel_rfl)
        have gg : a'.eval (.tmp 74) = .bool true := hG ⟨8, .guard⟩ (by simp) rfl 74 rfl
        refine .inr ⟨want_yes (n := 100) (d := 74) rfl hs (by decide) rfl gg, .inl ⟨pv rb, X, ?_, Below.refl _ _, rfl⟩⟩
        obtain ⟨ev, hev⟩ : ∃ ev, a'.eval = ev := ⟨_, rfl⟩
        rw [hev] at g0 ⊢
        clear hev hG hk hs gg
        obtain ⟨c0, c1, c2, c3⟩ := cW X hB
        go_simp
      | 10, ho =>
        obtain rfl : _ = o := Option.some.inj ho
        obtain rfl : 76 = d := Option.some.inj hd
        have g5 : a'.eval (.tmp 5) = .pointer (some ⟨w.heap.size, 0, none⟩) := hk 5 (by kernel_rfl)
        have gg : a'.eval (.tmp 74) = .bool true := hG ⟨8, .guard⟩ (by simp) rfl 74 rfl
        refine .inr ⟨want_yes (n := 100) (d := 74) rfl hs (by decide) rfl gg, .inl ⟨.pointer (some ⟨w.heap.size, 2, none⟩), X, ?_, Below.refl _ _, rfl⟩⟩
        obtain ⟨ev, hev⟩ : ∃ ev, a'.eval = ev := ⟨_, rfl⟩
        rw [hev] at g5 ⊢
        clear hev hG hk hs gg
        obtain ⟨c0, c1, c2, c3⟩ := cW X hB
        go_simp
      | 11, ho =>
        obtain rfl : _ = o := Option.some.inj ho
        obtain rfl : 77 = d := Option.some.inj hd
        have g76 : a'.eval (.tmp 76) = .pointer (some ⟨w.heap.size, 2, none⟩) := hG ⟨10, .data⟩ (by simp) rfl 76 rfl
        have gg : a'.eval (.tmp 74) = .bool true := hG ⟨8, .guard⟩ (by simp) rfl 74 rfl
        refine .inr ⟨want_yes (n := 100) (d := 74) rfl hs (by decide) rfl gg, .inl ⟨.int .i64 sg, X, ?_, Below.refl _ _, rfl⟩⟩
        obtain ⟨ev, hev⟩ : ∃ ev, a'.eval = ev := ⟨_, rfl⟩
        rw [hev] at g76 ⊢
        clear hev hG hk hs gg
        obtain ⟨c0, c1, c2, c3⟩ := cW X hB
        go_simp
      | 12, ho =>
        obtain rfl : _ = o := Option.some.inj ho
        obtain rfl : 78 = d := Option.some.inj hd
        have g5 : a'.eval (.tmp 5) = .pointer (some ⟨w.heap.size, 0, none⟩) := hk 5 (by kernel_rfl)
        have gg : a'.eval (.tmp 74) = .bool true := hG ⟨8, .guard⟩ (by simp) rfl 74 rfl
        refine .inr ⟨want_yes (n := 100) (d := 74) rfl hs (by decide) rfl gg, .inl ⟨.pointer (some ⟨w.heap.size, 3, none⟩), X, ?_, Below.refl _ _, rfl⟩⟩
        obtain ⟨ev, hev⟩ : ∃ ev, a'.eval = ev := ⟨_, rfl⟩
        rw [hev] at g5 ⊢
        clear hev hG hk hs gg
        obtain ⟨c0, c1, c2, c3⟩ := cW X hB
        go_simp
      | 13, ho =>
        obtain rfl : _ = o := Option.some.inj ho
        obtain rfl : 79 = d := Option.some.inj hd
        have g78 : a'.eval (.tmp 78) = .pointer (some ⟨w.heap.size, 3, none⟩) := hG ⟨12, .data⟩ (by simp) rfl 78 rfl
        have gg : a'.eval (.tmp 74) = .bool true := hG ⟨8, .guard⟩ (by simp) rfl 74 rfl
        refine .inr ⟨want_yes (n := 100) (d := 74) rfl hs (by decide) rfl gg, .inl ⟨.int .i64 of, X, ?_, Below.refl _ _, rfl⟩⟩
        obtain ⟨ev, hev⟩ : ∃ ev, a'.eval = ev := ⟨_, rfl⟩
        rw [hev] at g78 ⊢
        clear hev hG hk hs gg
        obtain ⟨c0, c1, c2, c3⟩ := cW X hB
        go_simp
      | 14, ho =>
        obtain rfl : _ = o := Option.some.inj ho
        obtain rfl : 80 = d := Option.some.inj hd
        have g75 : a'.eval (.tmp 75) = pv rb := hG ⟨9, .data⟩ (by simp) rfl 75 rfl
        have g77 : a'.eval (.tmp 77) = .int .i64 sg := hG ⟨11, .data⟩ (by simp) rfl 77 rfl
        have g79 : a'.eval (.tmp 79) = .int .i64 of := hG ⟨13, .data⟩ (by simp) rfl 79 rfl
        have gg : a'.eval (.tmp 74) = .bool true := hG ⟨8, .guard⟩ (by simp) rfl 74 rfl
        refine .inr ⟨want_yes (n := 100) (d := 74) rfl hs (by decide) rfl gg, .inr ⟨23, #[pv rb, .int .i64 sg, .int .i64 of], ?_, ?_⟩⟩
        · have gF : a'.eval (.func 23) = .func (.func 23) #[] #[] := rfl
          obtain ⟨ev, hev⟩ : ∃ ev, a'.eval = ev := ⟨_, rfl⟩
          rw [hev] at gF g75 g77 g79 ⊢
          exact exec_call3 rfl gF g75 g77 g79 (enters_of Try.func23 (by kernel_rfl) rfl)
        exact (List_any X rb F all al N sg of isg iof (HPS.out X hB).rm (by omega)).mono fun e W' ⟨v, he, hr, hb⟩ => ⟨v, he, hb, hr.irv⟩
      | 15, ho =>
        obtain rfl : _ = o := Option.some.inj ho
        obtain rfl : 81 = d := Option.some.inj hd
        have g1 : a'.eval (.tmp 1) = pv qb := hk 1 (by kernel_rfl)
        have gg : a'.eval (.tmp 74) = .bool true := hG ⟨8, .guard⟩ (by simp) rfl 74 rfl
        refine .inr ⟨want_yes (n := 100) (d := 74) rfl hs (by decide) rfl gg, .inl ⟨pv qb, X, ?_, Below.refl _ _, rfl⟩⟩
        obtain ⟨ev, hev⟩ : ∃ ev, a'.eval = ev := ⟨_, rfl⟩
        rw [hev] at g1 ⊢
        clear hev hG hk hs gg
        obtain ⟨c0, c1, c2, c3⟩ := cW X hB
        go_simp
      | 16, ho =>
        obtain rfl : _ = o := Option.some.inj ho
        obtain rfl : 82 = d := Option.some.inj hd
        have g5 : a'.eval (.tmp 5) = .pointer (some ⟨w.heap.size, 0, none⟩) := hk 5 (by kernel_rfl)
        have gg : a'.eval (.tmp 74) = .bool true := hG ⟨8, .guard⟩ (by simp) rfl 74 rfl
        refine .inr ⟨want_yes (n := 100) (d := 74) rfl hs (by decide) rfl gg, .inl ⟨.pointer (some ⟨w.heap.size, 2, none⟩), X, ?_, Below.refl _ _, rfl⟩⟩
        obtain ⟨ev, hev⟩ : ∃ ev, a'.eval = ev := ⟨_, rfl⟩
        rw [hev] at g5 ⊢
        clear hev hG hk hs gg
        obtain ⟨c0, c1, c2, c3⟩ := cW X hB
        go_simp
      | 17, ho =>
        obtain rfl : _ = o := Option.some.inj ho
        obtain rfl : 83 = d := Option.some.inj hd
        have g82 : a'.eval (.tmp 82) = .pointer (some ⟨w.heap.size, 2, none⟩) := hG ⟨16, .data⟩ (by simp) rfl 82 rfl
        have gg : a'.eval (.tmp 74) = .bool true := hG ⟨8, .guard⟩ (by simp) rfl 74 rfl
        refine .inr ⟨want_yes (n := 100) (d := 74) rfl hs (by decide) rfl gg, .inl ⟨.int .i64 sg, X, ?_, Below.refl _ _, rfl⟩⟩
        obtain ⟨ev, hev⟩ : ∃ ev, a'.eval = ev := ⟨_, rfl⟩
        rw [hev] at g82 ⊢
        clear hev hG hk hs gg
        obtain ⟨c0, c1, c2, c3⟩ := cW X hB
        go_simp
      | 18, ho =>
        obtain rfl : _ = o := Option.some.inj ho
        obtain rfl : 84 = d := Option.some.inj hd
        have g5 : a'.eval (.tmp 5) = .pointer (some ⟨w.heap.size, 0, none⟩) := hk 5 (by kernel_rfl)
        have gg : a'.eval (.tmp 74) = .bool true := hG ⟨8, .guard⟩ (by simp) rfl 74 rfl
        refine .inr ⟨want_yes (n := 100) (d := 74) rfl hs (by decide) rfl gg, .inl ⟨.pointer (some ⟨w.heap.size, 3, none⟩), X, ?_, Below.refl _ _, rfl⟩⟩
        obtain ⟨ev, hev⟩ : ∃ ev, a'.eval = ev := ⟨_, rfl⟩
        rw [hev] at g5 ⊢
        clear hev hG hk hs gg
        obtain ⟨c0, c1, c2, c3⟩ := cW X hB
        go_simp
      | 19, ho =>
        obtain rfl : _ = o := Option.some.inj ho
        obtain rfl : 85 = d := Option.some.inj hd
        have g84 : a'.eval (.tmp 84) = .pointer (some ⟨w.heap.size, 3, none⟩) := hG ⟨18, .data⟩ (by simp) rfl 84 rfl
        have gg : a'.eval (.tmp 74) = .bool true := hG ⟨8, .guard⟩ (by simp) rfl 74 rfl
        refine .inr ⟨want_yes (n := 100) (d := 74) rfl hs (by decide) rfl gg, .inl ⟨.int .i64 of, X, ?_, Below.refl _ _, rfl⟩⟩
        obtain ⟨ev, hev⟩ : ∃ ev, a'.eval = ev := ⟨_, rfl⟩
        rw [hev] at g84 ⊢
        clear hev hG hk hs gg
        obtain ⟨c0, c1, c2, c3⟩ := cW X hB
        go_simp
      | 20, ho =>
        obtain rfl : _ = o := Option.some.inj ho
        obtain rfl : 86 = d := Option.some.inj hd
        have g81 : a'.eval (.tmp 81) = pv qb := hG ⟨15, .data⟩ (by simp) rfl 81 rfl
        have g83 : a'.eval (.tmp 83) = .int .i64 sg := hG ⟨17, .data⟩ (by simp) rfl 83 rfl
        have g85 : a'.eval (.tmp 85) = .int .i64 of := hG ⟨19, .data⟩ (by simp) rfl 85 rfl
        have gg : a'.eval (.tmp 74) = .bool true := hG ⟨8, .guard⟩ (by simp) rfl 74 rfl
        refine .inr ⟨want_yes (n := 100) (d := 74) rfl hs (by decide) rfl gg, .inr ⟨37, #[pv qb, .int .i64 sg, .int .i64 of], ?_, ?_⟩⟩
        · have gF : a'.eval (.func 37) = .func (.func 37) #[] #[] := rfl
          obtain ⟨ev, hev⟩ : ∃ ev, a'.eval = ev := ⟨_, rfl⟩
          rw [hev] at gF g81 g83 g85 ⊢
          exact exec_call3 rfl gF g81 g83 g85 (enters_of Try.func37 (by kernel_rfl) rfl)
        exact (rList_any X qb G ra rl N sg of (HPS.out X hB).rf (by omega)).mono fun e W' ⟨v, he, hr, hb⟩ => ⟨v, he, hb, by rw [HH.out.lk.list]; exact hr.irv⟩
      | 21, ho =>
        obtain rfl : _ = o := Option.some.inj ho
        obtain rfl : 87 = d := Option.some.inj hd
        have g80 : IRV (listA all sg of) (a'.eval (.tmp 80)) X := hG ⟨14, .data⟩ (by simp) rfl 80 rfl
        have g86 : IRV (listA all sg of) (a'.eval (.tmp 86)) X := hG ⟨20, .data⟩ (by simp) rfl 86 rfl
        have gg : a'.eval (.tmp 74) = .bool true := hG ⟨8, .guard⟩ (by simp) rfl 74 rfl
        refine .inr ⟨want_yes (n := 100) (d := 74) rfl hs (by decide) rfl gg, .inr ⟨24, #[a'.eval (.tmp 80), a'.eval (.tmp 86)], ?_, ?_⟩⟩
        · have gF : a'.eval (.func 24) = .func (.func 24) #[] #[] := rfl
          obtain ⟨ev, hev⟩ : ∃ ev, a'.eval = ev := ⟨_, rfl⟩
          rw [hev] at gF g80 g86 ⊢
          exact exec_call2 rfl gF rfl rfl (enters_of Try.func24 (by kernel_rfl) rfl)
        exact (SameInts_irv g80 g86 (by omega)).mono fun e W' ⟨he, hb⟩ => ⟨_, he, hb, rfl⟩
      | 22, ho =>
        obtain rfl : _ = o := Option.some.inj ho
        obtain rfl : 88 = d := Option.some.inj hd
        have g74 : a'.eval (.tmp 74) = .bool true := hG ⟨8, .data⟩ (by simp) rfl 74 rfl
        have g87 : a'.eval (.tmp 87) = .bool true := hG ⟨21, .data⟩ (by simp) rfl 87 rfl
        obtain ⟨ev, hev⟩ : ∃ ev, a'.eval = ev := ⟨_, rfl⟩
        rw [hev] at g74 g87 ⊢
        clear hev hG hk
        obtain ⟨c0, c1, c2, c3⟩ := cW X hB
        exact .inr ⟨rfl, .inl ⟨.bool true, X, by clear hs; go_simp, Below.refl _ _, rfl⟩⟩
      | 23, ho =>
        obtain rfl : _ = o := Option.some.inj ho
        obtain rfl : 89 = d := Option.some.inj hd
        have g88 : a'.eval (.tmp 88) = .bool true := hG ⟨22, .data⟩ (by simp) rfl 88 rfl
        obtain ⟨ev, hev⟩ : ∃ ev, a'.eval = ev := ⟨_, rfl⟩
        rw [hev] at g88 ⊢
        clear hev hG hk
        obtain ⟨c0, c1, c2, c3⟩ := cW X hB
        exact .inr ⟨rfl, .inl ⟨.bool true, X, by clear hs; go_simp, Below.refl _ _, rfl⟩⟩
      | 24, ho =>
        obtain rfl : _ = o := Option.some.inj ho
        obtain rfl : 90 = d := Option.some.inj hd
        have g0 : a'.eval (.tmp 0) = pv rb := hk 0 (by kernel_rfl)
        have gg : a'.eval (.tmp 89) = .bool true := hG ⟨23, .guard⟩ (by simp) rfl 89 rfl
        refine .inr ⟨want_yes (n := 100) (d := 89) rfl hs (by decide) rfl gg, .inl ⟨pv rb, X, ?_, Below.refl _ _, rfl⟩⟩
        obtain ⟨ev, hev⟩ : ∃ ev, a'.eval = ev := ⟨_, rfl⟩
        rw [hev] at g0 ⊢
        clear hev hG hk hs gg
        obtain ⟨c0, c1, c2, c3⟩ := cW X hB
        go_simp
      | 25, ho =>
        obtain rfl : _ = o := Option.some.inj ho
        obtain rfl : 91 = d := Option.some.inj hd
        have g5 : a'.eval (.tmp 5) = .pointer (some ⟨w.heap.size, 0, none⟩) := hk 5 (by kernel_rfl)
        have gg : a'.eval (.tmp 89) = .bool true := hG ⟨23, .guard⟩ (by simp) rfl 89 rfl
        refine .inr ⟨want_yes (n := 100) (d := 89) rfl hs (by decide) rfl gg, .inl ⟨.pointer (some ⟨w.heap.size, 1, none⟩), X, ?_, Below.refl _ _, rfl⟩⟩
        obtain ⟨ev, hev⟩ : ∃ ev, a'.eval = ev := ⟨_, rfl⟩
        rw [hev] at g5 ⊢
        clear hev hG hk hs gg
        obtain ⟨c0, c1, c2, c3⟩ := cW X hB
        go_simp
      | 26, ho =>
        obtain rfl : _ = o := Option.some.inj ho
        obtain rfl : 92 = d := Option.some.inj hd
        have g91 : a'.eval (.tmp 91) = .pointer (some ⟨w.heap.size, 1, none⟩) := hG ⟨25, .data⟩ (by simp) rfl 91 rfl
        have gg : a'.eval (.tmp 89) = .bool true := hG ⟨23, .guard⟩ (by simp) rfl 89 rfl
        refine .inr ⟨want_yes (n := 100) (d := 89) rfl hs (by decide) rfl gg, .inl ⟨.int .i64 th, X, ?_, Below.refl _ _, rfl⟩⟩
        obtain ⟨ev, hev⟩ : ∃ ev, a'.eval = ev := ⟨_, rfl⟩
        rw [hev] at g91 ⊢
        clear hev hG hk hs gg
        obtain ⟨c0, c1, c2, c3⟩ := cW X hB
        go_simp
      | 27, ho =>
        obtain rfl : _ = o := Option.some.inj ho
        obtain rfl : 93 = d := Option.some.inj hd
        have g90 : a'.eval (.tmp 90) = pv rb := hG ⟨24, .data⟩ (by simp) rfl 90 rfl
        have g92 : a'.eval (.tmp 92) = .int .i64 th := hG ⟨26, .data⟩ (by simp) rfl 92 rfl
        have gg : a'.eval (.tmp 89) = .bool true := hG ⟨23, .guard⟩ (by simp) rfl 89 rfl
        refine .inr ⟨want_yes (n := 100) (d := 89) rfl hs (by decide) rfl gg, .inr ⟨25, #[pv rb, .int .i64 th], ?_, ?_⟩⟩
        · have gF : a'.eval (.func 25) = .func (.func 25) #[] #[] := rfl
          obtain ⟨ev, hev⟩ : ∃ ev, a'.eval = ev := ⟨_, rfl⟩
          rw [hev] at gF g90 g92 ⊢
          exact exec_call2 rfl gF g90 g92 (enters_of Try.func25 (by kernel_rfl) rfl)
        exact (Alerts_any X rb F all al N th ith (HPS.out X hB).rm (by omega)).mono fun e W' ⟨v, he, hr, hb⟩ => ⟨v, he, hb, hr.irv⟩
      | 28, ho =>
        obtain rfl : _ = o := Option.some.inj ho
        obtain rfl : 94 = d := Option.some.inj hd
        have g1 : a'.eval (.tmp 1) = pv qb := hk 1 (by kernel_rfl)
        have gg : a'.eval (.tmp 89) = .bool true := hG ⟨23, .guard⟩ (by simp) rfl 89 rfl
        refine .inr ⟨want_yes (n := 100) (d := 89) rfl hs (by decide) rfl gg, .inl ⟨pv qb, X, ?_, Below.refl _ _, rfl⟩⟩
        obtain ⟨ev, hev⟩ : ∃ ev, a'.eval = ev := ⟨_, rfl⟩
        rw [hev] at g1 ⊢
        clear hev hG hk hs gg
        obtain ⟨c0, c1, c2, c3⟩ := cW X hB
        go_simp
      | 29, ho =>
        obtain rfl : _ = o := Option.some.inj ho
        obtain rfl : 95 = d := Option.some.inj hd
        have g5 : a'.eval (.tmp 5) = .pointer (some ⟨w.heap.size, 0, none⟩) := hk 5 (by kernel_rfl)
        have gg : a'.eval (.tmp 89) = .bool true := hG ⟨23, .guard⟩ (by simp) rfl 89 rfl
        refine .inr ⟨want_yes (n := 100) (d := 89) rfl hs (by decide) rfl gg, .inl ⟨.pointer (some ⟨w.heap.size, 1, none⟩), X, ?_, Below.refl _ _, rfl⟩⟩
        obtain ⟨ev, hev⟩ : ∃ ev, a'.eval = ev := ⟨_, rfl⟩
        rw [hev] at g5 ⊢
        clear hev hG hk hs gg
        obtain ⟨c0, c1, c2, c3⟩ := cW X hB
        go_simp
      | 30, ho =>
        obtain rfl : _ = o := Option.some.inj ho
        obtain rfl : 96 = d := Option.some.inj hd
        have g95 : a'.eval (.tmp 95) = .pointer (some ⟨w.heap.size, 1, none⟩) := hG ⟨29, .data⟩ (by simp) rfl 95 rfl
        have gg : a'.eval (.tmp 89) = .bool true := hG ⟨23, .guard⟩ (by simp) rfl 89 rfl
        refine .inr ⟨want_yes (n := 100) (d := 89) rfl hs (by decide) rfl gg, .inl ⟨.int .i64 th, X, ?_, Below.refl _ _, rfl⟩⟩
        obtain ⟨ev, hev⟩ : ∃ ev, a'.eval = ev := ⟨_, rfl⟩
        rw [hev] at g95 ⊢
        clear hev hG hk hs gg
        obtain ⟨c0, c1, c2, c3⟩ := cW X hB
        go_simp
      | 31, ho =>
        obtain rfl : _ = o := Option.some.inj ho
        obtain rfl : 97 = d := Option.some.inj hd
        have g94 : a'.eval (.tmp 94) = pv qb := hG ⟨28, .data⟩ (by simp) rfl 94 rfl
        have g96 : a'.eval (.tmp 96) = .int .i64 th := hG ⟨30, .data⟩ (by simp) rfl 96 rfl
        have gg : a'.eval (.tmp 89) = .bool true := hG ⟨23, .guard⟩ (by simp) rfl 89 rfl
        refine .inr ⟨want_yes (n := 100) (d := 89) rfl hs (by decide) rfl gg, .inr ⟨38, #[pv qb, .int .i64 th], ?_, ?_⟩⟩
        · have gF : a'.eval (.func 38) = .func (.func 38) #[] #[] := rfl
          obtain ⟨ev, hev⟩ : ∃ ev, a'.eval = ev := ⟨_, rfl⟩
          rw [hev] at gF g94 g96 ⊢
          exact exec_call2 rfl gF g94 g96 (enters_of Try.func38 (by kernel_rfl) rfl)
        exact (rOf_any X qb G ra rl N th (HPS.out X hB).rf (by omega)).mono fun e W' ⟨v, he, hr, hb⟩ => ⟨v, he, hb, by rw [← HH.out.lk.ofs]; exact hr.irv⟩
      | 32, ho =>
        obtain rfl : _ = o := Option.some.inj ho
        obtain rfl : 98 = d := Option.some.inj hd
        have g93 : IRV (al th) (a'.eval (.tmp 93)) X := hG ⟨27, .data⟩ (by simp) rfl 93 rfl
        have g97 : IRV (al th) (a'.eval (.tmp 97)) X := hG ⟨31, .data⟩ (by simp) rfl 97 rfl
        have gg : a'.eval (.tmp 89) = .bool true := hG ⟨23, .guard⟩ (by simp) rfl 89 rfl
        refine .inr ⟨want_yes (n := 100) (d := 89) rfl hs (by decide) rfl gg, .inr ⟨24, #[a'.eval (.tmp 93), a'.eval (.tmp 97)], ?_, ?_⟩⟩
        · have gF : a'.eval (.func 24) = .func (.func 24) #[] #[] := rfl
          obtain ⟨ev, hev⟩ : ∃ ev, a'.eval = ev := ⟨_, rfl⟩
          rw [hev] at gF g93 g97 ⊢
          exact exec_call2 rfl gF rfl rfl (enters_of Try.func24 (by kernel_rfl) rfl)
        exact (SameInts_irv g93 g97 (by rw [← HH.out.lk.ofs]; omega)).mono fun e W' ⟨he, hb⟩ => ⟨_, he, hb, rfl⟩
      | 33, ho =>
        obtain rfl : _ = o := Option.some.inj ho
        obtain rfl : 99 = d := Option.some.inj hd
        have g89 : a'.eval (.tmp 89) = .bool true := hG ⟨23, .data⟩ (by simp) rfl 89 rfl
        have g98 : a'.eval (.tmp 98) = .bool true := hG ⟨32, .data⟩ (by simp) rfl 98 rfl
        obtain ⟨ev, hev⟩ : ∃ ev, a'.eval = ev := ⟨_, rfl⟩
        rw [hev] at g89 g98 ⊢
        clear hev hG hk
        obtain ⟨c0, c1, c2, c3⟩ := cW X hB
        exact .inr ⟨rfl, .inl ⟨.bool true, X, by clear hs; go_simp, Below.refl _ _, rfl⟩⟩
      | j + 34, ho => simp at ho
    · intro a' X hB hs hdf hk hG
      obtain ⟨tm, df⟩ := a'
      obtain rfl : df = [] := hdf
      have e0 : tm.getD 0 undef = pv rb := hk 0 (by kernel_rfl)
      have e1 : tm.getD 1 undef = pv qb := hk 1 (by kernel_rfl)
      have e2 : tm.getD 2 undef = .agg #[.int .i64 kd, .int .i64 th, .int .i64 sg, .int .i64 of, .int .i64 cd] := hk 2 (by kernel_rfl)
      have e3 : tm.getD 3 undef = undef := hk 3 (by kernel_rfl)
      have e4 : tm.getD 4 undef = undef := hk 4 (by kernel_rfl)
      have e5 : tm.getD 5 undef = .pointer (some ⟨w.heap.size, 0, none⟩) := hk 5 (by kernel_rfl)
      have e6 : tm.getD 6 undef = .bool false := hk 6 (by kernel_rfl)
      have e7 : tm.getD 7 undef = .int .i64 xs := hk 7 (by kernel_rfl)
      have e8 : tm.getD 8 undef = .int .i64 xo := hk 8 (by kernel_rfl)
      have e9 : tm.getD 9 undef = .bool true := hk 9 (by kernel_rfl)
      have e10 : tm.getD 10 undef = .int .i64 m := hk 10 (by kernel_rfl)
      have e11 : tm.getD 11 undef = .tuple #[.int .i64 xs, .int .i64 xo, .bool true] := hk 11 (by kernel_rfl)
      have e12 : tm.getD 12 undef = pv rb := hk 12 (by kernel_rfl)
      have e13 : tm.getD 13 undef = .pointer (some ⟨w.heap.size, 1, none⟩) := hk 13 (by kernel_rfl)
      have e14 : tm.getD 14 undef = .int .i64 th := hk 14 (by kernel_rfl)
      have e15 : tm.getD 15 undef = .tuple #[.int .i64 xs, .int .i64 xo, .bool true] := hk 15 (by kernel_rfl)
      have e16 : tm.getD 16 undef = .int .i64 xs := hk 16 (by kernel_rfl)
      have e17 : tm.getD 17 undef = .int .i64 xo := hk 17 (by kernel_rfl)
      have e18 : tm.getD 18 undef = .bool true := hk 18 (by kernel_rfl)
      have e19 : tm.getD 19 undef = pv qb := hk 19 (by kernel_rfl)
      have e20 : tm.getD 20 undef = .pointer (some ⟨w.heap.size, 1, none⟩) := hk 20 (by kernel_rfl)
      have e21 : tm.getD 21 undef = .int .i64 th := hk 21 (by kernel_rfl)
      have e22 : tm.getD 22 undef = .int .i64 m := hk 22 (by kernel_rfl)
      have e23 : tm.getD 23 undef = .bool true := hk 23 (by kernel_rfl)
      have e24 : tm.getD 24 undef = .int .i64 m := hk 24 (by kernel_rfl)
      have e25 : tm.getD 25 undef = .bool true := hk 25 (by kernel_rfl)
      have e26 : tm.getD 26 undef = .bool false := hk 26 (by kernel_rfl)
      have e27 : tm.getD 27 undef = .bool false := hk 27 (by kernel_rfl)
      have e28 : tm.getD 28 undef = .bool true := hk 28 (by kernel_rfl)
      have e29 : tm.getD 29 undef = .bool true := hk 29 (by kernel_rfl)
      have e30 : tm.getD 30 undef = pv qb := hk 30 (by kernel_rfl)
      have e31 : tm.getD 31 undef = .pointer (some ⟨qb, 0, none⟩) := hk 31 (by kernel_rfl)
      have e32 : tm.getD 32 undef = .pointer (some ⟨qb, 0, none⟩) := hk 32 (by kernel_rfl)
      have e33 : tm.getD 33 undef = .slice (some ⟨g, 0, none⟩) ra.length cp1 := hk 33 (by kernel_rfl)
      have e34 : tm.getD 34 undef = .int .i64 m := hk 34 (by kernel_rfl)
      have e35 : tm.getD 35 undef = .pointer (some { block := g, off := m * 3 }) := hk 35 (by kernel_rfl)
      have e36 : tm.getD 36 undef = .pointer (some { block := g, off := m * 3 + 1 }) := hk 36 (by kernel_rfl)
      have e37 : tm.getD 37 undef = .int .i64 xs := hk 37 (by kernel_rfl)
      have e38 : tm.getD 38 undef = .int .i64 xs := hk 38 (by kernel_rfl)
      have e39 : tm.getD 39 undef = .bool false := hk 39 (by kernel_rfl)
      have e40 : tm.getD 40 undef = .bool false := hk 40 (by kernel_rfl)
      have e41 : tm.getD 41 undef = pv qb := hk 41 (by kernel_rfl)
      have e42 : tm.getD 42 undef = .pointer (some ⟨qb, 0, none⟩) := hk 42 (by kernel_rfl)
      have e43 : tm.getD 43 undef = .pointer (some ⟨qb, 0, none⟩) := hk 43 (by kernel_rfl)
      have e44 : tm.getD 44 undef = .slice (some ⟨g, 0, none⟩) ra.length cp1 := hk 44 (by kernel_rfl)
      have e45 : tm.getD 45 undef = .int .i64 m := hk 45 (by kernel_rfl)
      have e46 : tm.getD 46 undef = .pointer (some { block := g, off := m * 3 }) := hk 46 (by kernel_rfl)
      have e47 : tm.getD 47 undef = .pointer (some { block := g, off := m * 3 + 2 }) := hk 47 (by kernel_rfl)
      have e48 : tm.getD 48 undef = .int .i64 xo := hk 48 (by kernel_rfl)
      have e49 : tm.getD 49 undef = .int .i64 xo := hk 49 (by kernel_rfl)
      have e50 : tm.getD 50 undef = .bool false := hk 50 (by kernel_rfl)
      have e51 : tm.getD 51 undef = .bool false := hk 51 (by kernel_rfl)
      have e52 : tm.getD 52 undef = .bool false := hk 52 (by kernel_rfl)
      have e53 : tm.getD 53 undef = .bool false := hk 53 (by kernel_rfl)
      have e54 : tm.getD 54 undef = .bool false := hk 54 (by kernel_rfl)
      have e55 : tm.getD 55 undef = .bool true := hk 55 (by kernel_rfl)
      have e56 : tm.getD 56 undef = .bool false := hk 56 (by kernel_rfl)
      have e57 : tm.getD 57 undef = .bool false := hk 57 (by kernel_rfl)
      have e58 : tm.getD 58 undef = undef := hk 58 (by kernel_rfl)
      have e59 : tm.getD 59 undef = undef := hk 59 (by kernel_rfl)
      have e60 : tm.getD 60 undef = undef := hk 60 (by kernel_rfl)
      have e61 : tm.getD 61 undef = undef := hk 61 (by kernel_rfl)
      have e62 : tm.getD 62 undef = undef := hk 62 (by kernel_rfl)
      have e63 : tm.getD 63 undef = undef := hk 63 (by kernel_rfl)
      have e64 : tm.getD 64 undef = .bool false := hk 64 (by kernel_rfl)
      have e65 : tm.getD 65 undef = .bool false := hk 65 (by kernel_rfl)
      have g66 : (tm.getD 66 undef) = pv rb := hG 0 66 (by decide) rfl
      have g67 : (tm.getD 67 undef) = .int .i64 (ra.length : Int) := hG 1 67 (by decide) rfl
      have g68 : (tm.getD 68 undef) = pv qb := hG 2 68 (by decide) rfl
      have g69 : (tm.getD 69 undef) = .pointer (some ⟨qb, 0, none⟩) := hG 3 69 (by decide) rfl
      have g70 : (tm.getD 70 undef) = .pointer (some ⟨qb, 0, none⟩) := hG 4 70 (by decide) rfl
      have g71 : (tm.getD 71 undef) = .slice (some ⟨g, 0, none⟩) ra.length cp1 := hG 5 71 (by decide) rfl
      have g72 : (tm.getD 72 undef) = .int .i64 (ra.length : Int) := hG 6 72 (by decide) rfl
      have g73 : (tm.getD 73 undef) = .bool true := hG 7 73 (by decide) rfl
      have g74 : (tm.getD 74 undef) = .bool true := hG 8 74 (by decide) rfl
      have g75 : (tm.getD 75 undef) = pv rb := hG 9 75 (by decide) rfl
      have g76 : (tm.getD 76 undef) = .pointer (some ⟨w.heap.size, 2, none⟩) := hG 10 76 (by decide) rfl
      have g77 : (tm.getD 77 undef) = .int .i64 sg := hG 11 77 (by decide) rfl
      have g78 : (tm.getD 78 undef) = .pointer (some ⟨w.heap.size, 3, none⟩) := hG 12 78 (by decide) rfl
      have g79 : (tm.getD 79 undef) = .int .i64 of := hG 13 79 (by decide) rfl
      have g80 : IRV (listA all sg of) ((tm.getD 80 undef)) X := hG 14 80 (by decide) rfl
      have g81 : (tm.getD 81 undef) = pv qb := hG 15 81 (by decide) rfl
      have g82 : (tm.getD 82 undef) = .pointer (some ⟨w.heap.size, 2, none⟩) := hG 16 82 (by decide) rfl
      have g83 : (tm.getD 83 undef) = .int .i64 sg := hG 17 83 (by decide) rfl
      have g84 : (tm.getD 84 undef) = .pointer (some ⟨w.heap.size, 3, none⟩) := hG 18 84 (by decide) rfl
      have g85 : (tm.getD 85 undef) = .int .i64 of := hG 19 85 (by decide) rfl
      have g86 : IRV (listA all sg of) ((tm.getD 86 undef)) X := hG 20 86 (by decide) rfl
      have g87 : (tm.getD 87 undef) = .bool true := hG 21 87 (by decide) rfl
      have g88 : (tm.getD 88 undef) = .bool true := hG 22 88 (by decide) rfl
      have g89 : (tm.getD 89 undef) = .bool true := hG 23 89 (by decide) rfl
      have g90 : (tm.getD 90 undef) = pv rb := hG 24 90 (by decide) rfl
      have g91 : (tm.getD 91 undef) = .pointer (some ⟨w.heap.size, 1, none⟩) := hG 25 91 (by decide) rfl
      have g92 : (tm.getD 92 undef) = .int .i64 th := hG 26 92 (by decide) rfl
      have g93 : IRV (al th) ((tm.getD 93 undef)) X := hG 27 93 (by decide) rfl
      have g94 : (tm.getD 94 undef) = pv qb := hG 28 94 (by decide) rfl
      have g95 : (tm.getD 95 undef) = .pointer (some ⟨w.heap.size, 1, none⟩) := hG 29 95 (by decide) rfl
      have g96 : (tm.getD 96 undef) = .int .i64 th := hG 30 96 (by decide) rfl
      have g97 : IRV (al th) ((tm.getD 97 undef)) X := hG 31 97 (by decide) rfl
      have g98 : (tm.getD 98 undef) = .bool true := hG 32 98 (by decide) rfl
      have g99 : (tm.getD 99 undef) = .bool true := hG 33 99 (by decide) rfl
      have htm := arr_of tm ((pv rb : Value) :: (pv qb : Value) :: (.agg #[.int .i64 kd, .int .i64 th, .int .i64 sg, .int .i64 of, .int .i64 cd] : Value) :: (undef : Value) :: (undef : Value) :: (.pointer (some ⟨w.heap.size, 0, none⟩) : Value) :: (.bool false : Value) :: (.int .i64 xs : Value) :: (.int .i64 xo : Value) :: (.bool true : Value) :: (.int .i64 m : Value) :: (.tuple #[.int .i64 xs, .int .i64 xo, .bool true] : Value) :: (pv rb : Value) :: (.pointer (some ⟨w.heap.size, 1, none⟩) : Value) :: (.int .i64 th : Value) :: (.tuple #[.int .i64 xs, .int .i64 xo, .bool true] : Value) :: (.int .i64 xs : Value) :: (.int .i64 xo : Value) :: (.bool true : Value) :: (pv qb : Value) :: (.pointer (some ⟨w.heap.size, 1, none⟩) : Value) :: (.int .i64 th : Value) :: (.int .i64 m : Value) :: (.bool true : Value) :: (.int .i64 m : Value) :: (.bool true : Value) :: (.bool false : Value) :: (.bool false : Value) :: (.bool true : Value) :: (.bool true : Value) :: (pv qb : Value) :: (.pointer (some ⟨qb, 0, none⟩) : Value) :: (.pointer (some ⟨qb, 0, none⟩) : Value) :: (.slice (some ⟨g, 0, none⟩) ra.length cp1 : Value) :: (.int .i64 m : Value) :: (.pointer (some { block := g, off := m * 3 }) : Value) :: (.pointer (some { block := g, off := m * 3 + 1 }) : Value) :: (.int .i64 xs : Value) :: (.int .i64 xs : Value) :: (.bool false : Value) :: (.bool false : Value) :: (pv qb : Value) :: (.pointer (some ⟨qb, 0, none⟩) : Value) :: (.pointer (some ⟨qb, 0, none⟩) : Value) :: (.slice (some ⟨g, 0, none⟩) ra.length cp1 : Value) :: (.int .i64 m : Value) :: (.pointer (some { block := g, off := m * 3 }) : Value) :: (.pointer (some { block := g, off := m * 3 + 2 }) : Value) :: (.int .i64 xo : Value) :: (.int .i64 xo : Value) :: (.bool false : Value) :: (.bool false : Value) :: (.bool false : Value) :: (.bool false : Value) :: (.bool false : Value) :: (.bool true : Value) :: (.bool false : Value) :: (.bool false : Value) :: (undef : Value) :: (undef : Value) :: (undef : Value) :: (undef : Value) :: (undef : Value) :: (undef : Value) :: (.bool false : Value) :: (.bool false : Value) :: (tm.getD 66 undef : Value) :: (tm.getD 67 undef : Value) :: (tm.getD 68 undef : Value) :: (tm.getD 69 undef : Value) :: (tm.getD 70 undef : Value) :: (tm.getD 71 undef : Value) :: (tm.getD 72 undef : Value) :: (tm.getD 73 undef : Value) :: (tm.getD 74 undef : Value) :: (tm.getD 75 undef : Value) :: (tm.getD 76 undef : Value) :: (tm.getD 77 undef : Value) :: (tm.getD 78 undef : Value) :: (tm.getD 79 undef : Value) :: (tm.getD 80 undef : Value) :: (tm.getD 81 undef : Value) :: (tm.getD 82 undef : Value) :: (tm.getD 83 undef : Value) :: (tm.getD 84 undef : Value) :: (tm.getD 85 undef : Value) :: (tm.getD 86 undef : Value) :: (tm.getD 87 undef : Value) :: (tm.getD 88 undef : Value) :: (tm.getD 89 undef : Value) :: (tm.getD 90 undef : Value) :: (tm.getD 91 undef : Value) :: (tm.getD 92 undef : Value) :: (tm.getD 93 undef : Value) :: (tm.getD 94 undef : Value) :: (tm.getD 95 undef : Value) :: (tm.getD 96 undef : Value) :: (tm.getD 97 undef : Value) :: (tm.getD 98 undef : Value) :: (tm.getD 99 undef : Value) :: []) hs (by show (tm.getD 0 undef :: tm.getD 1 undef :: tm.getD 2 undef :: tm.getD 3 undef :: tm.getD 4 undef :: tm.getD 5 undef :: tm.getD 6 undef :: tm.getD 7 undef :: tm.getD 8 undef :: tm.getD 9 undef :: tm.getD 10 undef :: tm.getD 11 undef :: tm.getD 12 undef :: tm.getD 13 undef :: tm.getD 14 undef :: tm.getD 15 undef :: tm.getD 16 undef :: tm.getD 17 undef :: tm.getD 18 undef :: tm.getD 19 undef :: tm.getD 20 undef :: tm.getD 21 undef :: tm.getD 22 undef :: tm.getD 23 undef :: tm.getD 24 undef :: tm.getD 25 undef :: tm.getD 26 undef :: tm.getD 27 undef :: tm.getD 28 undef :: tm.getD 29 undef :: tm.getD 30 undef :: tm.getD 31 undef :: tm.getD 32 undef :: tm.getD 33 undef :: tm.getD 34 undef :: tm.getD 35 undef :: tm.getD 36 undef :: tm.getD 37 undef :: tm.getD 38 undef :: tm.getD 39 undef :: tm.getD 40 undef :: tm.getD 41 undef :: tm.getD 42 undef :: tm.getD 43 undef :: tm.getD 44 undef :: tm.getD 45 undef :: tm.getD 46 undef :: tm.getD 47 undef :: tm.getD 48 undef :: tm.getD 49 undef :: tm.getD 50 undef :: tm.getD 51 undef :: tm.getD 52 undef :: tm.getD 53 undef :: tm.getD 54 undef :: tm.getD 55 undef :: tm.getD 56 undef :: tm.getD 57 undef :: tm.getD 58 undef :: tm.getD 59 undef :: tm.getD 60 undef :: tm.getD 61 undef :: tm.getD 62 undef :: tm.getD 63 undef :: tm.getD 64 undef :: tm.getD 65 undef :: tm.getD 66 undef :: tm.getD 67 undef :: tm.getD 68 undef :: tm.getD 69 undef :: tm.getD 70 undef :: tm.getD 71 undef :: tm.getD 72 undef :: tm.getD 73 undef :: tm.getD 74 undef :: tm.getD 75 undef :: tm.getD 76 undef :: tm.getD 77 undef :: tm.getD 78 undef :: tm.getD 79 undef :: tm.getD 80 undef :: tm.getD 81 undef :: tm.getD 82 undef :: tm.getD 83 undef :: tm.getD 84 undef :: tm.getD 85 undef :: tm.getD 86 undef :: tm.getD 87 undef :: tm.getD 88 undef :: tm.getD 89 undef :: tm.getD 90 undef :: tm.getD 91 undef :: tm.getD 92 undef :: tm.getD 93 undef :: tm.getD 94 undef :: tm.getD 95 undef :: tm.getD 96 undef :: tm.getD 97 undef :: tm.getD 98 undef :: tm.getD 99 undef :: []) = _; rw [e0, e1, e2, e3, e4, e5, e6, e7, e8, e9, e10, e11, e12, e13, e14, e15, e16, e17, e18, e19, e20, e21, e22, e23, e24, e25, e26, e27, e28, e29, e30, e31, e32, e33, e34, e35, e36, e37, e38, e39, e40, e41, e42, e43, e44, e45, e46, e47, e48, e49, e50, e51, e52, e53, e54, e55, e56, e57, e58, e59, e60, e61, e62, e63, e64, e65]; try rfl)
      clear hs hk hG e0 e1 e2 e3 e4 e5 e6 e7 e8 e9 e10 e11 e12 e13 e14 e15 e16 e17 e18 e19 e20 e21 e22 e23 e24 e25 e26 e27 e28 e29 e30 e31 e32 e33 e34 e35 e36 e37 e38 e39 e40 e41 e42 e43 e44 e45 e46 e47 e48 e49 e50 e51 e52 e53 e54 e55 e56 e57 e58 e59 e60 e61 e62 e63 e64 e65
      generalize tm.getD 66 undef = t66 at htm g66
      generalize tm.getD 67 undef = t67 at htm g67
      generalize tm.getD 68 undef = t68 at htm g68
      generalize tm.getD 69 undef = t69 at htm g69
      generalize tm.getD 70 undef = t70 at htm g70
      generalize tm.getD 71 undef = t71 at htm g71
      generalize tm.getD 72 undef = t72 at htm g72
      generalize tm.getD 73 undef = t73 at htm g73
      generalize tm.getD 74 undef = t74 at htm g74
      generalize tm.getD 75 undef = t75 at htm g75
      generalize tm.getD 76 undef = t76 at htm g76
      generalize tm.getD 77 undef = t77 at htm g77
      generalize tm.getD 78 undef = t78 at htm g78
      generalize tm.getD 79 undef = t79 at htm g79
      generalize tm.getD 80 undef = t80 at htm g80
      generalize tm.getD 81 undef = t81 at htm g81
      generalize tm.getD 82 undef = t82 at htm g82
      generalize tm.getD 83 undef = t83 at htm g83
      generalize tm.getD 84 undef = t84 at htm g84
      generalize tm.getD 85 undef = t85 at htm g85
      generalize tm.getD 86 undef = t86 at htm g86
      generalize tm.getD 87 undef = t87 at htm g87
      generalize tm.getD 88 undef = t88 at htm g88
      generalize tm.getD 89 undef = t89 at htm g89
      generalize tm.getD 90 undef = t90 at htm g90
      generalize tm.getD 91 undef = t91 at htm g91
      generalize tm.getD 92 undef = t92 at htm g92
      generalize tm.getD 93 undef = t93 at htm g93
      generalize tm.getD 94 undef = t94 at htm g94
      generalize tm.getD 95 undef = t95 at htm g95
      generalize tm.getD 96 undef = t96 at htm g96
      generalize tm.getD 97 undef = t97 at htm g97
      generalize tm.getD 98 undef = t98 at htm g98
      generalize tm.getD 99 undef = t99 at htm g99
      subst htm
      subst g66
      subst g67
      subst g68
      subst g69
      subst g70
      subst g71
      subst g72
      subst g73
      subst g74
      subst g75
      subst g76
      subst g77
      subst g78
      subst g79
      subst g81
      subst g82
      subst g83
      subst g84
      subst g85
      subst g87
      subst g88
      subst g89
      subst g90
      subst g91
      subst g92
      subst g94
      subst g95
      subst g96
      subst g98
      subst g99
      simp only [List.drop_succ_cons, List.drop_zero]
      have HB := Lib.hid hB
      clear hB g80 g86 g93 g97
      go_wp2_with fail
      go_ret
      exact ⟨rfl, HB3.out.trans (HB.out.mono HB3.out.size)⟩
  · have hwf : waitsA ra th = false := by simpa using hw
    have hnone : whereA ra th = none := by
      unfold whereA; rw [List.find?_eq_none]; intro x hx
      unfold waitsA at hwf; rw [List.any_eq_false] at hwf
      exact hwf x hx
    rw [hnone] at hWh
    have HWh := Lib.hid (show Calls _ _ _ _ fun e w' => e = .returned (.tuple #[.int .i64 0, .int .i64 0, .bool false]) ∧ _ from hWh)
    have HAt := Lib.hid (fun X hX => rAt_no X qb G ra rl N th ((HH.out.rf.below hX)) (by omega) hwf)
    clear hw hwf hnone hWh h1
    go_enter Try.func13, Try.ntmps13
    go_wp2_with (go_at_call 22; refine HWh.out.mono ?_; rintro e w2 ⟨rfl, hb2⟩; refine Hid.out ?_)
    refine Lib.hid ?_
    have hB2 : Below w.heap.size w w2 := HB1.out.trans (hb2.mono HB1.out.size)
    have hO2 : w2.heap[w.heap.size]? = _ := (hb2.block _ (heap_lt HO.out)).trans HO.out
    have d2 : w2.cell? ⟨w.heap.size, 1, none⟩ = some (.int .i64 th) := by rw [cell_of_row _ _ _ _ _ _ hO2]; rfl
    have HAt2 := Lib.hid (HAt.out w2 hB2)
    have HB2 := Lib.hid hB2
    have HO2 := Lib.hid hO2
    clear hb2 hB2 hO2 HWh HAt
    go_wp2_with (go_at_call 36; refine HAt2.out.mono ?_; rintro e w3 ⟨rfl, hb3⟩; refine Hid.out ?_)
    refine Lib.hid ?_
    have hB3 : Below w.heap.size w w3 := HB2.out.trans (hb3.mono HB2.out.size)
    have hO3 : w3.heap[w.heap.size]? = _ := (hb3.block _ (heap_lt HO2.out)).trans HO2.out
    obtain ⟨v1, v2, hq3, ho1, _, _, _⟩ := (HH.out.rf.below hB3).rows
    obtain ⟨sp1, cp1, rfl⟩ := row_form ho1
    have q0 : w3.cell? ⟨qb, 0, none⟩ = some (.slice sp1 ra.length cp1) := by rw [cell_of_row _ _ _ _ _ _ hq3]; rfl
    have HQ3 := Lib.hid hq3
    have HB3 := Lib.hid hB3
    have HO3 := Lib.hid hO3
    clear hb3 hB3 hO3 HAt2 ho1 hq3
    go_wp2_with fail
    have cW : ∀ X, Below w3.heap.size w3 X → X.cell? ⟨qb, 0, none⟩ = some (.slice sp1 ra.length cp1) ∧ X.cell? ⟨w.heap.size, 1, none⟩ = some (.int .i64 th) ∧ X.cell? ⟨w.heap.size, 2, none⟩ = some (.int .i64 sg) ∧ X.cell? ⟨w.heap.size, 3, none⟩ = some (.int .i64 of) := fun X hX =>
      ⟨(hX.cell (p := ⟨qb, 0, none⟩) (heap_lt HQ3.out)).trans q0, (hX.cell (p := ⟨w.heap.size, 1, none⟩) (heap_lt HO3.out)).trans (by rw [cell_of_row _ _ _ _ _ _ HO3.out]; rfl), (hX.cell (p := ⟨w.heap.size, 2, none⟩) (heap_lt HO3.out)).trans (by rw [cell_of_row _ _ _ _ _ _ HO3.out]; rfl), (hX.cell (p := ⟨w.heap.size, 3, none⟩) (heap_lt HO3.out)).trans (by rw [cell_of_row _ _ _ _ _ _ HO3.out]; rfl)⟩
    have HEQ := Lib.hid hEq
    have HPS : Hid (∀ X, Below w3.heap.size w3 X → PS X rb qb F G all al ra rl N) := fun X hX => HH.out.below (HB3.out.trans (hX.mono HB3.out.size))
    have hL1 := listA_len all sg of
    have hL2 := ofL_len rl th
    clear hEq q0
    refine wp_region_monoT 12 34 (fun kq v X => match kq with | 66 => v = pv rb | 67 => v = .int .i64 (ra.length : Int) | 68 => v = pv qb | 69 => v = .pointer (some ⟨qb, 0, none⟩) | 70 => v = .pointer (some ⟨qb, 0, none⟩) | 71 => v = .slice sp1 ra.length cp1 | 72 => v = .int .i64 (ra.length : Int) | 73 => v = .bool true | 74 => v = .bool true | 75 => v = pv rb | 76 => v = .pointer (some ⟨w.heap.size, 2, none⟩) | 77 => v = .int .i64 sg | 78 => v = .pointer (some ⟨w.heap.size, 3, none⟩) | 79 => v = .int .i64 of | 80 => IRV (listA all sg of) (v) X | 81 => v = pv qb | 82 => v = .pointer (some ⟨w.heap.size, 2, none⟩) | 83 => v = .int .i64 sg | 84 => v = .pointer (some ⟨w.heap.size, 3, none⟩) | 85 => v = .int .i64 of | 86 => IRV (listA all sg of) (v) X | 87 => v = .bool true | 88 => v = .bool true | 89 => v = .bool true | 90 => v = pv rb | 91 => v = .pointer (some ⟨w.heap.size, 1, none⟩) | 92 => v = .int .i64 th | 93 => IRV (al th) (v) X | 94 => v = pv qb | 95 => v = .pointer (some ⟨w.heap.size, 1, none⟩) | 96 => v = .int .i64 th | 97 => IRV (al th) (v) X | 98 => v = .bool true | 99 => v = .bool true | _ => True) (by kernel_rfl) (by kernel_rfl) (by kernel_rfl) (by kernel_rfl) (by simp) (by kernel_rfl) ?_ ?_ ?_
    · intro kq v W W' h hb
      revert h
      try dsimp only
      split
      · intro h; exact h
      · intro h; exact h
      · intro h; exact h
      · intro h; exact h
      · intro h; exact h
      · intro h; exact h
      · intro h; exact h
      · intro h; exact h
      · intro h; exact h
      · intro h; exact h
      · intro h; exact h
      · intro h; exact h
      · intro h; exact h
      · intro h; exact h
      · intro h; exact h.below hb
      · intro h; exact h
      · intro h; exact h
      · intro h; exact h
      · intro h; exact h
      · intro h; exact h
      · intro h; exact h.below hb
      · intro h; exact h
      · intro h; exact h
      · intro h; exact h
      · intro h; exact h
      · intro h; exact h
      · intro h; exact h
      · intro h; exact h.below hb
      · intro h; exact h
      · intro h; exact h
      · intro h; exact h
      · intro h; exact h.below hb
      · intro h; exact h
      · intro h; exact h
      · intro h; trivial
    · intro a' X hB hs hk i o d ho hd hG
      match i, ho with
      | 0, ho =>
        obtain rfl : _ = o := Option.some.inj ho
        obtain rfl : 66 = d := Option.some.inj hd
        have g0 : a'.eval (.tmp 0) = pv rb := hk 0 (by kernel_rfl)
        obtain ⟨ev, hev⟩ : ∃ ev, a'.eval = ev := ⟨_, rfl⟩
        rw [hev] at g0 ⊢
        clear hev hG hk
        obtain ⟨c0, c1, c2, c3⟩ := cW X hB
        exact .inr ⟨rfl, .inl ⟨pv rb, X, by clear hs; go_simp, Below.refl _ _, rfl⟩⟩
      | 1, ho =>
        obtain rfl : _ = o := Option.some.inj ho
        obtain rfl : 67 = d := Option.some.inj hd
        have g66 : a'.eval (.tmp 66) = pv rb := hG ⟨0, .data⟩ (by simp) rfl 66 rfl
        refine .inr ⟨rfl, .inr ⟨21, #[pv rb], ?_, ?_⟩⟩
        · have gF : a'.eval (.func 21) = .func (.func 21) #[] #[] := rfl
          obtain ⟨ev, hev⟩ : ∃ ev, a'.eval = ev := ⟨_, rfl⟩
          rw [hev] at gF g66 ⊢
          exact exec_call1 rfl gF g66 (enters_of Try.func21 (by kernel_rfl) rfl)
        exact (Len_any X rb F all al N (HPS.out X hB).rm).mono fun e W' ⟨he, hw⟩ => ⟨_, he, by rw [hw]; exact Below.refl _ _, by show Value.int .i64 (all.length : Int) = .int .i64 (ra.length : Int); rw [HEQ.out]⟩
      | 2, ho =>
        obtain rfl : _ = o := Option.some.inj ho
        obtain rfl : 68 = d := Option.some.inj hd
        have g1 : a'.eval (.tmp 1) = pv qb := hk 1 (by kernel_rfl)
        obtain ⟨ev, hev⟩ : ∃ ev, a'.eval = ev := ⟨_, rfl⟩
        rw [hev] at g1 ⊢
        clear hev hG hk
        obtain ⟨c0, c1, c2, c3⟩ := cW X hB
        exact .inr ⟨rfl, .inl ⟨pv qb, X, by clear hs; go_simp, Below.refl _ _, rfl⟩⟩
      | 3, ho =>
        obtain rfl : _ = o := Option.some.inj ho
        obtain rfl : 69 = d := Option.some.inj hd
        have g68 : a'.eval (.tmp 68) = pv qb := hG ⟨2, .data⟩ (by simp) rfl 68 rfl
        obtain ⟨ev, hev⟩ : ∃ ev, a'.eval = ev := ⟨_, rfl⟩
        rw [hev] at g68 ⊢
        clear hev hG hk
        obtain ⟨c0, c1, c2, c3⟩ := cW X hB
        exact .inr ⟨rfl, .inl ⟨.pointer (some ⟨qb, 0, none⟩), X, by clear hs; go_simp, Below.refl _ _, rfl⟩⟩
      | 4, ho =>
        obtain rfl : _ = o := Option.some.inj ho
        obtain rfl : 70 = d := Option.some.inj hd
        have g69 : a'.eval (.tmp 69) = .pointer (some ⟨qb, 0, none⟩) := hG ⟨3, .data⟩ (by simp) rfl 69 rfl
        obtain ⟨ev, hev⟩ : ∃ ev, a'.eval = ev := ⟨_, rfl⟩
        rw [hev] at g69 ⊢
        clear hev hG hk
        obtain ⟨c0, c1, c2, c3⟩ := cW X hB
        exact .inr ⟨rfl, .inl ⟨.pointer (some ⟨qb, 0, none⟩), X, by clear hs; go_simp, Below.refl _ _, rfl⟩⟩
      | 5, ho =>
        obtain rfl : _ = o := Option.some.inj ho
        obtain rfl : 71 = d := Option.some.inj hd
        have g70 : a'.eval (.tmp 70) = .pointer (some ⟨qb, 0, none⟩) := hG ⟨4, .data⟩ (by simp) rfl 70 rfl
        obtain ⟨ev, hev⟩ : ∃ ev, a'.eval = ev := ⟨_, rfl⟩
        rw [hev] at g70 ⊢
        clear hev hG hk
        obtain ⟨c0, c1, c2, c3⟩ := cW X hB
        exact .inr ⟨rfl, .inl ⟨.slice sp1 ra.length cp1, X, by clear hs; go_simp, Below.refl _ _, rfl⟩⟩
      | 6, ho =>
        obtain rfl : _ = o := Option.some.inj ho
        obtain rfl : 72 = d := Option.some.inj hd
        have g71 : a'.eval (.tmp 71) = .slice sp1 ra.length cp1 := hG ⟨5, .data⟩ (by simp) rfl 71 rfl
        obtain ⟨ev, hev⟩ : ∃ ev, a'.eval = ev := ⟨_, rfl⟩
        rw [hev] at g71 ⊢
        clear hev hG hk
        obtain ⟨c0, c1, c2, c3⟩ := cW X hB
        exact .inr ⟨rfl, .inl ⟨.int .i64 (ra.length : Int), X, by clear hs; go_simp, Below.refl _ _, rfl⟩⟩
      | 7, ho =>
        obtain rfl : _ = o := Option.some.inj ho
        obtain rfl : 73 = d := Option.some.inj hd
        have g67 : a'.eval (.tmp 67) = .int .i64 (ra.length : Int) := hG ⟨1, .data⟩ (by simp) rfl 67 rfl
        have g72 : a'.eval (.tmp 72) = .int .i64 (ra.length : Int) := hG ⟨6, .data⟩ (by simp) rfl 72 rfl
        obtain ⟨ev, hev⟩ : ∃ ev, a'.eval = ev := ⟨_, rfl⟩
        rw [hev] at g67 g72 ⊢
        clear hev hG hk
        obtain ⟨c0, c1, c2, c3⟩ := cW X hB
        exact .inr ⟨rfl, .inl ⟨.bool true, X, by clear hs; go_simp, Below.refl _ _, rfl⟩⟩
      | 8, ho =>
        obtain rfl : _ = o := Option.some.inj ho
        obtain rfl : 74 = d := Option.some.inj hd
        have g73 : a'.eval (.tmp 73) = .bool true := hG ⟨7, .data⟩ (by simp) rfl 73 rfl
        obtain ⟨ev, hev⟩ : ∃ ev, a'.eval = ev := ⟨_, rfl⟩
        rw [hev] at g73 ⊢
        clear hev hG hk
        obtain ⟨c0, c1, c2, c3⟩ := cW X hB
        exact .inr ⟨rfl, .inl ⟨.bool true, X, by clear hs; go_simp, Below.refl _ _, rfl⟩⟩
      | 9, ho =>
        obtain rfl : _ = o := Option.some.inj ho
        obtain rfl : 75 = d := Option.some.inj hd
        have g0 : a'.eval (.tmp 0) = pv rb := hk 0 (by kernel_rfl)
        have gg : a'.eval (.tmp 74) = .bool true := hG ⟨8, .guard⟩ (by simp) rfl 74 rfl
        refine .inr ⟨want_yes (n := 100) (d := 74) rfl hs (by decide) rfl gg, .inl ⟨pv rb, X, ?_, Below.refl _ _, rfl⟩⟩
        obtain ⟨ev, hev⟩ : ∃ ev, a'.eval = ev := ⟨_, rfl⟩
        rw [hev] at g0 ⊢
        clear hev hG hk hs gg
        obtain ⟨c0, c1, c2, c3⟩ := cW X hB
        go_simp
      | 10, ho =>
        obtain rfl : _ = o := Option.some.inj ho
        obtain rfl : 76 = d := Option.some.inj hd
        have g5 : a'.eval (.tmp 5) = .pointer (some ⟨w.heap.size, 0, none⟩) := hk 5 (by kernel_rfl)
        have gg : a'.eval (.tmp 74) = .bool true := hG ⟨8, .guard⟩ (by simp) rfl 74 rfl
        refine .inr ⟨want_yes (n := 100) (d := 74) rfl hs (by decide) rfl gg, .inl ⟨.pointer (some ⟨w.heap.size, 2, none⟩), X, ?_, Below.refl _ _, rfl⟩⟩
        obtain ⟨ev, hev⟩ : ∃ ev, a'.eval = ev := ⟨_, rfl⟩
        rw [hev] at g5 ⊢
        clear hev hG hk hs gg
        obtain ⟨c0, c1, c2, c3⟩ := cW X hB
        go_simp
      | 11, ho =>
        obtain rfl : _ = o := Option.some.inj ho
        obtain rfl : 77 = d := Option.some.inj hd
        have g76 : a'.eval (.tmp 76) = .pointer (some ⟨w.heap.size, 2, none⟩) := hG ⟨10, .data⟩ (by simp) rfl 76 rfl
        have gg : a'.eval (.tmp 74) = .bool true := hG ⟨8, .guard⟩ (by simp) rfl 74 rfl
        refine .inr ⟨want_yes (n := 100) (d := 74) rfl hs (by decide) rfl gg, .inl ⟨.int .i64 sg, X, ?_, Below.refl _ _, rfl⟩⟩
        obtain ⟨ev, hev⟩ : ∃ ev, a'.eval = ev := ⟨_, rfl⟩
        rw [hev] at g76 ⊢
        clear hev hG hk hs gg
        obtain ⟨c0, c1, c2, c3⟩ := cW X hB
        go_simp
      | 12, ho =>
        obtain rfl : _ = o := Option.some.inj ho
        obtain rfl : 78 = d := Option.some.inj hd
        have g5 : a'.eval (.tmp 5) = .pointer (some ⟨w.heap.size, 0, none⟩) := hk 5 (by kernel_rfl)
        have gg : a'.eval (.tmp 74) = .bool true := hG ⟨8, .guard⟩ (by simp) rfl 74 rfl
        refine .inr ⟨want_yes (n := 100) (d := 74) rfl hs (by decide) rfl gg, .inl ⟨.pointer (some ⟨w.heap.size, 3, none⟩), X, ?_, Below.refl _ _, rfl⟩⟩
        obtain ⟨ev, hev⟩ : ∃ ev, a'.eval = ev := ⟨_, rfl⟩
        rw [hev] at g5 ⊢
        clear hev hG hk hs gg
        obtain ⟨c0, c1, c2, c3⟩ := cW X hB
        go_simp
      | 13, ho =>
        obtain rfl : _ = o := Option.some.inj ho
        obtain rfl : 79 = d := Option.some.inj hd
        have g78 : a'.eval (.tmp 78) = .pointer (some ⟨w.heap.size, 3, none⟩) := hG ⟨12, .data⟩ (by simp) rfl 78 rfl
        have gg : a'.eval (.tmp 74) = .bool true := hG ⟨8, .guard⟩ (by simp) rfl 74 rfl
        refine .inr ⟨want_yes (n := 100) (d := 74) rfl hs (by decide) rfl gg, .inl ⟨.int .i64 of, X, ?_, Below.refl _ _, rfl⟩⟩
        obtain ⟨ev, hev⟩ : ∃ ev, a'.eval = ev := ⟨_, rfl⟩
        rw [hev] at g78 ⊢
        clear hev hG hk hs gg
        obtain ⟨c0, c1, c2, c3⟩ := cW X hB
        go_simp
      | 14, ho =>
        obtain rfl : _ = o := Option.some.inj ho
        obtain rfl : 80 = d := Option.some.inj hd
        have g75 : a'.eval (.tmp 75) = pv rb := hG ⟨9, .data⟩ (by simp) rfl 75 rfl
        have g77 : a'.eval (.tmp 77) = .int .i64 sg := hG ⟨11, .data⟩ (by simp) rfl 77 rfl
        have g79 : a'.eval (.tmp 79) = .int .i64 of := hG ⟨13, .data⟩ (by simp) rfl 79 rfl
        have gg : a'.eval (.tmp 74) = .bool true := hG ⟨8, .guard⟩ (by simp) rfl 74 rfl
        refine .inr ⟨want_yes (n := 100) (d := 74) rfl hs (by decide) rfl gg, .inr ⟨23, #[pv rb, .int .i64 sg, .int .i64 of], ?_, ?_⟩⟩
        · have gF : a'.eval (.func 23) = .func (.func 23) #[] #[] := rfl
          obtain ⟨ev, hev⟩ : ∃ ev, a'.eval = ev := ⟨_, rfl⟩
          rw [hev] at gF g75 g77 g79 ⊢
          exact exec_call3 rfl gF g75 g77 g79 (enters_of Try.func23 (by kernel_rfl) rfl)
        exact (List_any X rb F all al N sg of isg iof (HPS.out X hB).rm (by omega)).mono fun e W' ⟨v, he, hr, hb⟩ => ⟨v, he, hb, hr.irv⟩
      | 15, ho =>
        obtain rfl : _ = o := Option.some.inj ho
        obtain rfl : 81 = d := Option.some.inj hd
        have g1 : a'.eval (.tmp 1) = pv qb := hk 1 (by kernel_rfl)
        have gg : a'.eval (.tmp 74) = .bool true := hG ⟨8, .guard⟩ (by simp) rfl 74 rfl
        refine .inr ⟨want_yes (n := 100) (d := 74) rfl hs (by decide) rfl gg, .inl ⟨pv qb, X, ?_, Below.refl _ _, rfl⟩⟩
        obtain ⟨ev, hev⟩ : ∃ ev, a'.eval = ev := ⟨_, rfl⟩
        rw [hev] at g1 ⊢
        clear hev hG hk hs gg
        obtain ⟨c0, c1, c2, c3⟩ := cW X hB
        go_simp
      | 16, ho =>
        obtain rfl : _ = o := Option.some.inj ho
        obtain rfl : 82 = d := Option.some.inj hd
        have g5 : a'.eval (.tmp 5) = .pointer (some ⟨w.heap.size, 0, none⟩) := hk 5 (by kernel_rfl)
        have gg : a'.eval (.tmp 74) = .bool true := hG ⟨8, .guard⟩ (by simp) rfl 74 rfl
        refine .inr ⟨want_yes (n := 100) (d := 74) rfl hs (by decide) rfl gg, .inl ⟨.pointer (some ⟨w.heap.size, 2, none⟩), X, ?_, Below.refl _ _, rfl⟩⟩
        obtain ⟨ev, hev⟩ : ∃ ev, a'.eval = ev := ⟨_, rfl⟩
        rw [hev] at g5 ⊢
        clear hev hG hk hs gg
        obtain ⟨c0, c1, c2, c3⟩ := cW X hB
        go_simp
      | 17, ho =>
        obtain rfl : _ = o := Option.some.inj ho
        obtain rfl : 83 = d := Option.some.inj hd
        have g82 : a'.eval (.tmp 82) = .pointer (some ⟨w.heap.size, 2, none⟩) := hG ⟨16, .data⟩ (by simp) rfl 82 rfl
        have gg : a'.eval (.tmp 74) = .bool true := hG ⟨8, .guard⟩ (by simp) rfl 74 rfl
        refine .inr ⟨want_yes (n := 100) (d := 74) rfl hs (by decide) rfl gg, .inl ⟨.int .i64 sg, X, ?_, Below.refl _ _, rfl⟩⟩
        obtain ⟨ev, hev⟩ : ∃ ev, a'.eval = ev := ⟨_, rfl⟩
        rw [hev] at g82 ⊢
        clear hev hG hk hs gg
        obtain ⟨c0, c1, c2, c3⟩ := cW X hB
        go_simp
      | 18, ho =>
        obtain rfl : _ = o := Option.some.inj ho
        obtain rfl : 84 = d := Option.some.inj hd
        have g5 : a'.eval (.tmp 5) = .pointer (some ⟨w.heap.size, 0, none⟩) := hk 5 (by kernel_rfl)
        have gg : a'.eval (.tmp 74) = .bool true := hG ⟨8, .guard⟩ (by simp) rfl 74 rfl
        refine .inr ⟨want_yes (n := 100) (d := 74) rfl hs (by decide) rfl gg, .inl ⟨.pointer (some ⟨w.heap.size, 3, none⟩), X, ?_, Below.refl _ _, rfl⟩⟩
        obtain ⟨ev, hev⟩ : ∃ ev, a'.eval = ev := ⟨_, rfl⟩
        rw [hev] at g5 ⊢
        clear hev hG hk hs gg
        obtain ⟨c0, c1, c2, c3⟩ := cW X hB
        go_simp
      | 19, ho =>
        obtain rfl : _ = o := Option.some.inj ho
        obtain rfl : 85 = d := Option.some.inj hd
        have g84 : a'.eval (.tmp 84) = .pointer (some ⟨w.heap.size, 3, none⟩) := hG ⟨18, .data⟩ (by simp) rfl 84 rfl
        have gg : a'.eval (.tmp 74) = .bool true := hG ⟨8, .guard⟩ (by simp) rfl 74 rfl
        refine .inr ⟨want_yes (n := 100) (d := 74) rfl hs (by decide) rfl gg, .inl ⟨.int .i64 of, X, ?_, Below.refl _ _, rfl⟩⟩
        obtain ⟨ev, hev⟩ : ∃ ev, a'.eval = ev := ⟨_, rfl⟩
        rw [hev] at g84 ⊢
        clear hev hG hk hs gg
        obtain ⟨c0, c1, c2, c3⟩ := cW X hB
        go_simp
      | 20, ho =>
        obtain rfl : _ = o := Option.some.inj ho
        obtain rfl : 86 = d := Option.some.inj hd
        have g81 : a'.eval (.tmp 81) = pv qb := hG ⟨15, .data⟩ (by simp) rfl 81 rfl
        have g83 : a'.eval (.tmp 83) = .int .i64 sg := hG ⟨17, .data⟩ (by simp) rfl 83 rfl
        have g85 : a'.eval (.tmp 85) = .int .i64 of := hG ⟨19, .data⟩ (by simp) rfl 85 rfl
        have gg : a'.eval (.tmp 74) = .bool true := hG ⟨8, .guard⟩ (by simp) rfl 74 rfl
        refine .inr ⟨want_yes (n := 100) (d := 74) rfl hs (by decide) rfl gg, .inr ⟨37, #[pv qb, .int .i64 sg, .int .i64 of], ?_, ?_⟩⟩
        · have gF : a'.eval (.func 37) = .func (.func 37) #[] #[] := rfl
          obtain ⟨ev, hev⟩ : ∃ ev, a'.eval = ev := ⟨_, rfl⟩
          rw [hev] at gF g81 g83 g85 ⊢
          exact exec_call3 rfl gF g81 g83 g85 (enters_of Try.func37 (by kernel_rfl) rfl)
        exact (rList_any X qb G ra rl N sg of (HPS.out X hB).rf (by omega)).mono fun e W' ⟨v, he, hr, hb⟩ => ⟨v, he, hb, by rw [HH.out.lk.list]; exact hr.irv⟩
      | 21, ho =>
        obtain rfl : _ = o := Option.some.inj ho
        obtain rfl : 87 = d := Option.some.inj hd
        have g80 : IRV (listA all sg of) (a'.eval (.tmp 80)) X := hG ⟨14, .data⟩ (by simp) rfl 80 rfl
        have g86 : IRV (listA all sg of) (a'.eval (.tmp 86)) X := hG ⟨20, .data⟩ (by simp) rfl 86 rfl
        have gg : a'.eval (.tmp 74) = .bool true := hG ⟨8, .guard⟩ (by simp) rfl 74 rfl
        refine .inr ⟨want_yes (n := 100) (d := 74) rfl hs (by decide) rfl gg, .inr ⟨24, #[a'.eval (.tmp 80), a'.eval (.tmp 86)], ?_, ?_⟩⟩
        · have gF : a'.eval (.func 24) = .func (.func 24) #[] #[] := rfl
          obtain ⟨ev, hev⟩ : ∃ ev, a'.eval = ev := ⟨_, rfl⟩
          rw [hev] at gF g80 g86 ⊢
          exact exec_call2 rfl gF rfl rfl (enters_of Try.func24 (by kernel_rfl) rfl)
        exact (SameInts_irv g80 g86 (by omega)).mono fun e W' ⟨he, hb⟩ => ⟨_, he, hb, rfl⟩
      | 22, ho =>
        obtain rfl : _ = o := Option.some.inj ho
        obtain rfl : 88 = d := Option.some.inj hd
        have g74 : a'.eval (.tmp 74) = .bool true := hG ⟨8, .data⟩ (by simp) rfl 74 rfl
        have g87 : a'.eval (.tmp 87) = .bool true := hG ⟨21, .data⟩ (by simp) rfl 87 rfl
        obtain ⟨ev, hev⟩ : ∃ ev, a'.eval = ev := ⟨_, rfl⟩
        rw [hev] at g74 g87 ⊢
        clear hev hG hk
        obtain ⟨c0, c1, c2, c3⟩ := cW X hB
        exact .inr ⟨rfl, .inl ⟨.bool true, X, by clear hs; go_simp, Below.refl _ _, rfl⟩⟩
      | 23, ho =>
        obtain rfl : _ = o := Option.some.inj ho
        obtain rfl : 89 = d := Option.some.inj hd
        have g88 : a'.eval (.tmp 88) = .bool true := hG ⟨22, .data⟩ (by simp) rfl 88 rfl
        obtain ⟨ev, hev⟩ : ∃ ev, a'.eval = ev := ⟨_, rfl⟩
        rw [hev] at g88 ⊢
        clear hev hG hk
        obtain ⟨c0, c1, c2, c3⟩ := cW X hB
        exact .inr ⟨rfl, .inl ⟨.bool true, X, by clear hs; go_simp, Below.refl _ _, rfl⟩⟩
      | 24, ho =>
        obtain rfl : _ = o := Option.some.inj ho
        obtain rfl : 90 = d := Option.some.inj hd
        have g0 : a'.eval (.tmp 0) = pv rb := hk 0 (by kernel_rfl)
        have gg : a'.eval (.tmp 89) = .bool true := hG ⟨23, .guard⟩ (by simp) rfl 89 rfl
        refine .inr ⟨want_yes (n := 100) (d := 89) rfl hs (by decide) rfl gg, .inl ⟨pv rb, X, ?_, Below.refl _ _, rfl⟩⟩
        obtain ⟨ev, hev⟩ : ∃ ev, a'.eval = ev := ⟨_, rfl⟩
        rw [hev] at g0 ⊢
        clear hev hG hk hs gg
        obtain ⟨c0, c1, c2, c3⟩ := cW X hB
        go_simp
      | 25, ho =>
        obtain rfl : _ = o := Option.some.inj ho
        obtain rfl : 91 = d := Option.some.inj hd
        have g5 : a'.eval (.tmp 5) = .pointer (some ⟨w.heap.size, 0, none⟩) := hk 5 (by kernel_rfl)
        have gg : a'.eval (.tmp 89) = .bool true := hG ⟨23, .guard⟩ (by simp) rfl 89 rfl
        refine .inr ⟨want_yes (n := 100) (d := 89) rfl hs (by decide) rfl gg, .inl ⟨.pointer (some ⟨w.heap.size, 1, none⟩), X, ?_, Below.refl _ _, rfl⟩⟩
        obtain ⟨ev, hev⟩ : ∃ ev, a'.eval = ev := ⟨_, rfl⟩
        rw [hev] at g5 ⊢
        clear hev hG hk hs gg
        obtain ⟨c0, c1, c2, c3⟩ := cW X hB
        go_simp
      | 26, ho =>
        obtain rfl : _ = o := Option.some.inj ho
        obtain rfl : 92 = d := Option.some.inj hd
        have g91 : a'.eval (.tmp 91) = .pointer (some ⟨w.heap.size, 1, none⟩) := hG ⟨25, .data⟩ (by simp) rfl 91 rfl
        have gg : a'.eval (.tmp 89) = .bool true := hG ⟨23, .guard⟩ (by simp) rfl 89 rfl
        refine .inr ⟨want_yes (n := 100) (d := 89) rfl hs (by decide) rfl gg, .inl ⟨.int .i64 th, X, ?_, Below.refl _ _, rfl⟩⟩
        obtain ⟨ev, hev⟩ : ∃ ev, a'.eval = ev := ⟨_, rfl⟩
        rw [hev] at g91 ⊢
        clear hev hG hk hs gg
        obtain ⟨c0, c1, c2, c3⟩ := cW X hB
        go_simp
      | 27, ho =>
        obtain rfl : _ = o := Option.some.inj ho
        obtain rfl : 93 = d := Option.some.inj hd
        have g90 : a'.eval (.tmp 90) = pv rb := hG ⟨24, .data⟩ (by simp) rfl 90 rfl
        have g92 : a'.eval (.tmp 92) = .int .i64 th := hG ⟨26, .data⟩ (by simp) rfl 92 rfl
        have gg : a'.eval (.tmp 89) = .bool true := hG ⟨23, .guard⟩ (by simp) rfl 89 rfl
        refine .inr ⟨want_yes (n := 100) (d := 89) rfl hs (by decide) rfl gg, .inr ⟨25, #[pv rb, .int .i64 th], ?_, ?_⟩⟩
        · have gF : a'.eval (.func 25) = .func (.func 25) #[] #[] := rfl
          obtain ⟨ev, hev⟩ : ∃ ev, a'.eval = ev := ⟨_, rfl⟩
          rw [hev] at gF g90 g92 ⊢
          exact exec_call2 rfl gF g90 g92 (enters_of Try.func25 (by kernel_rfl) rfl)
        exact (Alerts_any X rb F all al N th ith (HPS.out X hB).rm (by omega)).mono fun e W' ⟨v, he, hr, hb⟩ => ⟨v, he, hb, hr.irv⟩
      | 28, ho =>
        obtain rfl : _ = o := Option.some.inj ho
        obtain rfl : 94 = d := Option.some.inj hd
        have g1 : a'.eval (.tmp 1) = pv qb := hk 1 (by kernel_rfl)
        have gg : a'.eval (.tmp 89) = .bool true := hG ⟨23, .guard⟩ (by simp) rfl 89 rfl
        refine .inr ⟨want_yes (n := 100) (d := 89) rfl hs (by decide) rfl gg, .inl ⟨pv qb, X, ?_, Below.refl _ _, rfl⟩⟩
        obtain ⟨ev, hev⟩ : ∃ ev, a'.eval = ev := ⟨_, rfl⟩
        rw [hev] at g1 ⊢
        clear hev hG hk hs gg
        obtain ⟨c0, c1, c2, c3⟩ := cW X hB
        go_simp
      | 29, ho =>
        obtain rfl : _ = o := Option.some.inj ho
        obtain rfl : 95 = d := Option.some.inj hd
        have g5 : a'.eval (.tmp 5) = .pointer (some ⟨w.heap.size, 0, none⟩) := hk 5 (by kernel_rfl)
        have gg : a'.eval (.tmp 89) = .bool true := hG ⟨23, .guard⟩ (by simp) rfl 89 rfl
        refine .inr ⟨want_yes (n := 100) (d := 89) rfl hs (by decide) rfl gg, .inl ⟨.pointer (some ⟨w.heap.size, 1, none⟩), X, ?_, Below.refl _ _, rfl⟩⟩
        obtain ⟨ev, hev⟩ : ∃ ev, a'.eval = ev := ⟨_, rfl⟩
        rw [hev] at g5 ⊢
        clear hev hG hk hs gg
        obtain ⟨c0, c1, c2, c3⟩ := cW X hB
        go_simp
      | 30, ho =>
        obtain rfl : _ = o := Option.some.inj ho
        obtain rfl : 96 = d := Option.some.inj hd
        have g95 : a'.eval (.tmp 95) = .pointer (some ⟨w.heap.size, 1, none⟩) := hG ⟨29, .data⟩ (by simp) rfl 95 rfl
        have gg : a'.eval (.tmp 89) = .bool true := hG ⟨23, .guard⟩ (by simp) rfl 89 rfl
        refine .inr ⟨want_yes (n := 100) (d := 89) rfl hs (by decide) rfl gg, .inl ⟨.int .i64 th, X, ?_, Below.refl _ _, rfl⟩⟩
        obtain ⟨ev, hev⟩ : ∃ ev, a'.eval = ev := ⟨_, rfl⟩
        rw [hev] at g95 ⊢
        clear hev hG hk hs gg
        obtain ⟨c0, c1, c2, c3⟩ := cW X hB
        go_simp
      | 31, ho =>
        obtain rfl : _ = o := Option.some.inj ho
        obtain rfl : 97 = d := Option.some.inj hd
        have g94 : a'.eval (.tmp 94) = pv qb := hG ⟨28, .data⟩ (by simp) rfl 94 rfl
        have g96 : a'.eval (.tmp 96) = .int .i64 th := hG ⟨30, .data⟩ (by simp) rfl 96 rfl
        have gg : a'.eval (.tmp 89) = .bool true := hG ⟨23, .guard⟩ (by simp) rfl 89 rfl
        refine .inr ⟨want_yes (n := 100) (d := 89) rfl hs (by decide) rfl gg, .inr ⟨38, #[pv qb, .int .i64 th], ?_, ?_⟩⟩
        · have gF : a'.eval (.func 38) = .func (.func 38) #[] #[] := rfl
          obtain ⟨ev, hev⟩ : ∃ ev, a'.eval = ev := ⟨_, rfl⟩
          rw [hev] at gF g94 g96 ⊢
          exact exec_call2 rfl gF g94 g96 (enters_of Try.func38 (by kernel_rfl) rfl)
        exact (rOf_any X qb G ra rl N th (HPS.out X hB).rf (by omega)).mono fun e W' ⟨v, he, hr, hb⟩ => ⟨v, he, hb, by rw [← HH.out.lk.ofs]; exact hr.irv⟩
      | 32, ho =>
        obtain rfl : _ = o := Option.some.inj ho
        obtain rfl : 98 = d := Option.some.inj hd
        have g93 : IRV (al th) (a'.eval (.tmp 93)) X := hG ⟨27, .data⟩ (by simp) rfl 93 rfl
        have g97 : IRV (al th) (a'.eval (.tmp 97)) X := hG ⟨31, .data⟩ (by simp) rfl 97 rfl
        have gg : a'.eval (.tmp 89) = .bool true := hG ⟨23, .guard⟩ (by simp) rfl 89 rfl
        refine .inr ⟨want_yes (n := 100) (d := 89) rfl hs (by decide) rfl gg, .inr ⟨24, #[a'.eval (.tmp 93), a'.eval (.tmp 97)], ?_, ?_⟩⟩
        · have gF : a'.eval (.func 24) = .func (.func 24) #[] #[] := rfl
          obtain ⟨ev, hev⟩ : ∃ ev, a'.eval = ev := ⟨_, rfl⟩
          rw [hev] at gF g93 g97 ⊢
          exact exec_call2 rfl gF rfl rfl (enters_of Try.func24 (by kernel_rfl) rfl)
        exact (SameInts_irv g93 g97 (by rw [← HH.out.lk.ofs]; omega)).mono fun e W' ⟨he, hb⟩ => ⟨_, he, hb, rfl⟩
      | 33, ho =>
        obtain rfl : _ = o := Option.some.inj ho
        obtain rfl : 99 = d := Option.some.inj hd
        have g89 : a'.eval (.tmp 89) = .bool true := hG ⟨23, .data⟩ (by simp) rfl 89 rfl
        have g98 : a'.eval (.tmp 98) = .bool true := hG ⟨32, .data⟩ (by simp) rfl 98 rfl
        obtain ⟨ev, hev⟩ : ∃ ev, a'.eval = ev := ⟨_, rfl⟩
        rw [hev] at g89 g98 ⊢
        clear hev hG hk
        obtain ⟨c0, c1, c2, c3⟩ := cW X hB
        exact .inr ⟨rfl, .inl ⟨.bool true, X, by clear hs; go_simp, Below.refl _ _, rfl⟩⟩
      | j + 34, ho => simp at ho
    · intro a' X hB hs hdf hk hG
      obtain ⟨tm, df⟩ := a'
      obtain rfl : df = [] := hdf
      have e0 : tm.getD 0 undef = pv rb := hk 0 (by kernel_rfl)
      have e1 : tm.getD 1 undef = pv qb := hk 1 (by kernel_rfl)
      have e2 : tm.getD 2 undef = .agg #[.int .i64 kd, .int .i64 th, .int .i64 sg, .int .i64 of, .int .i64 cd] := hk 2 (by kernel_rfl)
      have e3 : tm.getD 3 undef = undef := hk 3 (by kernel_rfl)
      have e4 : tm.getD 4 undef = undef := hk 4 (by kernel_rfl)
      have e5 : tm.getD 5 undef = .pointer (some ⟨w.heap.size, 0, none⟩) := hk 5 (by kernel_rfl)
      have e6 : tm.getD 6 undef = .bool false := hk 6 (by kernel_rfl)
      have e7 : tm.getD 7 undef = .int .i64 0 := hk 7 (by kernel_rfl)
      have e8 : tm.getD 8 undef = .int .i64 0 := hk 8 (by kernel_rfl)
      have e9 : tm.getD 9 undef = .bool false := hk 9 (by kernel_rfl)
      have e10 : tm.getD 10 undef = .int .i64 (-1) := hk 10 (by kernel_rfl)
      have e11 : tm.getD 11 undef = .tuple #[.int .i64 0, .int .i64 0, .bool false] := hk 11 (by kernel_rfl)
      have e12 : tm.getD 12 undef = pv rb := hk 12 (by kernel_rfl)
      have e13 : tm.getD 13 undef = .pointer (some ⟨w.heap.size, 1, none⟩) := hk 13 (by kernel_rfl)
      have e14 : tm.getD 14 undef = .int .i64 th := hk 14 (by kernel_rfl)
      have e15 : tm.getD 15 undef = .tuple #[.int .i64 0, .int .i64 0, .bool false] := hk 15 (by kernel_rfl)
      have e16 : tm.getD 16 undef = .int .i64 0 := hk 16 (by kernel_rfl)
      have e17 : tm.getD 17 undef = .int .i64 0 := hk 17 (by kernel_rfl)
      have e18 : tm.getD 18 undef = .bool false := hk 18 (by kernel_rfl)
      have e19 : tm.getD 19 undef = pv qb := hk 19 (by kernel_rfl)
      have e20 : tm.getD 20 undef = .pointer (some ⟨w.heap.size, 1, none⟩) := hk 20 (by kernel_rfl)
      have e21 : tm.getD 21 undef = .int .i64 th := hk 21 (by kernel_rfl)
      have e22 : tm.getD 22 undef = .int .i64 (-1) := hk 22 (by kernel_rfl)
      have e23 : tm.getD 23 undef = .bool false := hk 23 (by kernel_rfl)
      have e24 : tm.getD 24 undef = .int .i64 (-1) := hk 24 (by kernel_rfl)
      have e25 : tm.getD 25 undef = .bool false := hk 25 (by kernel_rfl)
      have e26 : tm.getD 26 undef = .bool false := hk 26 (by kernel_rfl)
      have e27 : tm.getD 27 undef = .bool false := hk 27 (by kernel_rfl)
      have e28 : tm.getD 28 undef = .bool false := hk 28 (by kernel_rfl)
      have e29 : tm.getD 29 undef = .bool false := hk 29 (by kernel_rfl)
      have e30 : tm.getD 30 undef = undef := hk 30 (by kernel_rfl)
      have e31 : tm.getD 31 undef = undef := hk 31 (by kernel_rfl)
      have e32 : tm.getD 32 undef = undef := hk 32 (by kernel_rfl)
      have e33 : tm.getD 33 undef = undef := hk 33 (by kernel_rfl)
      have e34 : tm.getD 34 undef = undef := hk 34 (by kernel_rfl)
      have e35 : tm.getD 35 undef = undef := hk 35 (by kernel_rfl)
      have e36 : tm.getD 36 undef = undef := hk 36 (by kernel_rfl)
      have e37 : tm.getD 37 undef = undef := hk 37 (by kernel_rfl)
      have e38 : tm.getD 38 undef = undef := hk 38 (by kernel_rfl)
      have e39 : tm.getD 39 undef = undef := hk 39 (by kernel_rfl)
      have e40 : tm.getD 40 undef = undef := hk 40 (by kernel_rfl)
      have e41 : tm.getD 41 undef = undef := hk 41 (by kernel_rfl)
      have e42 : tm.getD 42 undef = undef := hk 42 (by kernel_rfl)
      have e43 : tm.getD 43 undef = undef := hk 43 (by kernel_rfl)
      have e44 : tm.getD 44 undef = undef := hk 44 (by kernel_rfl)
      have e45 : tm.getD 45 undef = undef := hk 45 (by kernel_rfl)
      have e46 : tm.getD 46 undef = undef := hk 46 (by kernel_rfl)
      have e47 : tm.getD 47 undef = undef := hk 47 (by kernel_rfl)
      have e48 : tm.getD 48 undef = undef := hk 48 (by kernel_rfl)
      have e49 : tm.getD 49 undef = undef := hk 49 (by kernel_rfl)
      have e50 : tm.getD 50 undef = undef := hk 50 (by kernel_rfl)
      have e51 : tm.getD 51 undef = undef := hk 51 (by kernel_rfl)
      have e52 : tm.getD 52 undef = .bool false := hk 52 (by kernel_rfl)
      have e53 : tm.getD 53 undef = .bool false := hk 53 (by kernel_rfl)
      have e54 : tm.getD 54 undef = .bool false := hk 54 (by kernel_rfl)
      have e55 : tm.getD 55 undef = .bool false := hk 55 (by kernel_rfl)
      have e56 : tm.getD 56 undef = .bool true := hk 56 (by kernel_rfl)
      have e57 : tm.getD 57 undef = .bool true := hk 57 (by kernel_rfl)
      have e58 : tm.getD 58 undef = .int .i64 0 := hk 58 (by kernel_rfl)
      have e59 : tm.getD 59 undef = .bool false := hk 59 (by kernel_rfl)
      have e60 : tm.getD 60 undef = .bool false := hk 60 (by kernel_rfl)
      have e61 : tm.getD 61 undef = .int .i64 0 := hk 61 (by kernel_rfl)
      have e62 : tm.getD 62 undef = .bool false := hk 62 (by kernel_rfl)
      have e63 : tm.getD 63 undef = .bool false := hk 63 (by kernel_rfl)
      have e64 : tm.getD 64 undef = .bool false := hk 64 (by kernel_rfl)
      have e65 : tm.getD 65 undef = .bool false := hk 65 (by kernel_rfl)
      have g66 : (tm.getD 66 undef) = pv rb := hG 0 66 (by decide) rfl
      have g67 : (tm.getD 67 undef) = .int .i64 (ra.length : Int) := hG 1 67 (by decide) rfl
      have g68 : (tm.getD 68 undef) = pv qb := hG 2 68 (by decide) rfl
      have g69 : (tm.getD 69 undef) = .pointer (some ⟨qb, 0, none⟩) := hG 3 69 (by decide) rfl
      have g70 : (tm.getD 70 undef) = .pointer (some ⟨qb, 0, none⟩) := hG 4 70 (by decide) rfl
      have g71 : (tm.getD 71 undef) = .slice sp1 ra.length cp1 := hG 5 71 (by decide) rfl
      have g72 : (tm.getD 72 undef) = .int .i64 (ra.length : Int) := hG 6 72 (by decide) rfl
      have g73 : (tm.getD 73 undef) = .bool true := hG 7 73 (by decide) rfl
      have g74 : (tm.getD 74 undef) = .bool true := hG 8 74 (by decide) rfl
      have g75 : (tm.getD 75 undef) = pv rb := hG 9 75 (by decide) rfl
      have g76 : (tm.getD 76 undef) = .pointer (some ⟨w.heap.size, 2, none⟩) := hG 10 76 (by decide) rfl
      have g77 : (tm.getD 77 undef) = .int .i64 sg := hG 11 77 (by decide) rfl
      have g78 : (tm.getD 78 undef) = .pointer (some ⟨w.heap.size, 3, none⟩) := hG 12 78 (by decide) rfl
      have g79 : (tm.getD 79 undef) = .int .i64 of := hG 13 79 (by decide) rfl
      have g80 : IRV (listA all sg of) ((tm.getD 80 undef)) X := hG 14 80 (by decide) rfl
      have g81 : (tm.getD 81 undef) = pv qb := hG 15 81 (by decide) rfl
      have g82 : (tm.getD 82 undef) = .pointer (some ⟨w.heap.size, 2, none⟩) := hG 16 82 (by decide) rfl
      have g83 : (tm.getD 83 undef) = .int .i64 sg := hG 17 83 (by decide) rfl
      have g84 : (tm.getD 84 undef) = .pointer (some ⟨w.heap.size, 3, none⟩) := hG 18 84 (by decide) rfl
      have g85 : (tm.getD 85 undef) = .int .i64 of := hG 19 85 (by decide) rfl
      have g86 : IRV (listA all sg of) ((tm.getD 86 undef)) X := hG 20 86 (by decide) rfl
      have g87 : (tm.getD 87 undef) = .bool true := hG 21 87 (by decide) rfl
      have g88 : (tm.getD 88 undef) = .bool true := hG 22 88 (by decide) rfl
      have g89 : (tm.getD 89 undef) = .bool true := hG 23 89 (by decide) rfl
      have g90 : (tm.getD 90 undef) = pv rb := hG 24 90 (by decide) rfl
      have g91 : (tm.getD 91 undef) = .pointer (some ⟨w.heap.size, 1, none⟩) := hG 25 91 (by decide) rfl
      have g92 : (tm.getD 92 undef) = .int .i64 th := hG 26 92 (by decide) rfl
      have g93 : IRV (al th) ((tm.getD 93 undef)) X := hG 27 93 (by decide) rfl
      have g94 : (tm.getD 94 undef) = pv qb := hG 28 94 (by decide) rfl
      have g95 : (tm.getD 95 undef) = .pointer (some ⟨w.heap.size, 1, none⟩) := hG 29 95 (by decide) rfl
      have g96 : (tm.getD 96 undef) = .int .i64 th := hG 30 96 (by decide) rfl
      have g97 : IRV (al th) ((tm.getD 97 undef)) X := hG 31 97 (by decide) rfl
      have g98 : (tm.getD 98 undef) = .bool true := hG 32 98 (by decide) rfl
      have g99 : (tm.getD 99 undef) = .bool true := hG 33 99 (by decide) rfl
      have htm := arr_of tm ((pv rb : Value) :: (pv qb : Value) :: (.agg #[.int .i64 kd, .int .i64 th, .int .i64 sg, .int .i64 of, .int .i64 cd] : Value) :: (undef : Value) :: (undef : Value) :: (.pointer (some ⟨w.heap.size, 0, none⟩) : Value) :: (.bool false : Value) :: (.int .i64 0 : Value) :: (.int .i64 0 : Value) :: (.bool false : Value) :: (.int .i64 (-1) : Value) :: (.tuple #[.int .i64 0, .int .i64 0, .bool false] : Value) :: (pv rb : Value) :: (.pointer (some ⟨w.heap.size, 1, none⟩) : Value) :: (.int .i64 th : Value) :: (.tuple #[.int .i64 0, .int .i64 0, .bool false] : Value) :: (.int .i64 0 : Value) :: (.int .i64 0 : Value) :: (.bool false : Value) :: (pv qb : Value) :: (.pointer (some ⟨w.heap.size, 1, none⟩) : Value) :: (.int .i64 th : Value) :: (.int .i64 (-1) : Value) :: (.bool false : Value) :: (.int .i64 (-1) : Value) :: (.bool false : Value) :: (.bool false : Value) :: (.bool false : Value) :: (.bool false : Value) :: (.bool false : Value) :: (undef : Value) :: (undef : Value) :: (undef : Value) :: (undef : Value) :: (undef : Value) :: (undef : Value) :: (undef : Value) :: (undef : Value) :: (undef : Value) :: (undef : Value) :: (undef : Value) :: (undef : Value) :: (undef : Value) :: (undef : Value) :: (undef : Value) :: (undef : Value) :: (undef : Value) :: (undef : Value) :: (undef : Value) :: (undef : Value) :: (undef : Value) :: (undef : Value) :: (.bool false : Value) :: (.bool false : Value) :: (.bool false : Value) :: (.bool false : Value) :: (.bool true : Value) :: (.bool true : Value) :: (.int .i64 0 : Value) :: (.bool false : Value) :: (.bool false : Value) :: (.int .i64 0 : Value) :: (.bool false : Value) :: (.bool false : Value) :: (.bool false : Value) :: (.bool false : Value) :: (tm.getD 66 undef : Value) :: (tm.getD 67 undef : Value) :: (tm.getD 68 undef : Value) :: (tm.getD 69 undef : Value) :: (tm.getD 70 undef : Value) :: (tm.getD 71 undef : Value) :: (tm.getD 72 undef : Value) :: (tm.getD 73 undef : Value) :: (tm.getD 74 undef : Value) :: (tm.getD 75 undef : Value) :: (tm.getD 76 undef : Value) :: (tm.getD 77 undef : Value) :: (tm.getD 78 undef : Value) :: (tm.getD 79 undef : Value) :: (tm.getD 80 undef : Value) :: (tm.getD 81 undef : Value) :: (tm.getD 82 undef : Value) :: (tm.getD 83 undef : Value) :: (tm.getD 84 undef : Value) :: (tm.getD 85 undef : Value) :: (tm.getD 86 undef : Value) :: (tm.getD 87 undef : Value) :: (tm.getD 88 undef : Value) :: (tm.getD 89 undef : Value) :: (tm.getD 90 undef : Value) :: (tm.getD 91 undef : Value) :: (tm.getD 92 undef : Value) :: (tm.getD 93 undef : Value) :: (tm.getD 94 undef : Value) :: (tm.getD 95 undef : Value) :: (tm.getD 96 undef : Value) :: (tm.getD 97 undef : Value) :: (tm.getD 98 undef : Value) :: (tm.getD 99 undef : Value) :: []) hs (by show (tm.getD 0 undef :: tm.getD 1 undef :: tm.getD 2 undef :: tm.getD 3 undef :: tm.getD 4 undef :: tm.getD 5 undef :: tm.getD 6 undef :: tm.getD 7 undef :: tm.getD 8 undef :: tm.getD 9 undef :: tm.getD 10 undef :: tm.getD 11 undef :: tm.getD 12 undef :: tm.getD 13 undef :: tm.getD 14 undef :: tm.getD 15 undef :: tm.getD 16 undef :: tm.getD 17 undef :: tm.getD 18 undef :: tm.getD 19 undef :: tm.getD 20 undef :: tm.getD 21 undef :: tm.getD 22 undef :: tm.getD 23 undef :: tm.getD 24 undef :: tm.getD 25 undef :: tm.getD 26 undef :: tm.getD 27 undef :: tm.getD 28 undef :: tm.getD 29 undef :: tm.getD 30 undef :: tm.getD 31 undef :: tm.getD 32 undef :: tm.getD 33 undef :: tm.getD 34 undef :: tm.getD 35 undef :: tm.getD 36 undef :: tm.getD 37 undef :: tm.getD 38 undef :: tm.getD 39 undef :: tm.getD 40 undef :: tm.getD 41 undef :: tm.getD 42 undef :: tm.getD 43 undef :: tm.getD 44 undef :: tm.getD 45 undef :: tm.getD 46 undef :: tm.getD 47 undef :: tm.getD 48 undef :: tm.getD 49 undef :: tm.getD 50 undef :: tm.getD 51 undef :: tm.getD 52 undef :: tm.getD 53 undef :: tm.getD 54 undef :: tm.getD 55 undef :: tm.getD 56 undef :: tm.getD 57 undef :: tm.getD 58 undef :: tm.getD 59 undef :: tm.getD 60 undef :: tm.getD 61 undef :: tm.getD 62 undef :: tm.getD 63 undef :: tm.getD 64 undef :: tm.getD 65 undef :: tm.getD 66 undef :: tm.getD 67 undef :: tm.getD 68 undef :: tm.getD 69 undef :: tm.getD 70 undef :: tm.getD 71 undef :: tm.getD 72 undef :: tm.getD 73 undef :: tm.getD 74 undef :: tm.getD 75 undef :: tm.getD 76 undef :: tm.getD 77 undef :: tm.getD 78 undef :: tm.getD 79 undef :: tm.getD 80 undef :: tm.getD 81 undef :: tm.getD 82 undef :: tm.getD 83 undef :: tm.getD 84 undef :: tm.getD 85 undef :: tm.getD 86 undef :: tm.getD 87 undef :: tm.getD 88 undef :: tm.getD 89 undef :: tm.getD 90 undef :: tm.getD 91 undef :: tm.getD 92 undef :: tm.getD 93 undef :: tm.getD 94 undef :: tm.getD 95 undef :: tm.getD 96 undef :: tm.getD 97 undef :: tm.getD 98 undef :: tm.getD 99 undef :: []) = _; rw [e0, e1, e2, e3, e4, e5, e6, e7, e8, e9, e10, e11, e12, e13, e14, e15, e16, e17, e18, e19, e20, e21, e22, e23, e24, e25, e26, e27, e28, e29, e30, e31, e32, e33, e34, e35, e36, e37, e38, e39, e40, e41, e42, e43, e44, e45, e46, e47, e48, e49, e50, e51, e52, e53, e54, e55, e56, e57, e58, e59, e60, e61, e62, e63, e64, e65]; try rfl)
      clear hs hk hG e0 e1 e2 e3 e4 e5 e6 e7 e8 e9 e10 e11 e12 e13 e14 e15 e16 e17 e18 e19 e20 e21 e22 e23 e24 e25 e26 e27 e28 e29 e30 e31 e32 e33 e34 e35 e36 e37 e38 e39 e40 e41 e42 e43 e44 e45 e46 e47 e48 e49 e50 e51 e52 e53 e54 e55 e56 e57 e58 e59 e60 e61 e62 e63 e64 e65
      generalize tm.getD 66 undef = t66 at htm g66
      generalize tm.getD 67 undef = t67 at htm g67
      generalize tm.getD 68 undef = t68 at htm g68
      generalize tm.getD 69 undef = t69 at htm g69
      generalize tm.getD 70 undef = t70 at htm g70
      generalize tm.getD 71 undef = t71 at htm g71
      generalize tm.getD 72 undef = t72 at htm g72
      generalize tm.getD 73 undef = t73 at htm g73
      generalize tm.getD 74 undef = t74 at htm g74
      generalize tm.getD 75 undef = t75 at htm g75
      generalize tm.getD 76 undef = t76 at htm g76
      generalize tm.getD 77 undef = t77 at htm g77
      generalize tm.getD 78 undef = t78 at htm g78
      generalize tm.getD 79 undef = t79 at htm g79
      generalize tm.getD 80 undef = t80 at htm g80
      generalize tm.getD 81 undef = t81 at htm g81
      generalize tm.getD 82 undef = t82 at htm g82
      generalize tm.getD 83 undef = t83 at htm g83
      generalize tm.getD 84 undef = t84 at htm g84
      generalize tm.getD 85 undef = t85 at htm g85
      generalize tm.getD 86 undef = t86 at htm g86
      generalize tm.getD 87 undef = t87 at htm g87
      generalize tm.getD 88 undef = t88 at htm g88
      generalize tm.getD 89 undef = t89 at htm g89
      generalize tm.getD 90 undef = t90 at htm g90
      generalize tm.getD 91 undef = t91 at htm g91
      generalize tm.getD 92 undef = t92 at htm g92
      generalize tm.getD 93 undef = t93 at htm g93
      generalize tm.getD 94 undef = t94 at htm g94
      generalize tm.getD 95 undef = t95 at htm g95
      generalize tm.getD 96 undef = t96 at htm g96
      generalize tm.getD 97 undef = t97 at htm g97
      generalize tm.getD 98 undef = t98 at htm g98
      generalize tm.getD 99 undef = t99 at htm g99
      subst htm
      subst g66
      subst g67
      subst g68
      subst g69
      subst g70
      subst g71
      subst g72
      subst g73
      subst g74
      subst g75
      subst g76
      subst g77
      subst g78
      subst g79
      subst g81
      subst g82
      subst g83
      subst g84
      subst g85
      subst g87
      subst g88
      subst g89
      subst g90
      subst g91
      subst g92
      subst g94
      subst g95
      subst g96
      subst g98
      subst g99
      simp only [List.drop_succ_cons, List.drop_zero]
      have HB := Lib.hid hB
      clear hB g80 g86 g93 g97
      go_wp2_with fail
      go_ret
      exact ⟨rfl, HB3.out.trans (HB.out.mono HB3.out.size)⟩
end Go.Proofs.Ythknnmllibdggaa
