/- What Post, Take, Forget and Copy of the reference do. -/
import Derived.Test.YthknnmllibdggaaRef4
namespace Go.Proofs.Ythknnmllibdggaa
open Go.RowKit Go.Sort
theorem ofL_snoc (rl : List Who) (t c s : Int) : ofL (rl ++ [(t, 0, c)]) s = setI (ofL rl) t (ofL rl t ++ [c]) s := by
  unfold ofL setI
  rw [selL_snoc]
  by_cases e : s = t
  · subst e; rw [if_pos (by simp), if_pos rfl]
  · rw [if_neg (by simp; omega), if_neg e]
theorem ofL_cons (x : Who) (l : List Who) (t : Int) : ofL (x :: l) t = if x.1 = t then x.2.2 :: ofL l t else ofL l t := by
  unfold ofL selL
  rw [List.filter_cons]
  by_cases e : x.1 = t
  · rw [if_pos e, if_pos (by simp [e])]; rfl
  · rw [if_neg e, if_neg (by simp [e])]
theorem ofL_drop : ∀ (rl : List Who) (t s : Int), ofL (dropF rl t) s = setI (ofL rl) t (ofL rl t).tail s
  | [], t, s => by unfold setI; split <;> rfl
  | x :: l, t, s => by
    unfold dropF
    by_cases e : x.1 = t
    · rw [if_pos e]
      unfold setI
      by_cases e2 : s = t
      · rw [if_pos e2, ofL_cons, if_pos e, e2]; rfl
      · rw [if_neg e2, ofL_cons, if_neg (by rw [e]; exact fun h => e2 h.symm)]
    · rw [if_neg e, ofL_cons, ofL_drop l t s]
      unfold setI
      by_cases e2 : s = t
      · rw [if_pos e2, if_pos e2, e2, if_neg e, ofL_cons, if_neg e]
      · rw [if_neg e2, if_neg e2, ofL_cons]
theorem dropF_lt : ∀ {rl : List Who} {t : Int}, ofL rl t ≠ [] → (dropF rl t).length < rl.length
  | [], _, h => absurd rfl h
  | x :: l, t, h => by
    unfold dropF
    by_cases e : x.1 = t
    · rw [if_pos e]; simp
    · rw [if_neg e]
      rw [ofL_cons, if_neg e] at h
      have := dropF_lt h
      simp; omega
theorem ofL_len (rl : List Who) (t : Int) : (ofL rl t).length ≤ rl.length := selL_len _ _ _
/-- How long the row of alerts is. -/
def mlen (w : World) (qb : Nat) : Nat := match w.cell? ⟨qb, 1, none⟩ with | some (.slice _ n _) => n | _ => 0
theorem RFx.mlen {w : World} {qb N : Nat} {G : Nat → Prop} {ra rl : List Who} (h : RFx w qb G ra rl N) : mlen w qb = rl.length := by
  obtain ⟨v1, v2, hq, _, h3, _⟩ := h.rows
  obtain ⟨sp, cp, rfl⟩ := row_form h3
  unfold Go.Proofs.Ythknnmllibdggaa.mlen
  rw [show w.cell? ⟨qb, 1, none⟩ = some (.slice sp rl.length cp) from by rw [cell_of_row _ _ _ _ _ _ hq]; rfl]
set_option maxRecDepth 100000 in
set_option maxHeartbeats 4000000 in
theorem rPost_bad (w : World) (qb : Nat) (t c : Int) (hc : (okN t && (decide (0 ≤ c) && decide (c ≤ 255))) = false) :
    Calls Try.prog 32 #[pv qb, .int .i64 t, .int .i64 c] w fun e w' => e = .returned (.tuple #[.bool false, .int .i64 1]) ∧ w' = w := by
  have HI := Lib.hid (fun n => rid_any n)
  rcases (show okN t = false ∨ (okN t = true ∧ c < 0) ∨ (okN t = true ∧ ¬ c < 0 ∧ 255 < c) by
    cases h1 : okN t with
    | false => exact .inl rfl
    | true =>
      rw [h1] at hc
      simp at hc
      by_cases h3 : c < 0
      · exact .inr (.inl ⟨rfl, h3⟩)
      · exact .inr (.inr ⟨rfl, h3, by have := hc (by omega); omega⟩)) with h1 | ⟨h1, h3⟩ | ⟨h1, h3, h4⟩
  all_goals
    clear hc
    go_enter Try.func32, Try.ntmps32
    go_wp2_with (go_at_call 52; refine (HI.out _ _).mono ?_; rintro e w2 ⟨rfl, hw2⟩; rw [hw2]; clear hw2 w2)
    refine bodyPost_ret (v := .tuple #[.bool false, .int .i64 1]) (by simp [results, Try.results32, go_sem]) rfl ⟨rfl, ?_⟩
    rfl
set_option maxRecDepth 100000 in
set_option maxHeartbeats 4000000 in
theorem rPost_good (w : World) (qb : Nat) (G : Nat → Prop) (ra rl : List Who) (N : Nat) (t c : Int) (h : RFx w qb G ra rl N) (hN : N < 800000) (hc : (okN t && (decide (0 ≤ c) && decide (c ≤ 255))) = true) (h8 : (ofL rl t).length ≤ 8) :
    Calls Try.prog 32 #[pv qb, .int .i64 t, .int .i64 c] w fun e w' => e = .returned (.tuple #[.bool (postW ra (ofL rl) t c), .int .i64 (postE (ofL rl) t c)]) ∧ Nr w w' qb G (if postE (ofL rl) t c = 0 then dropT t ra else ra) (if postE (ofL rl) t c = 0 then rl ++ [(t, 0, c)] else rl) (N + 1) := by
  have HI := Lib.hid (fun n => rid_any n)
  have h1 : okN t = true := by simp at hc; exact hc.1
  have h3 : ¬ c < 0 := by simp at hc; omega
  have h4 : ¬ 255 < c := by simp at hc; omega
  have HH := Lib.hid h
  have HOf := Lib.hid (rOf_any w qb G ra rl N t h (by omega))
  have hl1 := h.lenA
  have hl2 := h.lenL
  have hPE : postE (ofL rl) t c = if 8 ≤ (ofL rl t).length then 7 else 0 := by unfold postE; rw [if_neg (by rw [hc]; simp)]
  unfold postW
  rw [hPE]
  clear hc h hPE
  by_cases h8' : 8 ≤ (ofL rl t).length
  · rw [if_pos h8', if_neg (by decide), if_neg (by decide)]
    obtain ⟨n, hn⟩ : ∃ n, (ofL rl t).length = n := ⟨_, rfl⟩
    have hn8 : ((n : Int) == 8) = true := by simp; omega
    clear h8 h8'
    go_enter Try.func32, Try.ntmps32
    go_wp2_with (first
      | (go_at_call 52; refine (HI.out _ _).mono ?_; rintro e w2 ⟨rfl, hw2⟩; rw [hw2]; clear hw2 w2)
      | (go_at_call 38; refine HOf.out.mono ?_; rintro e w4 ⟨v4, rfl, hr4, hb4⟩; obtain ⟨sp4, cp4, rfl⟩ := row_form hr4; rw [hn]; have HB4 := Lib.hid hb4; clear hr4 hb4))
    refine bodyPost_ret (v := .tuple #[.bool false, .int .i64 7]) (by simp [results, Try.results32, go_sem]) rfl ⟨rfl, ?_⟩
    exact Nr.still HH.out HB4.out (by omega)
  · rw [if_neg h8', if_pos rfl, if_pos rfl]
    have hz : (decide ((0 : Int) = 0) && waitsA ra t) = waitsA ra t := by simp
    rw [hz]
    clear hz
    obtain ⟨n, hn⟩ : ∃ n, (ofL rl t).length = n := ⟨_, rfl⟩
    have hn8 : ((n : Int) == 8) = false := by simp; omega
    clear h8 h8'
    go_enter Try.func32, Try.ntmps32
    go_wp2_with (first
      | (go_at_call 52; refine (HI.out _ _).mono ?_; rintro e w2 ⟨rfl, hw2⟩; rw [hw2]; clear hw2 w2)
      | (go_at_call 38; refine HOf.out.mono ?_; rintro e w4 ⟨v4, rfl, hr4, hb4⟩; obtain ⟨sp4, cp4, rfl⟩ := row_form hr4; rw [hn]; have HB4 := Lib.hid hb4; clear hr4 hb4; refine Hid.out ?_))
    refine Lib.hid ?_
    have hB4 := HB4.out
    have hz4 := hB4.size
    obtain ⟨W5, hW5⟩ : ∃ W5, w4.alloc (.cells #[] 84) = W5 := ⟨_, rfl⟩
    have b5 : Below w4.heap.size w4 W5 := by rw [← hW5]; exact (Below.refl _ _).alloc (Nat.le_refl _) _
    have hB5 : Below w.heap.size w W5 := hB4.trans (b5.mono hz4)
    have hr5 : OR W5 w.heap.size (.slice (some ⟨w4.heap.size, 0, none⟩) 0 0) [] := by rw [← hW5]; exact World.ownsRow_lit (base := w.heap.size) (e := 84) (size := 3) w4 #[] 0 hz4 (by decide) rfl
    obtain ⟨v1, v2, hq, ho1, ho2, _, _⟩ := (HH.out.below hB5).rows
    have q1 : W5.cell? ⟨qb, 1, none⟩ = some v2 := by rw [cell_of_row _ _ _ _ _ _ hq]; rfl
    obtain ⟨sp2, cp2, rfl⟩ := row_form ho2
    have HR5 := Lib.hid hr5
    have HO2 := Lib.hid ho2
    have HB5 := Lib.hid hB5
    have hz5 := hB5.size
    clear hB4 hz4 b5 hB5 hr5 hq ho1 ho2 HOf
    go_wp2_with (at_builtin; refine app_ones rfl _ _ rfl w.heap.size 0 _ _ [] rl rfl HR5.out rfl HO2.out hz5 (by simp; omega) ?_; intro v6 w6 hr6 hg6; refine Hid.out ?_)
    refine Lib.hid ?_
    rw [List.nil_append] at hr6
    have hB6 : Below w.heap.size w w6 := Below.grown HB5.out hg6 hz5 (fun k hk => (HR5.out.lt k hk).1)
    obtain ⟨sp6, cp6, rfl⟩ := row_form hr6
    obtain ⟨W7, hW7⟩ : ∃ W7, w6.alloc (.cells #[.int .i64 t, .int .i64 0, .int .i64 c] 84) = W7 := ⟨_, rfl⟩
    have b7 : Below w6.heap.size w6 W7 := by rw [← hW7]; exact (Below.refl _ _).alloc (Nat.le_refl _) _
    have hr7 : OR W7 0 (.slice (some ⟨w6.heap.size, 0, none⟩) 1 1) [(t, 0, c)] := by rw [← hW7]; exact World.ownsRow_lit (base := 0) (e := 84) (size := 3) w6 #[.int .i64 t, .int .i64 0, .int .i64 c] 1 (Nat.zero_le _) (by decide) rfl
    have hB7 : Below w.heap.size w W7 := hB6.trans (b7.mono hB6.size)
    have hr6' := hr6.below b7
    have HR7 := Lib.hid hr7
    have HR6 := Lib.hid hr6'
    have HB7 := Lib.hid hB7
    have hz7 := hB7.size
    clear hg6 hr6 hB6 b7 hr7 hB7 hr6' HR5 HO2 HB5 q1
    go_wp2_with (at_builtin; refine app_ones rfl _ _ rfl w.heap.size 0 _ _ rl [(t, 0, c)] rfl HR6.out rfl HR7.out hz7 (by simp; omega) ?_; intro v8 w8 hr8 hg8; refine Hid.out ?_)
    refine Lib.hid ?_
    have hB8 : Below w.heap.size w w8 := Below.grown HB7.out hg8 hz7 (fun k hk => (HR6.out.lt k hk).1)
    obtain ⟨v1', v2', hq8, _, _, _, _⟩ := (HH.out.below hB8).rows
    have y0 : w8.cell? ⟨qb, 1, none⟩ = some v2' := by rw [cell_of_row _ _ _ _ _ _ hq8]; rfl
    have y1 : w8.frozen? ⟨qb, 1, none⟩ = false := by simp [World.frozen?, hq8]
    obtain ⟨sp8, cp8, rfl⟩ := row_form hr8
    have hl8 : (rl ++ [(t, 0, c)]).length = rl.length + 1 := by simp
    obtain ⟨m8, hm8⟩ : ∃ m8, rl.length + 1 = m8 := ⟨_, rfl⟩
    rw [hl8, hm8] at hr8 ⊢
    have hr9 := hr8
    obtain ⟨W9, hW9⟩ : ∃ W9, w8.setCell ⟨qb, 1, none⟩ (.slice sp8 m8 cp8) = W9 := ⟨_, rfl⟩
    have hN9 : Nr w W9 qb G ra (rl ++ [(t, 0, c)]) (N + 1) := by rw [← hW9]; exact RFx.setL HH.out hB8 hr9 (by rw [hl8]; omega) (by omega)
    have HN9 := Lib.hid hN9
    obtain ⟨G9, h9, _, _, h9l⟩ := hN9
    have H9 := Lib.hid h9
    clear hr8 hB8 hq8 hg8 hr9 HR6 HR7 HB7 hm8 hl8
    have hAt : ∃ z : Int, (decide (0 ≤ z)) = waitsA ra t ∧ Calls Try.prog 36 #[pv qb, .int .i64 t] W9 fun e w' => e = .returned (.int .i64 z) ∧ Below W9.heap.size W9 w' := by
      cases hw : waitsA ra t with
      | false => exact ⟨-1, by decide, rAt_no W9 qb G9 ra _ _ t h9 (by omega) hw⟩
      | true =>
        obtain ⟨m, hm, he, hno, _⟩ := waits_yes hw
        exact ⟨m, by simp, rAt_yes W9 qb G9 ra _ _ t h9 (by omega) m hm he hno⟩
    obtain ⟨z, hz0, hAt⟩ := hAt
    have HAt := Lib.hid hAt
    clear hAt h9 h9l
    rcases (show (0 ≤ z ∧ waitsA ra t = true) ∨ (¬ 0 ≤ z ∧ waitsA ra t = false) by
      by_cases h : 0 ≤ z
      · exact .inl ⟨h, by rw [← hz0]; simp [h]⟩
      · exact .inr ⟨h, by rw [← hz0]; simp [h]⟩) with ⟨hzz, hwb⟩ | ⟨hzz, hwb⟩
    all_goals
     have HWB := Lib.hid hwb
     clear hwb hz0
     go_wp2_with (go_at_call 36; refine HAt.out.mono ?_; rintro e w10 ⟨rfl, hb10⟩; refine Hid.out ?_)
     refine Lib.hid ?_
     obtain ⟨u1, u2, hq10, ho10, _, _, _⟩ := (H9.out.below hb10).rows
     have q0 : w10.cell? ⟨qb, 0, none⟩ = some u1 := by rw [cell_of_row _ _ _ _ _ _ hq10]; rfl
     have HD := Lib.hid (rdrop_any w10 0 u1 ra t ho10 (by omega))
     have HQ := Lib.hid hq10
     have HB10 := Lib.hid hb10
     obtain ⟨sp10, cp10, rfl⟩ := row_form ho10
     clear hq10 ho10 hb10 HAt
     go_wp2_with (go_at_call 53; refine HD.out.mono ?_; rintro e w11 ⟨v11, rfl, hr11, hb11⟩; obtain ⟨sp11, cp11, rfl⟩ := row_form hr11; have hq11 := (hb11.block _ (heap_lt HQ.out)).trans HQ.out; have z0 : w11.cell? ⟨qb, 0, none⟩ = some _ := (by rw [cell_of_row _ _ _ _ _ _ hq11]; rfl); have z1 : w11.frozen? ⟨qb, 0, none⟩ = false := (by simp [World.frozen?, hq11]); have HR11 := Lib.hid hr11; have HB11 := Lib.hid hb11; clear hq11 hr11 hb11)
     refine bodyPost_ret (v := .tuple #[.bool (waitsA ra t), .int .i64 0]) (by rw [HWB.out]; simp [results, Try.results32, go_sem]; try omega) rfl ⟨rfl, HN9.out.trans (fun G' h9 _ => ?_)⟩
     have hr12 := HR11.out
     rw [dropF_eq h9.nd] at hr12 ⊢
     exact h9.setA (HB10.out.trans (HB11.out.mono HB10.out.size)) (row_mono hr12 HB10.out.size) (nd_dropT h9.nd t) (by have := dropT_len t ra; omega) (by omega)
end Go.Proofs.Ythknnmllibdggaa
