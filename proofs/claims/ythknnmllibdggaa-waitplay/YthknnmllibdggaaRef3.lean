/- What Wait of the reference does. -/
import Derived.Test.YthknnmllibdggaaRef2
namespace Go.Proofs.Ythknnmllibdggaa
open Go.RowKit Go.Sort
theorem app_ones {W : World} {ops : Array Oper} {rest : List Oper} {o : Oper} {a : Act} {Q : Exit → Act → World → Prop} (hgd : o.guard = none) (s x : Operand)
    (ho : o.op = .call { callee := .builtin .append, args := #[s, x], argTypes := #[27, 27] }) (base b' : Nat) (v u : Value) (l l' : List Who) (hs : a.eval s = v) (hown : OR W base v l) (hx : a.eval x = u) (hu : OR W b' u l') (hb : base ≤ W.heap.size) (hn : l.length + l'.length < 2000000)
    (h : ∀ v' w', OR w' base v' (l ++ l') → W.grownBy w' v.ownBlock → wpList Try.prog ops Q rest (a.put o.dst v') w') : wpList Try.prog ops Q (o :: rest) a W := by
  obtain ⟨i0, hi, hz0, hz1, hz2⟩ := info_parts oneInfo
  rcases hu.2 with ⟨rfl, h0⟩ | ⟨g, cap, cur, rfl, h2, h3, h4⟩
  · have hl0 : l' = [] := List.length_eq_zero_iff.1 h0
    subst hl0
    refine wpList_append_own_none hgd s x 27 ho base 84 i0 3 (by kernel_rfl) hi v l.length (onesC l) hs hown hx (h v W (by rw [List.append_nil]; exact hown) ⟨rfl, rfl, rfl, Nat.le_refl _, fun _ _ _ => rfl⟩)
  · refine wpList_append_own_at _ hgd s x 27 ho base 84 i0 (.agg #[.int .i64 0, .int .i64 0, .int .i64 0]) 3 24 (by kernel_rfl) hi hz0 hz1 hz2 rfl (by decide) v l.length (onesC l) hs hown ⟨g, 0, none⟩ l'.length cap (onesC l') hx (onesC_len _) (fun j w hj => ?_) (onesC_cell _) (by unfold maxLen; omega) (by omega) hb ?_
    · have hjl : j < l'.length * 3 := by rw [← onesC_len]; exact (List.getElem?_eq_some_iff.1 hj).1
      have := hu.cellAt j hjl
      rw [show (⟨g, 0, none⟩ : Addr).add j = ⟨g, j, none⟩ from by simp [Addr.add]; exact Eq.symm, this, hj]
    · intro v' w' h1 h2 _ _
      refine h v' w' ?_ h2
      unfold OR
      rw [List.length_append, onesC_app]; exact h1
/-- What a call of the reference leaves. -/
def Nr (w w' : World) (qb : Nat) (G : Nat → Prop) (ra rl : List Who) (N : Nat) : Prop := ∃ G', RFx w' qb G' ra rl N ∧ Fm w w' (fun k => k = qb) ∧ (∀ k, G' k → G k ∨ w.heap.size ≤ k) ∧ ∀ k, G' k → k < w'.heap.size
theorem Nr.still {w w' : World} {qb N N' : Nat} {G : Nat → Prop} {ra rl : List Who} (h : RFx w qb G ra rl N) (hb : Below w.heap.size w w') (hN : N ≤ N') : Nr w w' qb G ra rl N' := by
  have h' := h.below hb
  obtain ⟨v1, v2, h1, h2, h3, h4, h5⟩ := h'.rows
  refine ⟨fun k => k = qb ∨ v1.ownBlock = some k ∨ v2.ownBlock = some k, ⟨⟨v1, v2, h1, h2, h3, fun k hk => .inr (.inl hk), fun k hk => .inr (.inr hk)⟩, .inl rfl, h.nd, Nat.le_trans h.lenA hN, Nat.le_trans h.lenL hN⟩, Fm.of_below hb _, fun k hk => .inl ?_, fun k hk => ?_⟩
  · rcases hk with rfl | hk | hk
    · exact h.gq
    · exact h4 k hk
    · exact h5 k hk
  · rcases hk with rfl | hk | hk
    · exact heap_lt h1
    · exact (h2.lt k hk).2
    · exact (h3.lt k hk).2
theorem RFx.setA {w W : World} {qb N N' : Nat} {G : Nat → Prop} {ra rl l : List Who} {v : Value} (h : RFx w qb G ra rl N) (hb : Below w.heap.size w W) (hv : OR W w.heap.size v l) (hnd : (l.map (·.1)).Nodup) (hl : l.length ≤ N') (hN : N ≤ N') : Nr w (W.setCell ⟨qb, 0, none⟩ v) qb G l rl N' := by
  have h' := h.below hb
  obtain ⟨v1, v2, h1, h2, h3, h4, h5⟩ := h'.rows
  have n1 : v.ownBlock ≠ some qb := row_ne hv h1 (by decide)
  have n2 : v2.ownBlock ≠ some qb := row_ne h3 h1 (by decide)
  refine ⟨fun k => k = qb ∨ v.ownBlock = some k ∨ v2.ownBlock = some k, ⟨⟨v, v2, ?_, ?_, ?_, fun k hk => .inr (.inl hk), fun k hk => .inr (.inr hk)⟩, .inl rfl, hnd, hl, Nat.le_trans h.lenL hN⟩, (Fm.of_below hb _).trans (Fm.setCell _ _ _) (fun _ _ e => e) (fun _ _ e => e), fun k hk => ?_, fun k hk => ?_⟩
  · rw [heap_setCell_same _ _ _ _ _ _ h1]; rfl
  · exact row_mono (row_same hv (fun k hk => heap_ne _ _ _ (fun e => n1 (by rw [hk, e])))) (Nat.zero_le _)
  · exact row_same h3 (fun k hk => heap_ne _ _ _ (fun e => n2 (by rw [hk, e])))
  · rcases hk with rfl | hk | hk
    · exact .inl h.gq
    · exact .inr (hv.lt k hk).1
    · exact .inl (h5 k hk)
  · have hz : (W.setCell ⟨qb, 0, none⟩ v).heap.size = W.heap.size := by simp
    rw [hz]
    rcases hk with rfl | hk | hk
    · exact heap_lt h1
    · exact (hv.lt k hk).2
    · exact (h3.lt k hk).2
theorem RFx.setL {w W : World} {qb N N' : Nat} {G : Nat → Prop} {ra rl l : List Who} {v : Value} (h : RFx w qb G ra rl N) (hb : Below w.heap.size w W) (hv : OR W w.heap.size v l) (hl : l.length ≤ N') (hN : N ≤ N') : Nr w (W.setCell ⟨qb, 1, none⟩ v) qb G ra l N' := by
  have h' := h.below hb
  obtain ⟨v1, v2, h1, h2, h3, h4, h5⟩ := h'.rows
  have n1 : v.ownBlock ≠ some qb := row_ne hv h1 (by decide)
  have n2 : v1.ownBlock ≠ some qb := row_ne h2 h1 (by decide)
  refine ⟨fun k => k = qb ∨ v.ownBlock = some k ∨ v1.ownBlock = some k, ⟨⟨v1, v, ?_, ?_, ?_, fun k hk => .inr (.inr hk), fun k hk => .inr (.inl hk)⟩, .inl rfl, h.nd, Nat.le_trans h.lenA hN, hl⟩, (Fm.of_below hb _).trans (Fm.setCell _ _ _) (fun _ _ e => e) (fun _ _ e => e), fun k hk => ?_, fun k hk => ?_⟩
  · rw [heap_setCell_same _ _ _ _ _ _ h1]; rfl
  · exact row_same h2 (fun k hk => heap_ne _ _ _ (fun e => n2 (by rw [hk, e])))
  · exact row_mono (row_same hv (fun k hk => heap_ne _ _ _ (fun e => n1 (by rw [hk, e])))) (Nat.zero_le _)
  · rcases hk with rfl | hk | hk
    · exact .inl h.gq
    · exact .inr (hv.lt k hk).1
    · exact .inl (h4 k hk)
  · have hz : (W.setCell ⟨qb, 1, none⟩ v).heap.size = W.heap.size := by simp
    rw [hz]
    rcases hk with rfl | hk | hk
    · exact heap_lt h1
    · exact (hv.lt k hk).2
    · exact (h2.lt k hk).2
theorem Nr.trans {a b c : World} {qb N N' : Nat} {G : Nat → Prop} {ra rl ra' rl' : List Who} (h : Nr a b qb G ra rl N) (k : ∀ G', RFx b qb G' ra rl N → (∀ k, G' k → k < b.heap.size) → Nr b c qb G' ra' rl' N') : Nr a c qb G ra' rl' N' := by
  obtain ⟨G1, h1, h2, h3, h4⟩ := h
  obtain ⟨G2, k1, k2, k3, k4⟩ := k G1 h1 h4
  exact ⟨G2, k1, h2.trans k2 (fun _ _ e => e) (fun _ _ e => e), fun k hk => (k3 k hk).elim (fun h => h3 k h) (fun h => .inr (Nat.le_trans h2.size h)), k4⟩
theorem nd_snoc {l : List Who} {x : Who} (h : (l.map (·.1)).Nodup) (hx : waitsA l x.1 = false) : ((l ++ [x]).map (·.1)).Nodup := by
  rw [List.map_append, List.nodup_append]
  refine ⟨h, by simp, fun a ha b hb e => ?_⟩
  simp at hb
  subst hb; subst e
  rw [waitsA_iff.2 ha] at hx; cases hx
set_option maxRecDepth 100000 in
set_option maxHeartbeats 4000000 in
theorem rWait_bad (w : World) (qb : Nat) (t s o : Int) (hc : (okN t && (okN s && okO o)) = false) :
    Calls Try.prog 30 #[pv qb, .int .i64 t, .int .i64 s, .int .i64 o] w fun e w' => e = .returned (.int .i64 1) ∧ w' = w := by
  have HI := Lib.hid (fun n => rid_any n)
  rcases (show okN t = false ∨ (okN t = true ∧ okN s = false) ∨ (okN t = true ∧ okN s = true ∧ o < 0) ∨ (okN t = true ∧ okN s = true ∧ ¬ o < 0 ∧ 4095 < o) by
    cases h1 : okN t with
    | false => exact .inl rfl
    | true =>
      cases h2 : okN s with
      | false => exact .inr (.inl ⟨rfl, rfl⟩)
      | true =>
        rw [h1, h2] at hc
        simp [okO] at hc
        by_cases h3 : o < 0
        · exact .inr (.inr (.inl ⟨rfl, rfl, h3⟩))
        · exact .inr (.inr (.inr ⟨rfl, rfl, h3, by have := hc (by omega); omega⟩))) with h1 | ⟨h1, h2⟩ | ⟨h1, h2, h3⟩ | ⟨h1, h2, h3, h4⟩
  all_goals
    clear hc
    go_enter Try.func30, Try.ntmps30
    go_wp2_with (go_at_call 52; refine (HI.out _ _).mono ?_; rintro e w2 ⟨rfl, hw2⟩; rw [hw2]; clear hw2 w2)
    go_ret
    exact ⟨rfl, rfl⟩
set_option maxRecDepth 100000 in
set_option maxHeartbeats 4000000 in
theorem rWait_good (w : World) (qb : Nat) (G : Nat → Prop) (ra rl : List Who) (N : Nat) (t s o : Int) (h : RFx w qb G ra rl N) (hN : N < 900000) (hc : (okN t && (okN s && okO o)) = true) :
    Calls Try.prog 30 #[pv qb, .int .i64 t, .int .i64 s, .int .i64 o] w fun e w' => e = .returned (.int .i64 (waitE ra (ofL rl) t s o)) ∧ Nr w w' qb G (if waitE ra (ofL rl) t s o = 0 then ra ++ [(t, s, o)] else ra) rl (N + 1) := by
  have HI := Lib.hid (fun n => rid_any n)
  have h1 : okN t = true := by simp at hc; exact hc.1
  have h2 : okN s = true := by simp at hc; exact hc.2.1
  have hoo : okO o = true := by simp at hc; exact hc.2.2
  have h3 : ¬ o < 0 := by unfold okO at hoo; simp at hoo; omega
  have h4 : ¬ 4095 < o := by unfold okO at hoo; simp at hoo; omega
  have HH := Lib.hid h
  unfold waitE
  rw [if_neg (by rw [hc]; simp)]
  clear hc hoo h
  by_cases hw : waitsA ra t = true
  · rw [if_pos hw]
    obtain ⟨m, hm, he, hno, _⟩ := waits_yes hw
    have HAt := Lib.hid (rAt_yes w qb G ra rl N t HH.out hN m hm he hno)
    have hmi : (0 : Int) ≤ (m : Int) := by omega
    clear hw he hno
    go_enter Try.func30, Try.ntmps30
    go_wp2_with (first
      | (go_at_call 52; refine (HI.out _ _).mono ?_; rintro e w2 ⟨rfl, hw2⟩; rw [hw2]; clear hw2 w2)
      | (go_at_call 36; refine HAt.out.mono ?_; rintro e w3 ⟨rfl, hb3⟩; have HB3 := Lib.hid hb3; clear hb3))
    go_ret
    exact ⟨rfl, Nr.still HH.out HB3.out (by omega)⟩
  · have hwf : waitsA ra t = false := by simpa using hw
    rw [if_neg hw]
    have HAt := Lib.hid (rAt_no w qb G ra rl N t HH.out hN hwf)
    have HOf := Lib.hid (fun w' => rOf_any w' qb G ra rl N t)
    have HWF := Lib.hid hwf
    clear hw hwf
    by_cases ha : ofL rl t = []
    · rw [if_neg (by simpa using ha), if_pos rfl]
      have hl1 := HH.out.lenA
      go_enter Try.func30, Try.ntmps30
      go_wp2_with (first
        | (go_at_call 52; refine (HI.out _ _).mono ?_; rintro e w2 ⟨rfl, hw2⟩; rw [hw2]; clear hw2 w2)
        | (go_at_call 36; refine HAt.out.mono ?_; rintro e w3 ⟨rfl, hb3⟩; have HB3 := Lib.hid hb3; clear hb3)
        | (go_at_call 38; refine (HOf.out _ (HH.out.below HB3.out) hN).mono ?_; rintro e w4 ⟨v4, rfl, hr4, hb4⟩; rw [ha] at hr4; obtain ⟨sp4, cp4, rfl⟩ := row_form hr4; refine Hid.out ?_))
      refine Lib.hid ?_
      have hB4 : Below w.heap.size w w4 := HB3.out.trans (hb4.mono HB3.out.size)
      have hz4 := hB4.size
      obtain ⟨W5, hW5⟩ : ∃ W5, w4.alloc (.cells #[] 84) = W5 := ⟨_, rfl⟩
      have b5 : Below w4.heap.size w4 W5 := by rw [← hW5]; exact (Below.refl _ _).alloc (Nat.le_refl _) _
      have hB5 : Below w.heap.size w W5 := hB4.trans (b5.mono hz4)
      have hr5 : OR W5 w.heap.size (.slice (some ⟨w4.heap.size, 0, none⟩) 0 0) [] := by rw [← hW5]; exact World.ownsRow_lit (base := w.heap.size) (e := 84) (size := 3) w4 #[] 0 hz4 (by decide) rfl
      obtain ⟨v1, v2, hq, ho1, ho2, _, _⟩ := (HH.out.below hB5).rows
      have q0 : W5.cell? ⟨qb, 0, none⟩ = some v1 := by rw [cell_of_row _ _ _ _ _ _ hq]; rfl
      obtain ⟨sp1, cp1, rfl⟩ := row_form ho1
      have HR5 := Lib.hid hr5
      have HO1 := Lib.hid ho1
      have HB5 := Lib.hid hB5
      have hz5 := hB5.size
      clear hr4 hb4 hB4 hz4 b5 hB5 hr5 hq ho1 ho2 HOf HAt
      go_wp2_with (at_builtin; refine app_ones rfl _ _ rfl w.heap.size 0 _ _ [] ra rfl HR5.out rfl HO1.out hz5 (by simp; omega) ?_; intro v6 w6 hr6 hg6; refine Hid.out ?_)
      refine Lib.hid ?_
      rw [List.nil_append] at hr6
      have hB6 : Below w.heap.size w w6 := Below.grown HB5.out hg6 hz5 (fun k hk => (HR5.out.lt k hk).1)
      obtain ⟨sp6, cp6, rfl⟩ := row_form hr6
      obtain ⟨W7, hW7⟩ : ∃ W7, w6.alloc (.cells #[.int .i64 t, .int .i64 s, .int .i64 o] 84) = W7 := ⟨_, rfl⟩
      have b7 : Below w6.heap.size w6 W7 := by rw [← hW7]; exact (Below.refl _ _).alloc (Nat.le_refl _) _
      have hr7 : OR W7 0 (.slice (some ⟨w6.heap.size, 0, none⟩) 1 1) [(t, s, o)] := by rw [← hW7]; exact World.ownsRow_lit (base := 0) (e := 84) (size := 3) w6 #[.int .i64 t, .int .i64 s, .int .i64 o] 1 (Nat.zero_le _) (by decide) rfl
      have hB7 : Below w.heap.size w W7 := hB6.trans (b7.mono hB6.size)
      have hr6' := hr6.below b7
      have HR7 := Lib.hid hr7
      have HR6 := Lib.hid hr6'
      have HB7 := Lib.hid hB7
      have hz7 := hB7.size
      clear hg6 hr6 hB6 b7 hr7 hB7 hr6' HR5 HO1 HB5 q0
      go_wp2_with (at_builtin; refine app_ones rfl _ _ rfl w.heap.size 0 _ _ ra [(t, s, o)] rfl HR6.out rfl HR7.out hz7 (by simp; omega) ?_; intro v8 w8 hr8 hg8; refine Hid.out ?_)
      refine Lib.hid ?_
      have hB8 : Below w.heap.size w w8 := Below.grown HB7.out hg8 hz7 (fun k hk => (HR6.out.lt k hk).1)
      obtain ⟨v1', v2', hq8, _, _, _, _⟩ := (HH.out.below hB8).rows
      have y0 : w8.cell? ⟨qb, 0, none⟩ = some v1' := by rw [cell_of_row _ _ _ _ _ _ hq8]; rfl
      have y1 : w8.frozen? ⟨qb, 0, none⟩ = false := by simp [World.frozen?, hq8]
      obtain ⟨sp8, cp8, rfl⟩ := row_form hr8
      have HR8 := Lib.hid hr8
      have HB8 := Lib.hid hB8
      clear hr8 hB8 hq8 hg8
      go_wp2_with fail
      go_ret
      have hr9 : OR w8 w.heap.size (.slice sp8 (ra.length + 1) cp8) (ra ++ [(t, s, o)]) := by
        have := HR8.out; unfold OR at this ⊢; rw [List.length_append] at this ⊢; exact this
      exact ⟨rfl, RFx.setA HH.out HB8.out hr9 (nd_snoc HH.out.nd HWF.out) (by simp; omega) (by omega)⟩
    · rw [if_pos ha, if_neg (by decide)]
      obtain ⟨n, hn⟩ : ∃ n, (ofL rl t).length = n := ⟨_, rfl⟩
      have hn0 : (0 : Int) < (n : Int) := by have := List.length_pos_iff.2 ha; omega
      clear ha
      go_enter Try.func30, Try.ntmps30
      go_wp2_with (first
        | (go_at_call 52; refine (HI.out _ _).mono ?_; rintro e w2 ⟨rfl, hw2⟩; rw [hw2]; clear hw2 w2)
        | (go_at_call 36; refine HAt.out.mono ?_; rintro e w3 ⟨rfl, hb3⟩; have HB3 := Lib.hid hb3; clear hb3)
        | (go_at_call 38; refine (HOf.out _ (HH.out.below HB3.out) hN).mono ?_; rintro e w4 ⟨v4, rfl, hr4, hb4⟩; obtain ⟨sp4, cp4, rfl⟩ := row_form hr4; rw [hn]; have HB4 := Lib.hid hb4; clear hr4 hb4))
      go_ret
      exact ⟨rfl, Nr.still HH.out (HB3.out.trans (HB4.out.mono HB3.out.size)) (by omega)⟩
theorem rWait_any (w : World) (qb : Nat) (G : Nat → Prop) (ra rl : List Who) (N : Nat) (t s o : Int) (h : RFx w qb G ra rl N) (hN : N < 900000) :
    Calls Try.prog 30 #[pv qb, .int .i64 t, .int .i64 s, .int .i64 o] w fun e w' => e = .returned (.int .i64 (waitE ra (ofL rl) t s o)) ∧ Nr w w' qb G (if waitE ra (ofL rl) t s o = 0 then ra ++ [(t, s, o)] else ra) rl (N + 1) := by
  cases hc : (okN t && (okN s && okO o)) with
  | true => exact rWait_good w qb G ra rl N t s o h hN hc
  | false =>
    refine (rWait_bad w qb t s o hc).mono ?_
    rintro e w' ⟨rfl, rfl⟩
    have he : waitE ra (ofL rl) t s o = 1 := by unfold waitE; rw [if_pos hc]
    rw [he, if_neg (by decide)]
    exact ⟨rfl, Nr.still h (Below.refl _ _) (by omega)⟩
end Go.Proofs.Ythknnmllibdggaa
