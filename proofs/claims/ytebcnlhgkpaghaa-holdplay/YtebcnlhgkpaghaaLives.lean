/- The law's lives answers true: the chapter's first example. -/
import Derived.Test.YtebcnlhgkpaghaaDrop
import Derived.Test.YtebcnlhgkpaghaaNewT
import Derived.Test.YtebcnlhgkpaghaaMakeQ
namespace Go.Proofs.Ytebcnlhgkpaghaa
open Go.RowKit Go.Sort
theorem plain_any (w : World) : Calls Try.prog 9 #[] w fun e w' => e = .returned (.agg #[.int .i64 2, .slice none 0 0]) ∧ Below w.heap.size w w' := by
  go_enter Try.func9, Try.ntmps9
  go_wp2
  refine bodyPost_ret (by simp [results, Try.results9, go_sem]) rfl ⟨rfl, ?_⟩
  go_grown
theorem cats0 (w : World) : CatsAt w none [] := fun j h => by simp at h
theorem Fm.below {w w' : World} {F F' : Nat → Prop} {b : Nat} (h : Fm w w' F F') (hb : b ≤ w.heap.size) (hF : ∀ k, F k → b ≤ k) : Below b w w' :=
  ⟨h.os, h.tape, h.output, h.size, fun k hk => h.same k (by omega) (fun e => by have := hF k e; omega)⟩
theorem TAt.belowF {w w' : World} {base tb mb : Nat} {D : DataW Unit} {T : Tab} (h : TAt w base tb mb D T) {F' : Nat → Prop} (hF : Fm w w' (tfoot tb mb T) F') : Below base w w' :=
  hF.below (by have := h.lt (.inl rfl); omega) (fun k hk => (h.lt hk).1)
theorem loos2 {T : Tab} {s u : Rc} (h5 : T 5 = some s) (hl : s.ob.links = 1) (he : s.ob.ents = [7]) (h7 : T 7 = some u) (hu : 1 < u.ob.links) : loosF 2 T 5 [] = some (upd (del T 5) 7 (decR u), [5]) := by
  have hd : del T 5 7 = some u := by unfold del; rw [if_neg (by decide)]; exact h7
  unfold loosF
  rw [h5]
  simp only [hl, he]
  rw [if_neg (by decide)]
  unfold foldF loosF
  simp only [hd, if_pos hu]
  rfl
theorem loos1 {T : Tab} {u : Rc} (h7 : T 7 = some u) (hl : u.ob.links = 1) (he : u.ob.ents = []) : loosF 1 T 7 [] = some (del T 7, [7]) := by
  unfold loosF
  rw [h7]
  simp only [hl, he]
  rw [if_neg (by decide)]
  rfl
set_option maxRecDepth 100000 in
set_option maxHeartbeats 1000000 in
theorem lives_any (w : World) : Calls Try.prog 4 #[] w fun e w' => e = .returned (.bool true) ∧ Below w.heap.size w w' := by
  have HP := Lib.hid plain_any
  have HN := Lib.hid (fun W => New_any 1 2 none 0 [] W (by simp) (cats0 W) (by decide) (by decide))
  go_enter Try.func4, Try.ntmps4
  go_wp2_with (first
    | (go_at_call 9; refine (HP.out _).mono ?_; rintro e w1 ⟨rfl, hb1⟩)
    | (go_at_call 5; refine (HN.out _).mono ?_; rintro e w2 ⟨tb, mb, D, r, rfl, hA2, hr2, hz2, hb2⟩; refine Hid.out ?_))
  refine Lib.hid ?_
  have B2 : Below w.heap.size w w2 := hb1.trans (hb2.mono hb1.size)
  have hbase : w.heap.size ≤ w1.heap.size := hb1.size
  clear hb1 hb2 HN
  generalize w1.heap.size = base at hA2 hbase
  go_wp2_with (first
    | (go_at_call 9; refine (HP.out _).mono ?_; rintro e w3 ⟨rfl, hb3⟩; refine Hid.out ?_))
  refine Lib.hid ?_
  have B3 := B2.trans (hb3.mono B2.size)
  have hA3 := hA2.below hb3
  have HM := Lib.hid (Make_ok hA3 1 5 1 100 2 none 0 [] r (by simp) (cats0 _) (by unfold i64; omega) (by unfold T0; rw [if_pos rfl]) (by rw [hr2]; rfl) (by omega) (by omega) (by decide) (by decide) (by unfold T0; rw [if_neg (by decide)]) (by omega) (by rw [hr2]; decide) (by rw [hr2]; decide) (by rw [hr2]; decide) (by rw [hr2]; decide))
  go_wp2_with (first
    | (go_at_call 10; refine HM.out.mono ?_; rintro e w4 ⟨rfl, D4, r4, s4, hA4, hr4, hs4, hz4, hF4⟩; refine Hid.out ?_))
  refine Lib.hid ?_
  have B4 := B3.trans ((hA3.belowF hF4).mono hbase)
  rw [hr2] at hr4
  obtain ⟨T4, hT4⟩ : ∃ T4, upd (upd (T0 1 r) 1 r4) 5 s4 = T4 := ⟨_, rfl⟩
  rw [hT4] at hA4
  have t41 : T4 1 = some r4 := by rw [← hT4]; unfold upd; rw [if_neg (by decide), if_pos rfl]
  have t45 : T4 5 = some s4 := by rw [← hT4]; unfold upd; rw [if_pos rfl]
  have t4o : ∀ k, k ≠ 1 → k ≠ 5 → T4 k = none := fun k h1 h2 => by rw [← hT4]; unfold upd; rw [if_neg h2, if_neg h1]; unfold T0; rw [if_neg h1]
  clear HM hA2 hA3 hF4 hT4 hb3
  go_wp2_with (first
    | (go_at_call 9; refine (HP.out _).mono ?_; rintro e w5 ⟨rfl, hb5⟩; refine Hid.out ?_))
  refine Lib.hid ?_
  have B5 := B4.trans (hb5.mono B4.size)
  have hA5 := hA4.below hb5
  have HM := Lib.hid (Make_ok hA5 5 7 2 60 2 none 0 [] s4 (by simp) (cats0 _) (by unfold i64; omega) t45 (by rw [hs4]; rfl) (by omega) (by omega) (by decide) (by decide) (t4o 7 (by decide) (by decide)) (by omega) (by rw [hs4]; decide) (by rw [hs4]; decide) (by rw [hs4]; decide) (by rw [hs4]; decide))
  go_wp2_with (first
    | (go_at_call 10; refine HM.out.mono ?_; rintro e w6 ⟨rfl, D6, s6, u6, hA6, hs6, hu6, hz6, hF6⟩; refine Hid.out ?_))
  refine Lib.hid ?_
  have B6 := B5.trans ((hA5.belowF hF6).mono hbase)
  rw [hs4] at hs6
  obtain ⟨T6, hT6⟩ : ∃ T6, upd (upd T4 5 s6) 7 u6 = T6 := ⟨_, rfl⟩
  rw [hT6] at hA6
  have t61 : T6 1 = some r4 := by rw [← hT6]; unfold upd; rw [if_neg (by decide), if_neg (by decide)]; exact t41
  have t65 : T6 5 = some s6 := by rw [← hT6]; unfold upd; rw [if_neg (by decide), if_pos rfl]
  have t67 : T6 7 = some u6 := by rw [← hT6]; unfold upd; rw [if_pos rfl]
  have t6o : ∀ k, k ≠ 1 → k ≠ 5 → k ≠ 7 → T6 k = none := fun k h1 h2 h3 => by rw [← hT6]; unfold upd; rw [if_neg h3, if_neg h2]; exact t4o k h1 h2
  clear HM hA4 hA5 hF6 hT6 t41 t45 t4o hb5
  go_wp2_with (first
    | (go_at_call 9; refine (HP.out _).mono ?_; rintro e w7 ⟨rfl, hb7⟩; refine Hid.out ?_))
  refine Lib.hid ?_
  have B7 := B6.trans (hb7.mono B6.size)
  have hA7 := hA6.below hb7
  have HM := Lib.hid (Make_quota hA7 5 8 2 41 2 none 0 [] s6 (by simp) (cats0 _) (by unfold i64; omega) t65 (by rw [hs6]; rfl) (by omega) (by omega) (by decide) (by decide) (t6o 8 (by decide) (by decide) (by decide)) (by omega) (by rw [hs6]; decide) (by rw [hs6]; decide) (by rw [hs6]; decide) (by rw [hs6]; decide))
  go_wp2_with (first
    | (go_at_call 10; refine HM.out.mono ?_; rintro e w8 ⟨rfl, hb8⟩; refine Hid.out ?_))
  refine Lib.hid ?_
  have B8 := B7.trans (hb8.mono B7.size)
  have hA8 := hA7.below hb8
  clear HM hA6 hA7 hb7 hb8
  have HK := Lib.hid (Link_ok hA8 1 7 (by unfold i64; omega) (by unfold i64; omega) r4 u6 t61 t67 (by decide) (by rw [hr4]; rfl) (by rw [hu6]; rfl) (by rw [hr4]; decide) (by rw [hr4]; decide) (by rw [hr4, hu6]; decide) (by rw [hr4]; decide) (by rw [hr4]; decide) (by rw [hu6]; decide) (by rw [hu6]; decide))
  go_wp2_with (first
    | (go_at_call 11; refine HK.out.mono ?_; rintro e w9 ⟨rfl, iv9, hA9, hF9⟩; refine Hid.out ?_))
  refine Lib.hid ?_
  have B9 := B8.trans ((hA8.belowF hF9).mono hbase)
  obtain ⟨r9, hr9⟩ : ∃ r9, linkR r4 u6 iv9 = r9 := ⟨_, rfl⟩
  obtain ⟨u9, hu9⟩ : ∃ u9, upR u6 = u9 := ⟨_, rfl⟩
  rw [hr9, hu9] at hA9
  obtain ⟨T9, hT9⟩ : ∃ T9, upd (upd T6 1 r9) 7 u9 = T9 := ⟨_, rfl⟩
  rw [hT9] at hA9
  have t91 : T9 1 = some r9 := by rw [← hT9]; unfold upd; rw [if_neg (by decide), if_pos rfl]
  have t95 : T9 5 = some s6 := by rw [← hT9]; unfold upd; rw [if_neg (by decide), if_neg (by decide)]; exact t65
  have t97 : T9 7 = some u9 := by rw [← hT9]; unfold upd; rw [if_pos rfl]
  have t9o : ∀ k, k ≠ 1 → k ≠ 5 → k ≠ 7 → T9 k = none := fun k h1 h2 h3 => by rw [← hT9]; unfold upd; rw [if_neg h3, if_neg h1]; exact t6o k h1 h2 h3
  have o9 : r9.ob = ⟨1, 1, 1099511627776, 160, 1, 2, [], [5, 7]⟩ := by
    rw [← hr9]; show ({ r4.ob with used := r4.ob.used + u6.ob.quota, ents := r4.ob.ents ++ [u6.ob.id] } : Ob) = _; rw [hr4, hu6]; rfl
  have p9 : u9.ob = ⟨7, 2, 60, 0, 2, 2, [], []⟩ := by
    rw [← hu9]; show ({ u6.ob with links := u6.ob.links + 1 } : Ob) = _; rw [hu6]; rfl
  have s9 : s6.ob = ⟨5, 1, 100, 60, 1, 2, [], [7]⟩ := by rw [hs6]; rfl
  have g9 : GoodT T9 := fun k t ht => by
    by_cases h1 : k = 1
    · subst h1; rw [t91] at ht; cases ht; rw [o9]; exact ⟨by unfold i64; omega, fun x hx => by simp at hx; unfold i64; omega, by simp, by decide, by decide⟩
    · by_cases h2 : k = 5
      · subst h2; rw [t95] at ht; cases ht; rw [s9]; exact ⟨by unfold i64; omega, fun x hx => by simp at hx; unfold i64; omega, by simp, by decide, by decide⟩
      · by_cases h3 : k = 7
        · subst h3; rw [t97] at ht; cases ht; rw [p9]; exact ⟨by unfold i64; omega, fun x hx => by simp at hx, by simp, by decide, by decide⟩
        · rw [t9o k h1 h2 h3] at ht; cases ht
  have L2 : ∀ iv, loosF 2 (upd T9 1 (dropR r9 s6 5 iv)) 5 [] = some (upd (del (upd T9 1 (dropR r9 s6 5 iv)) 5) 7 (decR u9), [5]) := fun iv => loos2 (s := s6) (u := u9) (by unfold upd; rw [if_neg (by decide)]; exact t95) (by rw [s9]) (by rw [s9]) (by unfold upd; rw [if_neg (by decide)]; exact t97) (by rw [p9]; decide)
  have HD1 := Lib.hid (Drop_ok hA9 1 5 (by unfold i64; omega) (by unfold i64; omega) r9 s6 t91 t95 (by decide) (by rw [o9]) (by rw [o9]; decide) g9 (by omega) (by rw [o9, s9]; unfold i64; decide) 2 (fun iv => ⟨_, L2 iv⟩))
  clear HK hA8 hF9 hT9
  go_wp2_with (first
    | (go_at_call 12; refine HD1.out.mono ?_; rintro e w10 ⟨iv10, T10, gone10, gv10, D10, hlo, rfl, hA10, hrow10, hz10, hsub10, g10, hF10⟩; refine Hid.out ?_))
  refine Lib.hid ?_
  rw [L2 iv10] at hlo
  obtain ⟨hT10, rfl⟩ : upd (del (upd T9 1 (dropR r9 s6 5 iv10)) 5) 7 (decR u9) = T10 ∧ [5] = gone10 := by simpa using hlo
  obtain ⟨d10, hd10⟩ : ∃ d, dropR r9 s6 5 iv10 = d := ⟨_, rfl⟩
  obtain ⟨v10, hv10⟩ : ∃ v, decR u9 = v := ⟨_, rfl⟩
  rw [hd10, hv10] at hT10
  have t1 : T10 1 = some d10 := by rw [← hT10]; unfold upd; rw [if_neg (by decide)]; unfold del; rw [if_neg (by decide)]; exact if_pos rfl
  have t7 : T10 7 = some v10 := by rw [← hT10]; unfold upd; rw [if_pos rfl]
  have o10 : d10.ob = ⟨1, 1, 1099511627776, 60, 1, 2, [], [7]⟩ := by
    rw [← hd10]; show ({ r9.ob with ents := without 5 r9.ob.ents, used := r9.ob.used - s6.ob.quota } : Ob) = _; rw [o9, s9]; rfl
  have p10 : v10.ob = ⟨7, 2, 60, 0, 1, 2, [], []⟩ := by
    rw [← hv10]; show ({ u9.ob with links := u9.ob.links - 1 } : Ob) = _; rw [p9]; rfl
  have B10 := B9.trans ((hA9.belowF hF10).mono hbase)
  have L1 : ∀ iv, loosF 1 (upd T10 1 (dropR d10 v10 7 iv)) 7 [] = some (del (upd T10 1 (dropR d10 v10 7 iv)) 7, [7]) := fun iv => loos1 (u := v10) (by unfold upd; rw [if_neg (by decide)]; exact t7) (by rw [p10]) (by rw [p10])
  simp at hz10
  have HD2 := Lib.hid (Drop_ok hA10 1 7 (by unfold i64; omega) (by unfold i64; omega) d10 v10 t1 t7 (by decide) (by rw [o10]) (by rw [o10]; decide) g10 (by omega) (by rw [o10, p10]; unfold i64; decide) 1 (fun iv => ⟨_, L1 iv⟩))
  obtain ⟨sp10, cap10, hgv10⟩ := row_form hrow10
  subst hgv10
  have hlt9 : ∀ k, tfoot tb mb T9 k → k < w9.heap.size := fun k hk => (hA9.lt hk).2
  have HR10 := Lib.hid hrow10
  have HS10 := Lib.hid hsub10
  have HA10 := Lib.hid hA10
  clear HD1 hA9 hF10 L2 hlo hrow10 hsub10 hA10 hT10
  go_wp2_with (first
    | (go_at_call 12; refine HD2.out.mono ?_; rintro e w11 ⟨iv11, T11, gone11, gv11, D11, hlo, rfl, hA11, hrow11, hz11, hsub11, g11, hF11⟩; refine Hid.out ?_))
  refine Lib.hid ?_
  rw [L1 iv11] at hlo
  obtain ⟨_, rfl⟩ : del (upd T10 1 (dropR d10 v10 7 iv11)) 7 = T11 ∧ [7] = gone11 := by simpa using hlo
  have B11 := B10.trans ((HA10.out.belowF hF11).mono hbase)
  simp at hz11
  obtain ⟨sp11, cap11, hgv11⟩ := row_form hrow11
  subst hgv11
  obtain ⟨g1, rfl⟩ : ∃ g, sp10 = some ⟨g, 0, none⟩ := by
    rcases HR10.out.2 with ⟨h', h0⟩ | ⟨g', cap', cur, h', _⟩
    · simp at h0
    · simp at h'; exact ⟨g', h'.1⟩
  obtain ⟨g2, rfl⟩ : ∃ g, sp11 = some ⟨g, 0, none⟩ := by
    rcases hrow11.2 with ⟨h', h0⟩ | ⟨g', cap', cur, h', _⟩
    · simp at h0
    · simp at h'; exact ⟨g', h'.1⟩
  have hg1 := HR10.out.lt g1 rfl
  have hr10' : w11.ownsRow w9.heap.size 3 1 (.slice (some ⟨g1, 0, none⟩) 1 cap10) 1 (ivs [5]) := row_same HR10.out (fun k hk => by
    have hk' : g1 = k := Option.some.inj hk
    subst hk'
    exact hF11.same g1 hg1.2 (fun e => by have := hlt9 g1 (HS10.out g1 e); omega))
  have x0 : w11.cell? ⟨g1, 0, none⟩ = some (.int .i64 5) := hr10'.cellAt 0 (by omega)
  have y0 : w11.cell? ⟨g2, 0, none⟩ = some (.int .i64 7) := hrow11.cellAt 0 (by simp)
  have HLn := Len_any hA11
  rw [show Maps.size D11 = 1 from by omega] at HLn
  have HLn2 := Lib.hid HLn
  clear HD2 hrow11 hr10' HLn hA11 hF11 L1 hlo
  go_wp2_with (first
    | (go_at_call 13; refine HLn2.out.mono ?_; rintro e w12 ⟨rfl, hw12⟩; rw [hw12]; clear hw12 w12))
  go_ret
  exact ⟨rfl, B11⟩
end Go.Proofs.Ytebcnlhgkpaghaa
