/- SpaceRows. -/
import Derived.Test.YtddllchobojmlaaLives
import Derived.Test.YtddllchobojmlaaRPut
import Derived.Test.YtddllchobojmlaaSameL
import Derived.Test.YtddllchobojmlaaFacts2
import Derived.Laws.AppendOwnNone
import Derived.Deep.RegionWith
import Derived.Deep.DeepCutAuto
namespace Go.Proofs.Ytddllchobojmlaa
open Go.RowKit Go.Sort
theorem app_src {W : World} {ops : Array Oper} {rest : List Oper} {o : Oper} {a : Act} {Q : Exit → Act → World → Prop} (hgd : o.guard = none) (s x : Operand)
    (ho : o.op = .call { callee := .builtin .append, args := #[s, x], argTypes := #[22, 22] }) (base n : Nat) (v : Value) (xs ys : List Mp) (sv : Value) (hs : a.eval s = v) (hown : W.ownsRow base 24 7 v n (flat xs)) (hb : base ≤ W.heap.size) (hn : (n + ys.length) * 48 ≤ 140737488355328)
    (hx : a.eval x = sv) (hsrc : Src W sv ys)
    (h : ∀ v' w', w'.ownsRow base 24 7 v' (n + ys.length) (flat (xs ++ ys)) → Below base W w' → wpList Try.prog ops Q rest (a.put o.dst v') w') : wpList Try.prog ops Q (o :: rest) a W := by
  obtain ⟨i0, hi, hz0, hz1, hz2⟩ := info_parts' mapInfo
  rcases hsrc with ⟨rfl, rfl⟩ | ⟨ad, cp, rfl, hc⟩
  · refine wpList_append_own_none hgd s x 22 ho base 24 i0 7 Try.underlying22 hi v n (flat xs) hs hown hx (h v W ?_ (Below.refl _ _))
    simpa using hown
  · refine wpList_append_own _ hgd s x 22 ho base 24 i0 (.agg #[.int .i64 0, .int .i64 0, .int .i64 0, .int .i64 0, .int .i64 0, .bool false, .bool false]) 7 48 Try.underlying22 hi hz0 hz1 hz2 rfl (by decide) v n (flat xs) hs hown ad ys.length cp (flat ys) hx (flat_length _) hc (flat_one _) (by unfold maxLen; omega) hn hb ?_
    intro v' w' h1 h2 _
    refine h v' w' (by rw [flat_append]; exact h1) (Below.grown (Below.refl _ _) h2 hb (fun j hj => (hown.lt j hj).1))
theorem putL_len (l : List Mp) (m : Mp) : (putL l m).length < 1000000 := by
  by_cases h : putE l m = 0
  · have := ((rightS_iff _).1 (put_right h)).1; omega
  · unfold putL; rw [if_neg h]; simp
theorem cutL_len (l : List Mp) (x : Int) : (cutL l x).length < 1000000 := by
  by_cases hr : rightS l = true
  · have h1 := ((rightS_iff _).1 hr).1
    rw [(cut_flt x hr).2]
    split
    · simp
    · have := flt_len x l; omega
  · have hr' : rightS l = false := by simpa using hr
    unfold cutL; simp [hr']
def mNeg : Mp := ⟨-7, 0, 0, 0, 0, false, false⟩
theorem RAt.prefix {w : World} {p : Option Addr} {cap : Nat} {l ys : List Mp} (h : RAt w p cap (l ++ ys)) : RAt w p cap l :=
  ⟨fun j hj => by
    obtain ⟨b, off, hp, hb, hm⟩ := h.row j (by rw [List.length_append]; omega)
    rw [List.getElem_append_left hj] at hm
    exact ⟨b, off, hp, hb, hm⟩, by have := h.len; rw [List.length_append] at this; omega, h.top, h.nil⟩
theorem row_some {w : World} {base e size n : Nat} {v : Value} {xs : List Value} (h : w.ownsRow base e size v n xs) (hn : 0 < n) : ∃ g cap, v = .slice (some ⟨g, 0, none⟩) n cap := by
  rcases h.2 with ⟨_, h0⟩ | ⟨g, cap, _, hv, _⟩
  · omega
  · exact ⟨g, cap, hv⟩
set_option maxRecDepth 100000 in
set_option maxHeartbeats 4000000 in
theorem SpaceRows_any (p : Option Addr) (cap : Nat) (l : List Mp) (m : Mp) (x : Int) (w : World) (hR : RAt w p cap l) (hcap : l.length * 48 ≤ 140737488351232) :
    Calls Try.prog 3 #[.slice p l.length cap, mpV m, .int .i64 x] w fun e w' => e = .returned (.bool true) ∧ Below w.heap.size w w' := by
  unfold mpV
  have hB0 : Below w.heap.size w (w.alloc (mpB m)) := (Below.refl _ _).alloc (Nat.le_refl _) _
  have hM0 := mpB_at w m
  go_enter Try.func3, Try.ntmps3
  go_wp2_with (go_at_call 9; refine (lives_any _).mono ?_; rintro e w1 ⟨rfl, hb1⟩; refine Hid.out ?_)
  refine Lib.hid ?_
  have hM1 := hM0.below hb1 (by simp)
  have hw1 : w.heap.size < w1.heap.size := by have := hb1.size; simp at this; omega
  have hB1 : Below w.heap.size w w1 := hB0.trans (hb1.mono (by simp))
  clear hM0
  have hOwn0 : (w1.alloc (.cells #[] 24)).ownsRow w1.heap.size 24 7 (.slice (some ⟨w1.heap.size, 0, none⟩) 0 0) 0 (flat []) := World.ownsRow_lit (base := w1.heap.size) (e := 24) (size := 7) w1 #[] 0 (Nat.le_refl _) (by decide) rfl
  have hbA : Below w1.heap.size w1 (w1.alloc (.cells #[] 24)) := (Below.refl _ _).alloc (Nat.le_refl _) _
  have HSrc := Lib.hid (((hR.below hB1).below hbA).src_take (k := l.length) (Nat.le_refl _))
  rw [List.take_length] at HSrc
  have hz1 : w1.heap.size ≤ (w1.alloc (.cells #[] 24)).heap.size := by simp
  go_wp2_with (at_builtin; refine app_src rfl _ _ rfl w1.heap.size 0 (.slice (some ⟨w1.heap.size, 0, none⟩) 0 0) [] l (.slice p l.length cap) rfl hOwn0 hz1 (by omega) rfl HSrc.out ?_; intro v2 w2 hown2 hb2; refine Hid.out ?_)
  refine Lib.hid ?_
  rw [Nat.zero_add, List.nil_append] at hown2
  have hbs2 : w1.heap.size ≤ w2.heap.size := by have := hb2.size; simp at this; omega
  have hb12 : Below w1.heap.size w1 w2 := hbA.trans hb2
  clear hb2 HSrc hOwn0 hbA
  go_wp2_with (at_builtin; refine app_mp rfl _ _ rfl w1.heap.size l.length v2 l mNeg rfl hown2 hbs2 hcap w2.heap.size rfl rfl ?_; intro v3 w3 hown3 hb3 hk3; refine Hid.out ?_)
  refine Lib.hid ?_
  obtain ⟨g, c3, rfl⟩ := row_some hown3 (by omega)
  obtain ⟨p3, cc3, hv3, -, hR3⟩ := own_rat hown3
  rw [List.length_append, List.length_cons, List.length_nil, Value.slice.injEq] at hv3
  obtain ⟨rfl, -, rfl⟩ := hv3
  have hRO := hR3.prefix
  have hb13 : Below w1.heap.size w1 w3 := hb12.trans hb3
  have hB3 : Below w.heap.size w w3 := hB1.trans (hb13.mono (by omega))
  have hM3 := hM1.below hb13 hw1
  have hbs3 := hb13.size
  have hlc := hRO.len
  clear hb12 hb3 hk3 hown2 hown3
  obtain ⟨y0, y1, y2, y3, y4, y5, y6⟩ := hM3
  have hw3 : w.heap.size < w3.heap.size := by omega
  have hlt3 : (l.length : Int) ≤ (c3 : Int) := by omega
  have HP : Hid (∀ W, Below w3.heap.size w3 W → Calls Try.prog 10 #[.slice (some ⟨g, 0, none⟩) l.length c3, .agg #[.int .i64 m.at_, .int .i64 m.pg, .int .i64 m.inn, .int .i64 m.id, .int .i64 m.fr, .bool m.wr, .bool m.rn]] W fun e w' => ∃ v, e = .returned (.tuple #[v, .int .i64 (putE l m)]) ∧ w'.ownsRow w3.heap.size 24 7 v (putL l m).length (flat (putL l m)) ∧ Below w3.heap.size w3 w') := fun W hW =>
    (Put_any (some ⟨g, 0, none⟩) c3 l m W (hRO.below hW)).mono fun e w' ⟨v, he, ho, hb⟩ => ⟨v, he, row_mono ho hW.size, hW.trans (hb.mono hW.size)⟩
  go_upto_region 4 with fail
  go_cut [8, 9] (fun v e wx => e = .int .i64 (putE l m) ∧ wx.ownsRow w3.heap.size 24 7 v (putL l m).length (flat (putL l m)) ∧ Below w3.heap.size w3 wx)
  case first =>
    go_region_with (go_at_call 10; refine (HP.out _ (Below.refl w3.heap.size w3).drew).mono ?_; rintro e w4 ⟨v4, rfl, ho4, hb4⟩; have HO4 := Lib.hid ho4; have HB4 := Lib.hid hb4; clear ho4 hb4)
    all_goals (go_wp2_with fail; go_meet; exact ⟨rfl, HO4.out, HB4.out⟩)
  case rest =>
    obtain ⟨rfl, ho4, hb4⟩ := hcut
    obtain ⟨p4, c4, rfl, -, hR4⟩ := own_rat ho4
    have hM4 := (MpAt.mk y0 y1 y2 y3 y4 y5 y6).below hb4 hw3
    clear y0 y1 y2 y3 y4 y5 y6 ho4 HP
    obtain ⟨y0, y1, y2, y3, y4, y5, y6⟩ := hM4
    have hB4 : Below w.heap.size w wc := hB3.trans (hb4.mono (by omega))
    have hbs4 := hb4.size
    have HQ := Lib.hid (refPut_any p cap l m wc (hR.below hB4))
    obtain ⟨W4, hW4⟩ : ∃ W4, wc = W4 := ⟨_, rfl⟩
    rw [hW4] at hR4 y0 y1 y2 y3 y4 y5 y6 hB4 hb4 hbs4 HQ ⊢
    clear hW4
    go_wp2_with (go_at_call 11; refine HQ.out.mono ?_; rintro e w5 ⟨v5, rfl, ho5, hb5⟩; refine Hid.out ?_)
    refine Lib.hid ?_
    obtain ⟨p5, c5, rfl, -, hR5⟩ := own_rat ho5
    have hb35 : Below w3.heap.size w3 w5 := hb4.trans (hb5.mono hbs4)
    have hR45 := hR4.below hb5
    have hbs5 := hb35.size
    clear HQ ho5 hR4 y0 y1 y2 y3 y4 y5 y6
    have HC : Hid (∀ W, Below w5.heap.size w5 W → Calls Try.prog 12 #[.slice (some ⟨g, 0, none⟩) l.length c3, .int .i64 x] W fun e w' => ∃ v, e = .returned (.tuple #[v, .int .i64 (cutE l x)]) ∧ w'.ownsRow w5.heap.size 24 7 v (cutL l x).length (flat (cutL l x)) ∧ Below w5.heap.size w5 w') := fun W hW =>
      (Cut_any (some ⟨g, 0, none⟩) c3 l x W ((hRO.below hb35).below hW)).mono fun e w' ⟨v, he, ho, hb⟩ => ⟨v, he, row_mono ho hW.size, hW.trans (hb.mono hW.size)⟩
    go_wp2_with (go_at_call 12; refine (HC.out _ (Below.refl _ _)).mono ?_; rintro e W6 ⟨v6, rfl, ho6, hb6⟩; refine Hid.out ?_)
    refine Lib.hid ?_
    obtain ⟨p6, c6, rfl, -, hR6⟩ := own_rat ho6
    clear ho6 HC
    have hb36 : Below w3.heap.size w3 W6 := hb35.trans (hb6.mono hbs5)
    have hB6 : Below w.heap.size w W6 := hB3.trans (hb36.mono (by omega))
    have hbs6 := hb6.size
    have HD := Lib.hid (refCut_any p cap l x W6 (hR.below hB6))
    go_wp2_with (go_at_call 13; refine HD.out.mono ?_; rintro e w7 ⟨v7, rfl, ho7, hb7⟩; refine Hid.out ?_)
    refine Lib.hid ?_
    obtain ⟨p7, c7, rfl, -, hR7⟩ := own_rat ho7
    have hb37 : Below w3.heap.size w3 w7 := hb36.trans (hb7.mono (by omega))
    have hB7 : Below w.heap.size w w7 := hB6.trans (hb7.mono (by omega))
    have hb57 : Below w5.heap.size w5 w7 := hb6.trans (hb7.mono hbs6)
    have hPn : (putL l m).length < 1000000 := putL_len l m
    have hCn : (cutL l x).length < 1000000 := cutL_len l x
    obtain ⟨PE, hPE⟩ : ∃ PE, putE l m = PE := ⟨_, rfl⟩
    obtain ⟨CE, hCE⟩ : ∃ CE, cutE l x = CE := ⟨_, rfl⟩
    obtain ⟨PL, hPL⟩ : ∃ PL, putL l m = PL := ⟨_, rfl⟩
    obtain ⟨CL, hCL⟩ : ∃ CL, cutL l x = CL := ⟨_, rfl⟩
    rw [hPL] at hR45 hR5 hPn
    rw [hCL] at hR6 hR7 hCn
    rw [hPE, hCE, hPL, hCL]
    have SA : Hid (∀ W, Below w7.heap.size w7 W → Calls Try.prog 16 #[.slice p4 PL.length c4, .slice p5 PL.length c5] W fun e w' => e = .returned (.bool true) ∧ Below W.heap.size W w') := fun W hW => by
      have := Same_any p4 p5 c4 c5 PL PL W hPn ((hR45.below hb57).below hW).row ((hR5.below hb57).below hW).row
      rwa [decide_eq_true rfl] at this
    have SB : Hid (∀ W, Below w7.heap.size w7 W → Calls Try.prog 16 #[.slice p6 CL.length c6, .slice p7 CL.length c7] W fun e w' => e = .returned (.bool true) ∧ Below W.heap.size W w') := fun W hW => by
      have := Same_any p6 p7 c6 c7 CL CL W hCn ((hR6.below hb7).below hW).row (hR7.below hW).row
      rwa [decide_eq_true rfl] at this
    have hOw := hR3.below hb37
    have hLw := hR.below hB7
    have hl62 : l.length ≤ 4611686018427387904 := by omega
    have SC : Hid (∀ W, Below w7.heap.size w7 W → Calls Try.prog 16 #[.slice (some ⟨g, 0, none⟩) l.length c3, .slice p l.length cap] W fun e w' => e = .returned (.bool true) ∧ Below W.heap.size W w') := fun W hW => by
      have := SameL_any (some ⟨g, 0, none⟩) p c3 cap l l W hl62 (hOw.below hW).prefix.row (hLw.below hW).row
      rwa [decide_eq_true rfl] at this
    have RA : Hid (∀ W, Below w7.heap.size w7 W → Calls Try.prog 14 #[.slice p l.length cap] W fun e w' => e = .returned (.bool (rightS l)) ∧ Below W.heap.size W w') := fun W hW => Right_any p cap l W (Nat.le_trans hLw.len hLw.top) (hLw.below hW).row
    have RB : Hid (∀ W, Below w7.heap.size w7 W → Calls Try.prog 15 #[.slice p l.length cap] W fun e w' => e = .returned (.bool (rightS l)) ∧ Below W.heap.size W w') := fun W hW => refRight_any p cap l W (Nat.le_trans hLw.len hLw.top) (hLw.below hW).row
    obtain ⟨RS, hRS⟩ : ∃ RS, rightS l = RS := ⟨_, rfl⟩
    rw [hRS] at RA RB
    have GL : Hid (∀ W, Below w7.heap.size w7 W → g < W.heap.size ∧ W.cell? ⟨g, l.length * 7, none⟩ = some (.int .i64 (-7))) := fun W hW => by
      obtain ⟨b, off, he, hbl, hm⟩ := (hOw.below hW).row l.length (by simp)
      simp only [Option.some.injEq, Addr.mk.injEq, and_true] at he
      obtain ⟨rfl, rfl⟩ := he
      have h0 := hm.c0
      rw [List.getElem_append_right (Nat.le_refl _)] at h0
      simp only [Nat.sub_self, List.getElem_cons_zero, mNeg, Nat.zero_add] at h0
      exact ⟨hbl, h0⟩
    have hx := Below.refl w7.heap.size w7
    obtain ⟨g0, g1⟩ := GL.out _ hx
    have hi1 : (l.length : Int) < (l.length : Int) + 1 := by omega
    clear hPE hCE hPL hCL hRS hR45 hR5 hR6 hR7 hOw hLw hR3 hRO hR hb57 hb37 hb36 hb35 hb6 hb7
    go_wp2_with (first
      | (go_at_call 14; refine (RA.out _ hx).mono ?_; rintro e w' ⟨rfl, hb'⟩; replace hx := hx.trans (hb'.mono hx.size); clear hb' g0 g1; obtain ⟨g0, g1⟩ := GL.out _ hx)
      | (go_at_call 15; refine (RB.out _ hx).mono ?_; rintro e w' ⟨rfl, hb'⟩; replace hx := hx.trans (hb'.mono hx.size); clear hb' g0 g1; obtain ⟨g0, g1⟩ := GL.out _ hx)
      | (go_at_call 16; with_reducible refine Calls.mono (SA.out _ hx) ?_; rintro e w' ⟨rfl, hb'⟩; replace hx := hx.trans (hb'.mono hx.size); clear hb' g0 g1; obtain ⟨g0, g1⟩ := GL.out _ hx)
      | (go_at_call 16; with_reducible refine Calls.mono (SB.out _ hx) ?_; rintro e w' ⟨rfl, hb'⟩; replace hx := hx.trans (hb'.mono hx.size); clear hb' g0 g1; obtain ⟨g0, g1⟩ := GL.out _ hx)
      | (go_at_call 16; with_reducible refine Calls.mono (SC.out _ hx) ?_; rintro e w' ⟨rfl, hb'⟩; replace hx := hx.trans (hb'.mono hx.size); clear hb' g0 g1; obtain ⟨g0, g1⟩ := GL.out _ hx))
    go_ret
    exact ⟨rfl, hB7.trans (hx.mono hB7.size)⟩
end Go.Proofs.Ytddllchobojmlaa
