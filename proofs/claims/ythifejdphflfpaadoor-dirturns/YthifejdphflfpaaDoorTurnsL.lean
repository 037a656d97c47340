/- DirTurns: the law's walk. -/
import Derived.Test.YthifejdphflfpaaDoorRef3
import Derived.Test.YthifejdphflfpaaDoorRef4
import Derived.Laws.AppendOwnNone
import Derived.Deep.RegionWith
import Derived.Deep.DeepCutAuto
namespace Go.Proofs.YthifejdphflfpaaDoor
open Go.RowKit Go.Sort
theorem app_src {W : World} {ops : Array Oper} {rest : List Oper} {o : Oper} {a : Act} {Q : Exit → Act → World → Prop} (hgd : o.guard = none) (s x : Operand)
    (ho : o.op = .call { callee := .builtin .append, args := #[s, x], argTypes := #[22, 22] }) (base n : Nat) (v : Value) (xs ys : List Nm) (sv : Value) (hs : a.eval s = v) (hown : W.ownsRow base 25 3 v n (flat xs)) (hb : base ≤ W.heap.size) (hn : (n + ys.length) * 32 ≤ 140737488355328)
    (hx : a.eval x = sv) (hsrc : Src W sv ys)
    (h : ∀ v' w', w'.ownsRow base 25 3 v' (n + ys.length) (flat (xs ++ ys)) → Below base W w' → wpList Tryd.prog ops Q rest (a.put o.dst v') w') : wpList Tryd.prog ops Q (o :: rest) a W := by
  obtain ⟨i0, hi, hz0, hz1, hz2⟩ := info_parts' nameInfo
  rcases hsrc with ⟨rfl, rfl⟩ | ⟨ad, cp, rfl, hc⟩
  · refine wpList_append_own_none hgd s x 22 ho base 25 i0 3 Tryd.underlying22 hi v n (flat xs) hs hown hx (h v W ?_ (Below.refl _ _))
    simpa using hown
  · refine wpList_append_own _ hgd s x 22 ho base 25 i0 (.agg #[.string ⟨#[]⟩, .int .i64 0, .int .i64 0]) 3 32 Tryd.underlying22 hi hz0 hz1 hz2 rfl (by decide) v n (flat xs) hs hown ad ys.length cp (flat ys) hx (flat_length _) hc (flat_one _) (by unfold maxLen; omega) hn hb ?_
    intro v' w' h1 h2 _
    refine h v' w' (by rw [flat_append]; exact h1) (Below.grown (Below.refl _ _) h2 hb (fun j hj => (hown.lt j hj).1))
theorem putL_len (l : List Nm) (m : Nm) : (putL l m).length ≤ maxLen := by
  unfold maxLen
  by_cases h : putE l m = 0
  · have := right_len (putE_ok.1 h).2.2.2
    unfold putL; rw [if_pos h]; omega
  · unfold putL; rw [if_neg h]; simp
theorem cutL_len (l : List Nm) (x : ByteArray) : (cutL l x).length ≤ l.length := by
  unfold cutL
  split
  · exact flt_len x l
  · simp
def spare : Nm := ⟨⟨#[115, 112, 97, 114, 101]⟩, 0, 0⟩
theorem RAt.prefix {w : World} {p : Option Addr} {cap : Nat} {l ys : List Nm} (h : RAt w p cap (l ++ ys)) : RAt w p cap l :=
  ⟨fun j hj => by
    obtain ⟨b, off, hp, hb, hm⟩ := h.row j (by rw [List.length_append]; omega)
    rw [List.getElem_append_left hj] at hm
    exact ⟨b, off, hp, hb, hm⟩, by have := h.len; rw [List.length_append] at this; omega, h.top, h.nil⟩
theorem row_some {w : World} {base e size n : Nat} {v : Value} {xs : List Value} (h : w.ownsRow base e size v n xs) (hn : 0 < n) : ∃ g cap, v = .slice (some ⟨g, 0, none⟩) n cap := by
  rcases h.2 with ⟨_, h0⟩ | ⟨g, cap, _, hv, _⟩
  · omega
  · exact ⟨g, cap, hv⟩
set_option maxRecDepth 100000 in
set_option maxHeartbeats 4000000 in
theorem DirTurns_any (p : Option Addr) (cap : Nat) (l : List Nm) (m : Nm) (x : ByteArray) (w : World) (hE : Env w) (hR : RAt w p cap l) (hcap : l.length * 32 ≤ 140737488351232) :
    Calls Tryd.prog 5 #[.slice p l.length cap, nmV m, .string x] w fun e w' => e = .returned (.bool true) ∧ Below w.heap.size w w' := by
  unfold nmV
  have hB0 : Below w.heap.size w (w.alloc (nmB m)) := (Below.refl _ _).alloc (Nat.le_refl _) _
  have hM0 := NmAt.new w m
  have HLv := Lib.hid (lives_any _ (hE.below hB0))
  go_enter Tryd.func5, Tryd.ntmps5
  go_wp2_with (go_at_call 9; refine HLv.out.mono ?_; rintro e w1 ⟨rfl, hb1⟩; refine Hid.out ?_)
  refine Lib.hid ?_
  have hM1 := hM0.below hb1 (by simp)
  have hw1 : w.heap.size < w1.heap.size := by have := hb1.size; simp at this; omega
  have hB1 : Below w.heap.size w w1 := hB0.trans (hb1.mono (by simp))
  clear hM0 hE HLv
  have hOwn0 : (w1.alloc (.cells #[] 25)).ownsRow w1.heap.size 25 3 (.slice (some ⟨w1.heap.size, 0, none⟩) 0 0) 0 (flat []) := World.ownsRow_lit (base := w1.heap.size) (e := 25) (size := 3) w1 #[] 0 (Nat.le_refl _) (by decide) rfl
  have hbA : Below w1.heap.size w1 (w1.alloc (.cells #[] 25)) := (Below.refl _ _).alloc (Nat.le_refl _) _
  have HSrc := Lib.hid (((hR.below hB1).below hbA).src_take (k := l.length) (Nat.le_refl _))
  rw [List.take_length] at HSrc
  have hz1 : w1.heap.size ≤ (w1.alloc (.cells #[] 25)).heap.size := by simp
  go_wp2_with (at_builtin; refine app_src rfl _ _ rfl w1.heap.size 0 (.slice (some ⟨w1.heap.size, 0, none⟩) 0 0) [] l (.slice p l.length cap) rfl hOwn0 hz1 (by omega) rfl HSrc.out ?_; intro v2 w2 hown2 hb2; refine Hid.out ?_)
  refine Lib.hid ?_
  rw [Nat.zero_add, List.nil_append] at hown2
  have hbs2 : w1.heap.size ≤ w2.heap.size := by have := hb2.size; simp at this; omega
  have hb12 : Below w1.heap.size w1 w2 := hbA.trans hb2
  clear hb2 HSrc hOwn0 hbA
  go_wp2_with (at_builtin; refine app_nm rfl _ _ rfl w1.heap.size v2 l spare rfl hown2 hbs2 (by omega) w2.heap.size rfl rfl ?_; intro v3 w3 hown3 hb3 hk3 hat3; refine Hid.out ?_)
  refine Lib.hid ?_
  unfold OwnP at hown3
  rw [show (l ++ [spare]).length = l.length + 1 from by simp] at hown3
  obtain ⟨g, c3, rfl⟩ := row_some hown3 (by omega)
  obtain ⟨p3, cc3, hv3, -, hR3⟩ := own_rat hown3
  rw [List.length_append, List.length_cons, List.length_nil, Value.slice.injEq] at hv3
  obtain ⟨rfl, -, rfl⟩ := hv3
  have hRO := hR3.prefix
  have hb13 : Below w1.heap.size w1 w3 := hb12.trans hb3
  have hB3 : Below w.heap.size w w3 := hB1.trans (hb13.mono (by omega))
  have hM3 := hM1.below hb13 hw1
  have hbs3 := hb13.size
  have hlc := hRO.len
  clear hb12 hb3 hk3 hat3 hown2 hown3
  obtain ⟨y0, y1, y2⟩ := hM3
  have hw3 : w.heap.size < w3.heap.size := by omega
  have hlt3 : (l.length : Int) ≤ (c3 : Int) := by omega
  have HP : Hid (∀ W, Below w3.heap.size w3 W → Calls Tryd.prog 10 #[.slice (some ⟨g, 0, none⟩) l.length c3, .agg #[.string m.nm, .int .i64 m.kd, .int .i64 m.id]] W fun e w' => ∃ v, e = .returned (.tuple #[v, .int .i64 (putE l m)]) ∧ w'.ownsRow w3.heap.size 25 3 v (putL l m).length (flat (putL l m)) ∧ Below w3.heap.size w3 w') := fun W hW =>
    (Put_any (some ⟨g, 0, none⟩) c3 l m W (hRO.below hW)).mono fun e w' ⟨v, he, ho, hb⟩ => ⟨v, he, row_mono ho hW.size, hW.trans (hb.mono hW.size)⟩
  go_upto_region 4 with fail
  go_cut [8, 9] (fun v e wx => e = .int .i64 (putE l m) ∧ wx.ownsRow w3.heap.size 25 3 v (putL l m).length (flat (putL l m)) ∧ Below w3.heap.size w3 wx)
  case first =>
    go_region_with (go_at_call 10; refine (HP.out _ (Below.refl w3.heap.size w3).drew).mono ?_; rintro e w4 ⟨v4, rfl, ho4, hb4⟩; have HO4 := Lib.hid ho4; have HB4 := Lib.hid hb4; clear ho4 hb4)
    all_goals (go_wp2_with fail; go_meet; exact ⟨rfl, HO4.out, HB4.out⟩)
  case rest =>
    obtain ⟨rfl, ho4, hb4⟩ := hcut
    obtain ⟨p4, c4, rfl, -, hR4⟩ := own_rat ho4
    have hM4 := (NmAt.mk y0 y1 y2).below hb4 hw3
    clear y0 y1 y2 ho4 HP
    obtain ⟨y0, y1, y2⟩ := hM4
    have hB4 : Below w.heap.size w wc := hB3.trans (hb4.mono (by omega))
    have hbs4 := hb4.size
    have HQ := Lib.hid (refPut_any p cap l m wc (by omega) (hR.below hB4).row)
    unfold nmV at HQ
    obtain ⟨W4, hW4⟩ : ∃ W4, wc = W4 := ⟨_, rfl⟩
    rw [hW4] at hR4 y0 y1 y2 hB4 hb4 hbs4 HQ ⊢
    clear hW4
    go_wp2_with (go_at_call 18; refine HQ.out.mono ?_; rintro e w5 ⟨v5, rfl, ho5, hb5⟩; refine Hid.out ?_)
    refine Lib.hid ?_
    obtain ⟨p5, c5, rfl, -, hR5⟩ := own_rat ho5
    have hb35 : Below w3.heap.size w3 w5 := hb4.trans (hb5.mono hbs4)
    have hR45 := hR4.below hb5
    have hbs5 := hb35.size
    clear HQ ho5 hR4 y0 y1 y2
    have HC : Hid (∀ W, Below w5.heap.size w5 W → Calls Tryd.prog 19 #[.slice (some ⟨g, 0, none⟩) l.length c3, .string x] W fun e w' => ∃ v, e = .returned (.tuple #[v, .int .i64 (cutE l x)]) ∧ w'.ownsRow w5.heap.size 25 3 v (cutL l x).length (flat (cutL l x)) ∧ Below w5.heap.size w5 w') := fun W hW =>
      (Cut_any (some ⟨g, 0, none⟩) c3 l x W ((hRO.below hb35).below hW)).mono fun e w' ⟨v, he, ho, hb⟩ => ⟨v, he, row_mono ho hW.size, hW.trans (hb.mono hW.size)⟩
    go_wp2_with (go_at_call 19; refine (HC.out _ (Below.refl _ _)).mono ?_; rintro e W6 ⟨v6, rfl, ho6, hb6⟩; refine Hid.out ?_)
    refine Lib.hid ?_
    obtain ⟨p6, c6, rfl, -, hR6⟩ := own_rat ho6
    clear ho6 HC
    have hb36 : Below w3.heap.size w3 W6 := hb35.trans (hb6.mono hbs5)
    have hB6 : Below w.heap.size w W6 := hB3.trans (hb36.mono (by omega))
    have hbs6 := hb6.size
    have HD := Lib.hid (refCut_any p cap l x W6 (by omega) (hR.below hB6).row)
    go_wp2_with (go_at_call 20; refine HD.out.mono ?_; rintro e w7 ⟨v7, rfl, ho7, hb7⟩; refine Hid.out ?_)
    refine Lib.hid ?_
    obtain ⟨p7, c7, rfl, -, hR7⟩ := own_rat ho7
    have hb37 : Below w3.heap.size w3 w7 := hb36.trans (hb7.mono (by omega))
    have hB7 : Below w.heap.size w w7 := hB6.trans (hb7.mono (by omega))
    have hb57 : Below w5.heap.size w5 w7 := hb6.trans (hb7.mono hbs6)
    clear ho7 HD
    have hlm : l.length ≤ maxLen := by unfold maxLen; omega
    have HF := Lib.hid (Find_any p cap l x w7 hlm (hR.below hB7).row)
    obtain ⟨q, hq⟩ : ∃ q, fnd (findL l x) = q := ⟨_, rfl⟩
    obtain ⟨ib, hib⟩ : ∃ ib, (findL l x).isSome = ib := ⟨_, rfl⟩
    rw [hq, hib] at HF
    unfold nmV at HF
    go_wp2_with (go_at_call 21; refine HF.out.mono ?_; rintro e w8 ⟨rfl, hb8⟩; refine Hid.out ?_)
    refine Lib.hid ?_
    clear HF
    obtain ⟨X8, hX8⟩ : ∃ X8, w8.alloc (.cells #[.string q.nm, .int .i64 q.kd, .int .i64 q.id] 25) = X8 := ⟨_, rfl⟩
    have hX8m : X8.heap[w8.heap.size]? = some (nmB q) := by rw [← hX8]; exact heap_new _ _
    have hX8B : Below w8.heap.size w8 X8 := by rw [← hX8]; exact (Below.refl _ _).alloc (Nat.le_refl _) _
    have hb78 : Below w7.heap.size w7 X8 := hb8.trans (hX8B.mono hb8.size)
    have HF := Lib.hid (refFind_any p cap l x X8 hlm ((hR.below hB7).below hb78).row)
    rw [hq, hib] at HF
    unfold nmV at HF
    go_wp2_with (go_at_call 22; refine HF.out.mono ?_; rintro e w9 ⟨rfl, hb9⟩; refine Hid.out ?_)
    refine Lib.hid ?_
    clear HF
    obtain ⟨X9, hX9⟩ : ∃ X9, w9.alloc (.cells #[.string q.nm, .int .i64 q.kd, .int .i64 q.id] 25) = X9 := ⟨_, rfl⟩
    have hX9m : X9.heap[w9.heap.size]? = some (nmB q) := by rw [← hX9]; exact heap_new _ _
    have hX9B : Below w9.heap.size w9 X9 := by rw [← hX9]; exact (Below.refl _ _).alloc (Nat.le_refl _) _
    have hb89 : Below X8.heap.size X8 X9 := hb9.trans (hX9B.mono hb9.size)
    have hb79 : Below w7.heap.size w7 X9 := hb78.trans (hb89.mono hb78.size)
    have hX8m9 : X9.heap[w8.heap.size]? = some (nmB q) := (hb89.block _ (Array.getElem?_eq_some_iff.1 hX8m).1).trans hX8m
    clear hX8 hX8m hX8B hX9B hb89 hb78 hb8 hb9
    have hPn : (putL l m).length ≤ maxLen := putL_len l m
    have hCn : (cutL l x).length ≤ maxLen := Nat.le_trans (cutL_len l x) hlm
    have hB9 : Below w.heap.size w X9 := hB7.trans (hb79.mono hB7.size)
    obtain ⟨PE, hPE⟩ : ∃ PE, putE l m = PE := ⟨_, rfl⟩
    obtain ⟨CE, hCE⟩ : ∃ CE, cutE l x = CE := ⟨_, rfl⟩
    obtain ⟨PL, hPL⟩ : ∃ PL, putL l m = PL := ⟨_, rfl⟩
    obtain ⟨CL, hCL⟩ : ∃ CL, cutL l x = CL := ⟨_, rfl⟩
    rw [hPL] at hR45 hR5 hPn
    rw [hCL] at hR6 hR7 hCn
    rw [hPE, hCE, hPL, hCL]
    have hb59 : Below w5.heap.size w5 X9 := hb57.trans (hb79.mono hb57.size)
    have hb69 : Below W6.heap.size W6 X9 := hb7.trans (hb79.mono hb7.size)
    have SA : Hid (∀ W, Below X9.heap.size X9 W → Calls Tryd.prog 11 #[.slice p4 PL.length c4, .slice p5 PL.length c5] W fun e w' => e = .returned (.bool true) ∧ Below W.heap.size W w') := fun W hW => by
      have := Same_any p4 p5 c4 c5 PL PL W hPn ((hR45.below hb59).below hW).row ((hR5.below hb59).below hW).row
      rwa [decide_eq_true rfl] at this
    have SB : Hid (∀ W, Below X9.heap.size X9 W → Calls Tryd.prog 11 #[.slice p6 CL.length c6, .slice p7 CL.length c7] W fun e w' => e = .returned (.bool true) ∧ Below W.heap.size W w') := fun W hW => by
      have := Same_any p6 p7 c6 c7 CL CL W hCn ((hR6.below hb69).below hW).row ((hR7.below hb79).below hW).row
      rwa [decide_eq_true rfl] at this
    have hOw := (hR3.below hb37).below hb79
    have hLw := hR.below hB9
    have SC : Hid (∀ W, Below X9.heap.size X9 W → Calls Tryd.prog 11 #[.slice (some ⟨g, 0, none⟩) l.length c3, .slice p l.length cap] W fun e w' => e = .returned (.bool true) ∧ Below W.heap.size W w') := fun W hW => by
      have := Same_any (some ⟨g, 0, none⟩) p c3 cap l l W hlm (hOw.below hW).prefix.row (hLw.below hW).row
      rwa [decide_eq_true rfl] at this
    have GL : Hid (∀ W, Below X9.heap.size X9 W → g < W.heap.size ∧ W.cell? ⟨g, l.length * 3, none⟩ = some (.string ⟨#[115, 112, 97, 114, 101]⟩) ∧ NmAt W w8.heap.size 0 q ∧ NmAt W w9.heap.size 0 q) := fun W hW => by
      obtain ⟨b, off, he, hbl, hm⟩ := (hOw.below hW).row l.length (by simp)
      simp only [Option.some.injEq, Addr.mk.injEq, and_true] at he
      obtain ⟨rfl, rfl⟩ := he
      have h0 := hm.c0
      rw [List.getElem_append_right (Nat.le_refl _)] at h0
      simp only [Nat.sub_self, List.getElem_cons_zero, spare, Nat.zero_add] at h0
      exact ⟨hbl, h0, nm_cells ((hW.block _ (Array.getElem?_eq_some_iff.1 hX8m9).1).trans hX8m9), nm_cells ((hW.block _ (Array.getElem?_eq_some_iff.1 hX9m).1).trans hX9m)⟩
    have hx := Below.refl X9.heap.size X9
    obtain ⟨g0, g1, ⟨x0, x1, x2⟩, ⟨z0, z1, z2⟩⟩ := GL.out _ hx
    have hi1 : (l.length : Int) < (l.length : Int) + 1 := by omega
    have EQ : ∀ W, (Op.equalIn 10000 25 (.agg #[.string q.nm, .int .i64 q.kd, .int .i64 q.id]) (.agg #[.string q.nm, .int .i64 q.kd, .int .i64 q.id])).run Tryd.prog W = .ok true W := fun W => by
      have := eq_nm q q W
      rwa [decide_eq_true rfl] at this
    have HB9 := Lib.hid hB9
    clear hPE hCE hPL hCL hR45 hR5 hR6 hR7 hOw hLw hR3 hRO hR hb57 hb37 hb36 hb35 hb6 hb7 hB9 hb79 hb59 hb69 hq hib hX8m9 hX9m hB7 hB6 hB4 hb5 hb4 hB3 hb13 hB1 hb1 hB0 hM1
    go_wp2_with (first
      | (go_at_call 11; with_reducible refine Calls.mono (SA.out _ hx) ?_; rintro e w' ⟨rfl, hb'⟩; replace hx := hx.trans (hb'.mono hx.size); clear hb' g0 g1 x0 x1 x2 z0 z1 z2; obtain ⟨g0, g1, ⟨x0, x1, x2⟩, ⟨z0, z1, z2⟩⟩ := GL.out _ hx)
      | (go_at_call 11; with_reducible refine Calls.mono (SB.out _ hx) ?_; rintro e w' ⟨rfl, hb'⟩; replace hx := hx.trans (hb'.mono hx.size); clear hb' g0 g1 x0 x1 x2 z0 z1 z2; obtain ⟨g0, g1, ⟨x0, x1, x2⟩, ⟨z0, z1, z2⟩⟩ := GL.out _ hx)
      | (go_at_call 11; with_reducible refine Calls.mono (SC.out _ hx) ?_; rintro e w' ⟨rfl, hb'⟩; replace hx := hx.trans (hb'.mono hx.size); clear hb' g0 g1 x0 x1 x2 z0 z1 z2; obtain ⟨g0, g1, ⟨x0, x1, x2⟩, ⟨z0, z1, z2⟩⟩ := GL.out _ hx))
    go_ret
    exact ⟨ret_bool (by simp), HB9.out.trans (hx.mono HB9.out.size)⟩
end Go.Proofs.YthifejdphflfpaaDoor
