/- DirBack: the law's walk. -/
import Derived.Test.YthifejdphflfpaaDoorBackM
import Derived.Test.YthifejdphflfpaaDoorFind
namespace Go.Proofs.YthifejdphflfpaaDoor
open Go.RowKit Go.Sort
set_option maxRecDepth 100000 in
set_option maxHeartbeats 4000000 in
theorem DirBack_any (p q : Option Addr) (cp cq : Nat) (l m : List Nm) (n : Nm) (w : World) (hE : Env w) (hl : RAt w p cp l) (hm : RAt w q cq m) :
    Calls Tryd.prog 7 #[.slice p l.length cp, .slice q m.length cq, nmV n] w fun e w' => e = .returned (.bool true) ∧ Below w.heap.size w w' := by
  unfold nmV
  obtain ⟨W0, hW0⟩ : ∃ W0, w.alloc (.cells #[.string n.nm, .int .i64 n.kd, .int .i64 n.id] 25) = W0 := ⟨_, rfl⟩
  have hm0 : W0.heap[w.heap.size]? = some (nmB n) := by rw [← hW0]; exact heap_new _ _
  have hB0 : Below w.heap.size w W0 := by rw [← hW0]; exact (Below.refl _ _).alloc (Nat.le_refl _) _
  have hs0 : w.heap.size + 1 = W0.heap.size := by rw [← hW0]; simp
  have HLv := Lib.hid (lives_any W0 (hE.below hB0))
  have hlm : l.length ≤ maxLen := Nat.le_trans hl.len hl.top
  have hmm : m.length ≤ maxLen := Nat.le_trans hm.len hm.top
  have HL : Hid (∀ W, Below W0.heap.size W0 W → RAt W p cp l) := fun W h => (hl.below hB0).below h
  have HM : Hid (∀ W, Below W0.heap.size W0 W → RAt W q cq m) := fun W h => (hm.below hB0).below h
  have HN : Hid (∀ W, Below W0.heap.size W0 W → NmAt W w.heap.size 0 n) := fun W h => nm_cells ((h.block _ (by omega)).trans hm0)
  have HFin : Hid (∀ W, Below W0.heap.size W0 W → Below w.heap.size w W) := fun W h => hB0.trans (h.mono (by omega))
  clear hl hm hE hm0 hB0 hs0
  go_enter Tryd.func7, Tryd.ntmps7
  go_wp2_with (go_at_call 9; refine HLv.out.mono ?_; rintro e w1 ⟨rfl, hb1⟩; refine Hid.out ?_)
  refine Lib.hid ?_
  have HB1 := Lib.hid hb1
  clear hb1 HLv hW0
  have HR := Lib.hid (fun W (h : Below W0.heap.size W0 W) => Right_any p cp l W hlm (HL.out W h).row)
  cases hr : rightL l
  · rw [hr] at HR
    go_wp2_with (go_at_call 12; refine (HR.out _ HB1.out).mono ?_; rintro e w2 ⟨rfl, hb2⟩)
    go_ret
    exact ⟨rfl, HFin.out _ (HB1.out.trans (hb2.mono HB1.out.size))⟩
  · rw [hr] at HR
    obtain ⟨hz, hdE, hdL⟩ := par_enc hr
    have hE0 : encE l = 0 := by unfold encE; rw [if_pos hr]
    have hl4 := right_len hr
    have HEn := Lib.hid (fun W (h : Below W0.heap.size W0 W) => Encode_any p cp l W hlm (HL.out W h).row)
    have HDe := Lib.hid (fun W => Decode_any (encS l) W hz)
    have HInj := Lib.hid (fun (hm : rightL m = true) => enc_inj hr hm)
    rw [hE0] at HEn
    rw [hdE, hdL] at HDe
    obtain ⟨S, hS⟩ : ∃ S, encS l = S := ⟨_, rfl⟩
    rw [hS] at HEn HDe HInj hz
    have hz' : ¬ (4096 : Int) < (S.size : Int) := by omega
    clear hE0 hdE hdL hS
    go_wp2_with (first
      | (go_at_call 12; refine (HR.out _ HB1.out).mono ?_; rintro e w2 ⟨rfl, hb2⟩; have HB2 := Lib.hid (HB1.out.trans (hb2.mono HB1.out.size)); clear hb2)
      | (go_at_call 14; refine (HEn.out _ HB2.out).mono ?_; rintro e w3 ⟨rfl, hb3⟩; have HB3 := Lib.hid (HB2.out.trans (hb3.mono HB2.out.size)); clear hb3)
      | (go_at_call 16; refine (HDe.out _).mono ?_; rintro e w4 ⟨v4, rfl, ho4, hb4⟩; refine Hid.out ?_))
    refine Lib.hid ?_
    have HB4 := Lib.hid (HB3.out.trans (hb4.mono HB3.out.size))
    obtain ⟨p4, c4, rfl, -, hR4⟩ := own_rat ho4
    have HSm := Lib.hid (Same_any p4 p c4 cp l l w4 hlm hR4.row (HL.out _ HB4.out).row)
    rw [decide_eq_true rfl] at HSm
    have HEm := Lib.hid (fun W (h : Below W0.heap.size W0 W) => Encode_any q cq m W hmm (HM.out W h).row)
    have HSl := Lib.hid (fun W (h : Below W0.heap.size W0 W) => Same_any p q cp cq l m W hlm (HL.out W h).row (HM.out W h).row)
    clear ho4 hb4 hR4 HDe HEn
    go_wp2_with (first
      | (go_at_call 11; refine HSm.out.mono ?_; rintro e w5 ⟨rfl, hb5⟩; have HB5 := Lib.hid (HB4.out.trans (hb5.mono HB4.out.size)); clear hb5)
      | (go_at_call 14; refine (HEm.out _ HB5.out).mono ?_; rintro e w6 ⟨rfl, hb6⟩; refine Hid.out ?_))
    refine Lib.hid ?_
    have HB6 := Lib.hid (HB5.out.trans (hb6.mono HB5.out.size))
    clear hb6 HEm HSm
    obtain ⟨T, hT⟩ : ∃ T, encS m = T := ⟨_, rfl⟩
    obtain ⟨G, hG⟩ : ∃ G, encE m = G := ⟨_, rfl⟩
    rw [hT] at HInj
    rw [hT, hG]
    have key : (G == 0) = false ∨ ((G == 0) = true ∧ ∃ B, (S.toList == T.toList) = B ∧ decide (l = m) = B) := by
      cases hrm : rightL m
      · left; rw [← hG]; unfold encE; rw [if_neg (by simp [hrm])]; rfl
      · right
        refine ⟨by rw [← hG]; unfold encE; rw [if_pos hrm]; rfl, decide (l = m), ?_, rfl⟩
        have := HInj.out hrm
        by_cases hlm2 : l = m
        · rw [decide_eq_true hlm2, this.2 hlm2]; simp
        · rw [decide_eq_false hlm2, beq_eq_false_iff_ne]
          intro h; rw [tl, tl] at h
          exact hlm2 (this.1 (ByteArray.ext (Array.ext' h)))
    clear hT hG HInj
    have HP := Lib.hid (fun W (h : Below W0.heap.size W0 W) => Put_any p cp l n W (HL.out W h))
    unfold nmV at HP
    have HPB := Lib.hid (fun (h : putE l n = 0) => put_back h)
    have hx := HB6.out
    obtain ⟨y0, y1, y2⟩ := HN.out _ hx
    have hw6 : w.heap.size < w6.heap.size := World.block_lt_of_cell? _ ⟨w.heap.size, 0, none⟩ y0
    clear hr HR HM hmm
    rcases key with hG | ⟨hG, B, hST, hBB⟩
    all_goals
      try rw [hBB] at HSl
      try clear hBB
      by_cases hput : putE l n = 0
      · obtain ⟨hrA, hfA, hcA, hcL⟩ := HPB.out hput
        have hpl : putL l n = insL l n := by unfold putL; rw [if_pos hput]
        rw [hput, hpl] at HP
        obtain ⟨A, hA⟩ : ∃ A, insL l n = A := ⟨_, rfl⟩
        rw [hA] at HP hrA hfA hcA hcL
        clear hpl hput HPB hA
        go_wp2_with (first
          | (go_at_call 11; refine (HSl.out _ hx).mono ?_; rintro e w' ⟨rfl, hb'⟩; replace hx := hx.trans (hb'.mono hx.size); clear hb' y0 y1 y2 hw6; obtain ⟨y0, y1, y2⟩ := HN.out _ hx; have hw6 := World.block_lt_of_cell? _ ⟨w.heap.size, 0, none⟩ y0)
          | (go_at_call 10; refine (HP.out _ hx).mono ?_; rintro e w7 ⟨v7, rfl, ho7, hb7⟩; refine Hid.out ?_))
        refine Lib.hid ?_
        obtain ⟨p7, c7, rfl, -, hR7⟩ := own_rat ho7
        have hx7 := hx.trans (hb7.mono hx.size)
        obtain ⟨z0, z1, z2⟩ := HN.out _ hx7
        have hw7 := World.block_lt_of_cell? _ ⟨w.heap.size, 0, none⟩ z0
        have hAm : A.length ≤ maxLen := Nat.le_trans hR7.len hR7.top
        have HF := Lib.hid (Find_any p7 c7 A n.nm w7 hAm hR7.row)
        rw [hfA] at HF
        have HF : Hid (Calls Tryd.prog 21 #[.slice p7 A.length c7, .string n.nm] w7 fun e w' => e = .returned (.tuple #[.agg #[.string n.nm, .int .i64 n.kd, .int .i64 n.id], .bool true]) ∧ Below w7.heap.size w7 w') := HF
        have HX7 := Lib.hid hx7
        clear ho7 hb7 hx y0 y1 y2 hw6 hx7 hfA HP HSl
        go_wp2_with (go_at_call 21; refine HF.out.mono ?_; rintro e w8 ⟨rfl, hb8⟩; refine Hid.out ?_)
        refine Lib.hid ?_
        obtain ⟨X8, hX8⟩ : ∃ X8, w8.alloc (.cells #[.string n.nm, .int .i64 n.kd, .int .i64 n.id] 25) = X8 := ⟨_, rfl⟩
        have hX8m : X8.heap[w8.heap.size]? = some (nmB n) := by rw [← hX8]; exact heap_new _ _
        have hX8B : Below w8.heap.size w8 X8 := by rw [← hX8]; exact (Below.refl _ _).alloc (Nat.le_refl _) _
        have hb78 : Below w7.heap.size w7 X8 := hb8.trans (hX8B.mono hb8.size)
        have hx8 := HX7.out.trans (hb78.mono HX7.out.size)
        have hR8 := hR7.below hb78
        have HC := Lib.hid (Cut_any p7 c7 A n.nm X8 hR8)
        rw [hcA, hcL] at HC
        have HX8 := Lib.hid hx8
        have HX8m := Lib.hid hX8m
        obtain ⟨z0', z1', z2'⟩ := HN.out _ hx8
        have hw8 := World.block_lt_of_cell? _ ⟨w.heap.size, 0, none⟩ z0'
        clear HF z0 z1 z2 hw7 hb8 hX8B hX8m hR7 hx8 hb78
        go_wp2_with (go_at_call 19; refine HC.out.mono ?_; rintro e w9 ⟨v9, rfl, ho9, hb9⟩; refine Hid.out ?_)
        refine Lib.hid ?_
        obtain ⟨p9, c9, rfl, -, hR9⟩ := own_rat ho9
        have HRA := Lib.hid (fun W (h : Below X8.heap.size X8 W) => Right_any p7 c7 A W hAm (hR8.below h).row)
        rw [hrA] at HRA
        have HSb := Lib.hid (fun W (h : Below w9.heap.size w9 W) => Same_any p9 p c9 cp l l W hlm (hR9.below h).row (HL.out W (HX8.out.trans ((hb9.trans (h.mono hb9.size)).mono HX8.out.size))).row)
        rw [decide_eq_true rfl] at HSb
        have HB9 := Lib.hid hb9
        have EQ : ∀ W, (Op.equalIn 10000 25 (.agg #[.string n.nm, .int .i64 n.kd, .int .i64 n.id]) (.agg #[.string n.nm, .int .i64 n.kd, .int .i64 n.id])).run Tryd.prog W = .ok true W := fun W => by
          have := eq_nm n n W
          rwa [decide_eq_true rfl] at this
        have GL : Hid (∀ W, Below w9.heap.size w9 W → NmAt W w8.heap.size 0 n ∧ NmAt W w.heap.size 0 n) := fun W h => by
          have h89 := HB9.out.trans (h.mono HB9.out.size)
          exact ⟨nm_cells ((h89.block _ (Array.getElem?_eq_some_iff.1 HX8m.out).1).trans HX8m.out), HN.out W (HX8.out.trans (h89.mono HX8.out.size))⟩
        have hy := Below.refl w9.heap.size w9
        obtain ⟨⟨x0, x1, x2⟩, ⟨t0, t1, t2⟩⟩ := GL.out _ hy
        clear ho9 hb9 hR9 hR8 HC z0' z1' z2' hw8 hX8
        go_wp2_with (first
          | (go_at_call 12; refine (HRA.out _ (HB9.out.trans (hy.mono HB9.out.size))).mono ?_; rintro e w' ⟨rfl, hb'⟩; replace hy := hy.trans (hb'.mono hy.size); clear hb' x0 x1 x2 t0 t1 t2; obtain ⟨⟨x0, x1, x2⟩, ⟨t0, t1, t2⟩⟩ := GL.out _ hy)
          | (go_at_call 11; refine (HSb.out _ hy).mono ?_; rintro e w' ⟨rfl, hb'⟩; replace hy := hy.trans (hb'.mono hy.size); clear hb' x0 x1 x2 t0 t1 t2; obtain ⟨⟨x0, x1, x2⟩, ⟨t0, t1, t2⟩⟩ := GL.out _ hy))
        go_ret
        exact ⟨ret_bool (by simp), HFin.out _ (HX8.out.trans ((HB9.out.trans (hy.mono HB9.out.size)).mono HX8.out.size))⟩
      · obtain ⟨cd, hcd⟩ : ∃ cd, putE l n = cd := ⟨_, rfl⟩
        have hpl : putL l n = [] := by unfold putL; rw [if_neg hput]
        rw [hcd] at hput
        rw [hcd, hpl] at HP
        have hcb : (cd == 0) = false := by simpa using hput
        clear hpl hcd hput HPB
        go_wp2_with (first
          | (go_at_call 11; refine (HSl.out _ hx).mono ?_; rintro e w' ⟨rfl, hb'⟩; replace hx := hx.trans (hb'.mono hx.size); clear hb' y0 y1 y2 hw6; obtain ⟨y0, y1, y2⟩ := HN.out _ hx; have hw6 := World.block_lt_of_cell? _ ⟨w.heap.size, 0, none⟩ y0)
          | (go_at_call 10; refine (HP.out _ hx).mono ?_; rintro e w7 ⟨v7, rfl, ho7, hb7⟩; obtain ⟨sp7, c7, hv7⟩ := row_form ho7; rw [hv7]; have HB7 := Lib.hid (hx.trans (hb7.mono hx.size)); clear ho7 hb7 hv7))
        go_ret
        exact ⟨ret_bool (by simp), HFin.out _ HB7.out⟩
end Go.Proofs.YthifejdphflfpaaDoor
