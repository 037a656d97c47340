/- What Cut of package dir answers. -/
import Derived.Test.YthifejdphflfpaaDoorOrdB
import Derived.Test.YthifejdphflfpaaDoorTail
import Derived.Laws.StructEq
namespace Go.Proofs.YthifejdphflfpaaDoor
open Go.RowKit Go.Sort
theorem quiet_exec {P : Program} {C : World → Prop} {o : Oper} {a : Act} {K : Act → Prop} (v : Value) (hl : ∀ w, C w → (execOp a.eval o).run P w = .ok (.value v) w) (h : K (a.put o.dst v)) : o.quiet P a C K := by
  refine ⟨v, fun w hw => ?_, h⟩
  unfold Oper.quietAt
  rw [hl w hw]
  exact ⟨rfl, rfl⟩
/-- The list without the entries of a name. -/
def flt (x : ByteArray) (l : List Nm) : List Nm := l.filter fun m => !(m.nm.toList == x.toList)
def cutE (l : List Nm) (x : ByteArray) : Int := if rightL l = false then 2 else if inB l x = false then 20 else 0
def cutL (l : List Nm) (x : ByteArray) : List Nm := if cutE l x = 0 then flt x l else []
theorem ret_two {v : Value} {a b : Int} (h : a = b) : Ending.returned (.tuple #[v, .int .i64 a]) = .returned (.tuple #[v, .int .i64 b]) := by rw [h]
theorem cut_flt {l : List Nm} {x : ByteArray} {i : Nat} (hr : rightL l = true) (hi : Spot l x i) (ht : thereB l x i = true) : i < l.length ∧ l.take i ++ l.drop (i + 1) = flt x l := by
  unfold thereB at ht
  cases hg : l[i]? with
  | none => rw [hg] at ht; cases ht
  | some m =>
    rw [hg] at ht
    simp only at ht
    obtain ⟨hil, hm⟩ := List.getElem?_eq_some_iff.1 hg
    refine ⟨hil, ?_⟩
    have hx : m.nm.toList = x.toList := by simpa using ht
    have hsp : l = l.take i ++ m :: l.drop (i + 1) := by rw [← hm, ← List.drop_eq_getElem_cons hil, List.take_append_drop]
    have hne : ∀ q : Nm, ltB q.nm x = true ∨ ltB x q.nm = true → (!(q.nm.toList == x.toList)) = true := fun q h => by
      cases hh : (q.nm.toList == x.toList)
      · rfl
      · have e : q.nm.toList = x.toList := by simpa using hh
        unfold ltB at h
        rw [e, bl_irr] at h
        simp at h
    have h1 : flt x (l.take i) = l.take i := by
      unfold flt; rw [List.filter_eq_self]
      intro q hq
      obtain ⟨j, hj, rfl⟩ := List.mem_take_iff_getElem.1 hq
      exact hne _ (.inl (hi.2.1 j (by omega) (by omega)))
    have h2 : flt x (l.drop (i + 1)) = l.drop (i + 1) := by
      unfold flt; rw [List.filter_eq_self]
      intro q hq
      obtain ⟨j, hj, rfl⟩ := List.mem_iff_getElem.1 hq
      rw [List.length_drop] at hj
      rw [List.getElem_drop]
      have h3 := (rk_rise l 0 ⟨#[]⟩ hr i hil).2.2 (i + 1 + j) (by omega) (by omega)
      rw [hm] at h3
      refine hne _ (.inr ?_)
      unfold ltB at h3 ⊢; rw [← hx]; exact h3
    have h3 : flt x l = flt x (l.take i) ++ (flt x [m] ++ flt x (l.drop (i + 1))) := by
      conv => lhs; rw [hsp]
      unfold flt
      rw [List.filter_append, List.filter_cons, List.filter_cons]
      split <;> simp
    have h4 : flt x [m] = [] := by unfold flt; simp [hx]
    rw [h3, h1, h2, h4, List.nil_append]
set_option maxRecDepth 100000 in
set_option maxHeartbeats 2000000 in
theorem Cut_any (p : Option Addr) (cap : Nat) (l : List Nm) (x : ByteArray) (w : World) (hR : RAt w p cap l) :
    Calls Tryd.prog 19 #[.slice p l.length cap, .string x] w fun e w' => ∃ v, e = .returned (.tuple #[v, .int .i64 (cutE l x)]) ∧ w'.ownsRow w.heap.size 25 3 v (cutL l x).length (flat (cutL l x)) ∧ Below w.heap.size w w' := by
  have hm : l.length ≤ maxLen := Nat.le_trans hR.len hR.top
  have HRT := Lib.hid (Right_any p cap l w hm hR.row)
  cases hr : rightL l
  · rw [hr] at HRT
    have hE : cutE l x = 2 := by unfold cutE; simp [hr]
    have hL : cutL l x = [] := by unfold cutL; rw [hE]; rfl
    rw [hE, hL]
    go_enter Tryd.func19, Tryd.ntmps19
    go_wp2_with (first | (go_at_call 12; refine HRT.out.mono ?_; rintro e w1 ⟨rfl, hb1⟩))
    go_ret2
    exact ⟨_, rfl, World.ownsRow_nil _ _ _ _, hb1⟩
  · rw [hr] at HRT
    have h4 := right_len hr
    have HPl := Lib.hid (fun W (h : Below w.heap.size w W) => place_any p cap l x W (by omega) ((hR.below h).row) hr)
    have HTI := Lib.hid (fun i (h : Spot l x i) => there_in l x i hr h)
    have HCF := Lib.hid (fun i (h : Spot l x i) (ht : thereB l x i = true) => cut_flt hr h ht)
    cases hin : inB l x
    · have hE : cutE l x = 20 := by unfold cutE; simp [hr, hin]
      have hL : cutL l x = [] := by unfold cutL; rw [hE]; rfl
      rw [hE, hL]
      have HIN := Lib.hid hin
      clear hin
      go_enter Tryd.func19, Tryd.ntmps19
      go_wp2_with (first
        | (go_at_call 12; refine HRT.out.mono ?_; rintro e w1 ⟨rfl, hb1⟩)
        | (go_at_call 29; refine (HPl.out _ hb1).mono ?_; rintro e w2 ⟨⟨i, hi, rfl⟩, hb2⟩; have hti := HTI.out i hi; rw [HIN.out] at hti))
      go_ret2
      exact ⟨_, rfl, World.ownsRow_nil _ _ _ _, hb1.trans (hb2.mono hb1.size)⟩
    · have hE : cutE l x = 0 := by unfold cutE; simp [hr, hin]
      have hL : cutL l x = flt x l := by unfold cutL; rw [if_pos hE]
      have HIN := Lib.hid hin
      clear hin
      rw [hE, hL]
      go_enter Tryd.func19, Tryd.ntmps19
      go_wp2_with (first
        | (go_at_call 12; refine HRT.out.mono ?_; rintro e w1 ⟨rfl, hb1⟩)
        | (go_at_call 29; refine (HPl.out _ hb1).mono ?_; rintro e w2 ⟨⟨i, hi, rfl⟩, hb2⟩; have hti := HTI.out i hi; rw [HIN.out] at hti; refine Hid.out ?_))
      refine Lib.hid ?_
      obtain ⟨hil, hfl⟩ := HCF.out i hi hti
      have hbw : Below w.heap.size w w2 := hb1.trans (hb2.mono hb1.size)
      clear hb1 hb2 HRT HPl HTI HCF hi
      go_wp2_with fail
      obtain ⟨b, off, rfl, -⟩ := hR.row i hil
      have hlc := hR.len
      have hcm := hR.top
      unfold maxLen at hcm
      have hbs := hbw.size
      have hRr := hR.below hbw
      have hic : (i : Int) ≤ (cap : Int) := by omega
      have hil1 : (i : Int) + 1 ≤ (l.length : Int) := by omega
      have HC1 := Lib.hid (fun W (hW : Below w2.heap.size w2 W) => (hRr.below hW).src_take (k := i) (by omega))
      have HC2 := Lib.hid (fun W (hW : Below w2.heap.size w2 W) => (hRr.below hW).src_drop (k := i + 1) (by omega))
      have HCC : Hid (∀ (W : World) (s1 s2 : Value), Src W s1 (l.take i) → Src W s2 (l.drop (i + 1)) → Calls Tryd.prog 30 #[.slice (some ⟨W.heap.size, 0, none⟩) 2 2] (W.alloc (.cells #[s1, s2] 22)) fun e w' => ∃ v, e = .returned v ∧ w'.ownsRow W.heap.size 25 3 v (flt x l).length (flat (flt x l)) ∧ Below W.heap.size W w') := fun W s1 s2 h1 h2 => by
        have hbW : Below W.heap.size W (W.alloc (.cells #[s1, s2] 22)) := (Below.refl _ _).alloc (Nat.le_refl _) _
        have hcat : cat [(s1, l.take i), (s2, l.drop (i + 1))] = flt x l := by rw [← hfl]; simp [cat]
        have h := Concat_any W.heap.size 2 [(s1, l.take i), (s2, l.drop (i + 1))] (W.alloc (.cells #[s1, s2] 22)) (by rw [hcat, ← hfl]; simp; omega) (by simp) (by simp) (fun k hk => by
          have hk2 : k < 2 := hk
          obtain rfl | rfl : k = 0 ∨ k = 1 := by omega
          · simp [go_sem]
          · simp [go_sem]) (fun y hy => by
          simp only [List.mem_cons, List.not_mem_nil, or_false] at hy
          rcases hy with rfl | rfl
          · exact h1.below hbW
          · exact h2.below hbW)
        rw [hcat] at h
        refine h.mono ?_
        rintro e w' ⟨v, rfl, ho, hb⟩
        exact ⟨v, rfl, row_mono ho (by simp), hbW.trans (hb.mono (by simp))⟩
      clear hR hRr
      have hwi : IntKind.i64.wrap ((i : Int) + 1) = ((i + 1 : Nat) : Int) := by rw [IntKind.wrap_i64]; omega
      have hicN : i ≤ cap := by omega
      have HI1 := Lib.hid hicN
      have HI2 := Lib.hid hil
      have HFL := Lib.hid hfl
      clear hicN hil hic hil1 hlc hcm hfl hti hm h4
      refine wp_region_tail_d 7 (by kernel_rfl) (by kernel_rfl) ?_
      simp only [List.take_succ_cons, List.take_zero, List.drop_succ_cons, List.drop_zero]
      repeat (go_big_quiet_step (fail))
      go_big_quiet_want
      refine quiet_exec _ (fun w _ => exec_slice_hi (p := some ⟨b, off, none⟩) (cap := cap) (k := i) rfl rfl rfl HI1.out w) ?_
      go_simp
      go_big_quiet_on
      repeat (go_big_quiet_step (fail))
      go_big_quiet_want
      refine quiet_exec _ (fun w _ => exec_slice_lo (p := some ⟨b, off, none⟩) (n := l.length) (cap := cap) (k := i + 1) rfl rfl rfl HI2.out w) ?_
      go_simp
      go_big_quiet_on
      repeat (go_big_quiet_step (fail))
      refine wpQuiet_nil ?_
      intro _ hw'
      obtain ⟨nq, hw''⟩ := hw'
      subst hw''
      have hbq : Below w2.heap.size w2 (w2.drewN nq) := bdn (Below.refl _ _) _
      have HCW := Lib.hid (HCC.out (w2.drewN nq) _ _ (HC1.out _ hbq) (HC2.out _ hbq))
      clear HCC HC1 HC2 hE hL
      go_wp2_with (go_at_call 30; refine HCW.out.mono ?_; rintro e w3 ⟨v, rfl, ho3, hb3⟩)
      all_goals (go_ret2; exact ⟨_, rfl, row_mono ho3 (Nat.le_trans hbs hbq.size), (hbw.trans (hbq.mono hbs)).trans (hb3.mono (Nat.le_trans hbs hbq.size))⟩)
end Go.Proofs.YthifejdphflfpaaDoor
