/- What leave of package wait does. -/
import Derived.Test.YthknnmllibdggaaLeaveF
import Derived.Test.YthknnmllibdggaaEnter
namespace Go.Proofs.Ythknnmllibdggaa
open Go.RowKit Go.Sort
theorem umW : Try.prog.underlying 56 = some (.map 3 69) := by kernel_rfl
theorem uzW (w : World) : (zeroValue 69).run Try.prog w = .ok np w := by kernel_rfl
theorem cut_keep {W W' : World} {t tq ti u : TypeId} {m n Q B : Nat} {f : Lit → Option Nat} {l l0 : List It} {c : Array Value} {z : Nat × Nat} (hm : MAt W t m n f) (hq : QAt W tq ti Q l0) (hl : ∀ k, qf Q l k → qf Q l0 k) (hF : Fm W W' (fun k => k = m ∨ qf Q l k)) (hB : W.heap[B]? = some (.cells c u z)) (h1 : u ≠ tq) (h2 : u ≠ ti) : W'.heap[B]? = some (.cells c u z) :=
  (hF.same B (heap_lt hB) (fun e => by
    rcases e with e | e2
    · exact hm.notCells hB e.symm
    · obtain ⟨c', t', f', h3, h4⟩ := qf_typed hq (hl B e2)
      rw [hB] at h3
      injection h3 with h3
      injection h3 with _ h5 _
      rcases h4 with h4 | h4
      · exact h1 (h5.trans h4)
      · exact h2 (h5.trans h4))).trans hB
theorem qf_drop {Q : Nat} {a b : List It} {x : It} {k : Nat} (h : qf Q (a ++ b) k) : qf Q (a ++ x :: b) k := by
  rcases h with h | h
  · exact .inl h
  · refine .inr ?_
    simp at h ⊢
    rcases h with h | h
    · exact .inl h
    · exact .inr (.inr h)
/-- The thread doesn't wait. -/
theorem leave_no (w : World) (R : Rm) (t : Int) (h : RmAt w R) (ht : i64 t) (hno : ∀ x ∈ R.all, x.th ≠ t) :
    Calls Try.prog 43 #[pv R.rb, .int .i64 t] w fun e w' => e = .returned (.bool false) ∧ w' = w := by
  have hl := h.mw.look keyedI umW (uzW _) (keyI ht)
  rw [h.fw t, find_none hno] at hl
  have hl2 : (Instr.lookup 56 (.map (some R.m0)) (.int .i64 t) false).run Try.prog w = .ok np w := hl
  have c0 : w.cell? ⟨R.rb, 0, none⟩ = some (.map (some R.m0)) := by simp [World.cell?, h.blk]
  clear h hl
  go_enter Try.func43, Try.ntmps43
  go_wp2
  go_ret
  exact ⟨rfl, rfl⟩
set_option maxRecDepth 100000 in
set_option maxHeartbeats 4000000 in
theorem leave_yes (w : World) (R : Rm) (a b : List Wt) (x : Wt) (h : RmAt w R) (hall : R.all = a ++ x :: b) (hN : R.N < 900000) :
    Calls Try.prog 43 #[pv R.rb, .int .i64 x.th] w fun e w' => e = .returned (.bool true) ∧ ∃ R', RmAt w' R' ∧ R'.rb = R.rb ∧ R'.all = a ++ b ∧ R'.al = R.al ∧ R'.N = R.N ∧ R'.own = R.own ∧ Fm w w' (fun k => R.own k ≠ none) := by
  have hx : x ∈ R.all := by rw [hall]; simp
  obtain ⟨ht, hs, ho⟩ := h.good x hx
  have hneP : atP x.seg x.off R.all ≠ [] := by rw [hall, atP_mid]; simp
  have hneS : inS x.seg R.all ≠ [] := by rw [hall, inS_mid]; simp
  have hl := h.mw.look keyedI umW (uzW _) (keyI ht)
  rw [h.fw x.th, h.find hx] at hl
  have hl2 : (Instr.lookup 56 (.map (some R.m0)) (.int .i64 x.th) false).run Try.prog w = .ok (pv x.B) w := hl
  have c0 : w.cell? ⟨R.rb, 0, none⟩ = some (.map (some R.m0)) := by simp [World.cell?, h.blk]
  have hwx := h.wts x hx
  have c1 : ∀ q, (w.drewN q).cell? ⟨R.rb, 1, none⟩ = some (.map (some R.m1)) := fun q => show w.cell? _ = _ by simp [World.cell?, h.blk]
  have c2 : ∀ q, (w.drewN q).cell? ⟨x.B, 0, none⟩ = some (.int .i64 x.seg) := fun q => show w.cell? _ = _ by simp [World.cell?, hwx, wtC]
  have c3 : ∀ q, (w.drewN q).cell? ⟨x.B, 1, none⟩ = some (.int .i64 x.off) := fun q => show w.cell? _ = _ by simp [World.cell?, hwx, wtC]
  have c4 : ∀ q, (w.drewN q).cell? ⟨x.B, 3, none⟩ = some (pv x.ip) := fun q => show w.cell? _ = _ by simp [World.cell?, hwx, wtC]
  obtain ⟨n1, hn1, hm1⟩ := h.mp
  obtain ⟨n2, hn2, hm2⟩ := h.ms
  have hlen := h.len
  have hqP : QAW w (R.pq x.seg x.off) (itP (atP x.seg x.off a) ++ ⟨x.ip, pv x.B⟩ :: itP (atP x.seg x.off b)) := by
    have := h.qp _ _ hneP
    rw [hall, atP_mid, itP_app] at this
    exact this
  have hqS : QAW w (R.sq x.seg) (itS (inS x.seg a) ++ ⟨x.is, pv x.B⟩ :: itS (inS x.seg b)) := by
    have := h.qs _ hneS
    rw [hall, inS_mid, itS_app] at this
    exact this
  have hlP : (itP (atP x.seg x.off a) ++ (⟨x.ip, pv x.B⟩ : It) :: itP (atP x.seg x.off b)).length < 1000000 := by
    have h1 := List.length_filter_le (fun y : Wt => y.seg == x.seg && y.off == x.off) a
    have h2 := List.length_filter_le (fun y : Wt => y.seg == x.seg && y.off == x.off) b
    rw [hall] at hlen
    unfold itP atP; simp at hlen ⊢; omega
  have hlS : (itS (inS x.seg a) ++ (⟨x.is, pv x.B⟩ : It) :: itS (inS x.seg b)).length < 1000000 := by
    have h1 := List.length_filter_le (fun y : Wt => y.seg == x.seg) a
    have h2 := List.length_filter_le (fun y : Wt => y.seg == x.seg) b
    rw [hall] at hlen
    unfold itS inS; simp at hlen ⊢; omega
  have HC : Hid (∀ q, Calls Try.prog 54 #[.map (some R.m1), .agg #[.int .i64 x.seg, .int .i64 x.off], pv x.ip] (w.drewN q) _) := fun q => cutP_any (w.drewN q) R.m1 n1 (R.pq x.seg x.off) R.fp (itP (atP x.seg x.off a)) (itP (atP x.seg x.off b)) ⟨x.ip, pv x.B⟩ x.seg x.off hm1 hs ho hlP (by rw [h.fp _ _ hs ho, if_neg hneP]) (hqP.same (fun _ _ => rfl))
  have HH := Lib.hid h
  have HA := Lib.hid hall
  have HQP := Lib.hid hqP
  have HQS := Lib.hid hqS
  have HM1 := Lib.hid hm1
  have HM2 := Lib.hid hm2
  have HWX := Lib.hid hwx
  clear h hall hl hwx hm1 hm2 hqP hqS
  go_enter Try.func43, Try.ntmps43
  go_wp2_with fail
  refine wp_region_tail_d 12 (by kernel_rfl) (by kernel_rfl) ?_
  simp only [List.take_succ_cons, List.take_zero, List.drop_succ_cons, List.drop_zero]
  repeat (quiet_step (fail))
  refine wpQuiet_nil ?_
  intro _ hw'
  obtain ⟨nq, hw''⟩ := hw'
  subst hw''
  go_wp2_with (go_at_call 54; refine (HC.out nq).mono ?_; rintro e W1 ⟨⟨v1, rfl⟩, ⟨n1', fp', hm1', hn1', e1, e2, e3⟩, hq1, hF1⟩; refine Hid.out ?_)
  refine Lib.hid ?_
  have hH : RmAt (w.drewN nq) R := HH.out.same (Nat.le_refl _) (fun _ _ => rfl)
  have G1 : Fm (w.drewN nq) W1 (TF R.own (fun g => g = .m 1 ∨ g = .pq x.seg x.off ∨ ∃ t, g = .ip t)) := hF1.mono (fun k _ hk => by
    rcases hk with rfl | hk
    · exact ⟨_, hH.om1, .inl rfl⟩
    · rw [← itP_app] at hk
      rcases qfP.1 hk with rfl | ⟨y, hy, rfl⟩
      · exact ⟨_, hH.op _ _ hneP, .inr (.inl rfl)⟩
      · refine ⟨_, (hH.ow y ?_).2.1, .inr (.inr ⟨_, rfl⟩)⟩
        rw [← atP_app] at hy
        rw [HA.out]; exact mem_drop (mem_atP.1 hy).1)
  have xx : ∀ k g, R.own k = some g → R.own k = some g := fun _ _ e => e
  have hrb1 := (hH.kBlk G1 xx (by simp)).trans hH.blk
  have hw1 := hH.kW G1 xx hx (by simp)
  have hm2 := HM2.out
  have hm2a : MAt W1 3 R.m2 n2 R.fs := (show MAt (w.drewN nq) 3 R.m2 n2 R.fs from hm2).kT G1 hH.om2 (by simp)
  have hqS1 : QAW W1 (R.sq x.seg) (itS (inS x.seg a) ++ ⟨x.is, pv x.B⟩ :: itS (inS x.seg b)) := by
    have := hH.kS G1 xx hneS (by simp) (fun y _ => by simp)
    rw [HA.out, inS_mid, itS_app] at this
    exact this
  have HC2 : Hid (∀ q, Calls Try.prog 55 #[.map (some R.m2), .int .i64 x.seg, pv x.is] (W1.drewN q) _) := fun q => cutS_any (W1.drewN q) R.m2 n2 (R.sq x.seg) R.fs (itS (inS x.seg a)) (itS (inS x.seg b)) ⟨x.is, pv x.B⟩ x.seg hm2a hs hlS (by rw [hH.fs, if_neg hneS]) (hqS1.same (fun _ _ => rfl))
  have r1 : ∀ q, (W1.drewN q).cell? ⟨R.rb, 2, none⟩ = some (.map (some R.m2)) := fun q => show W1.cell? _ = _ by simp [World.cell?, hrb1]
  have r2 : ∀ q, (W1.drewN q).cell? ⟨x.B, 0, none⟩ = some (.int .i64 x.seg) := fun q => show W1.cell? _ = _ by simp [World.cell?, hw1, wtC]
  have r3 : ∀ q, (W1.drewN q).cell? ⟨x.B, 4, none⟩ = some (pv x.is) := fun q => show W1.cell? _ = _ by simp [World.cell?, hw1, wtC]
  have HHd := Lib.hid hH
  have HG1 := Lib.hid G1
  have HM1' := Lib.hid hm1'
  have HE1 := Lib.hid e1
  have HE2 := Lib.hid e2
  have HE3 := Lib.hid e3
  have HQ1 := Lib.hid hq1
  have HF1 := Lib.hid hF1
  clear hH G1 hrb1 hw1 hm2 hm2a hqS1 hm1' e1 e2 e3 hq1 hF1
  go_wp2_with fail
  refine wp_region_tail_d 13 (by kernel_rfl) (by kernel_rfl) ?_
  simp only [List.take_succ_cons, List.take_zero, List.drop_succ_cons, List.drop_zero]
  repeat (quiet_step (fail))
  refine wpQuiet_nil ?_
  intro _ hw'
  obtain ⟨nr, hw''⟩ := hw'
  subst hw''
  go_wp2_with (go_at_call 55; refine (HC2.out nr).mono ?_; rintro e W2 ⟨⟨v2, rfl⟩, ⟨n2', fs', hm2', hn2', d1, d2, d3⟩, hq2, hF2⟩; refine Hid.out ?_)
  refine Lib.hid ?_
  have G2 : Fm (W1.drewN nr) W2 (TF R.own (fun g => g = .m 2 ∨ g = .sq x.seg ∨ ∃ t, g = .is t)) := hF2.mono (fun k _ hk => by
    rcases hk with rfl | hk
    · exact ⟨_, HH.out.om2, .inl rfl⟩
    · rw [← itS_app] at hk
      rcases qfS.1 hk with rfl | ⟨y, hy, rfl⟩
      · exact ⟨_, HH.out.os _ hneS, .inr (.inl rfl)⟩
      · refine ⟨_, (HH.out.ow y ?_).2.2, .inr (.inr ⟨_, rfl⟩)⟩
        rw [← inS_app] at hy
        rw [HA.out]; exact mem_drop (mem_inS.1 hy).1)
  have G1d : Fm (w.drewN nq) (W1.drewN nr) _ := ⟨HG1.out.os, HG1.out.tape, HG1.out.output, HG1.out.size, HG1.out.same⟩
  have G12 := G1d.transT G2
  have hrb2 := (HHd.out.kBlk G12 xx (by simp)).trans HHd.out.blk
  have hm0 := HHd.out.mw.kT G12 HHd.out.om0 (by simp)
  obtain ⟨W3, hrun, hm3, hg3, s3⟩ := hm0.del keyedI umW (keyI ht) 0
  rw [HH.out.fw x.th, HH.out.find hx] at hm3
  have r0 : W2.cell? ⟨R.rb, 0, none⟩ = some (.map (some R.m0)) := by simp [World.cell?, hrb2]
  have HM3 := Lib.hid hm3
  have HG3 := Lib.hid hg3
  have HF2 := Lib.hid hF2
  have HM2' := Lib.hid hm2'
  have HD1 := Lib.hid d1
  have HD2 := Lib.hid d2
  have HD3 := Lib.hid d3
  have HQ2 := Lib.hid hq2
  clear G2 G1d G12 hrb2 hm0 hm3 hg3 s3 hF2 hm2' d1 d2 d3 hq2 r1 r2 r3 c1 c2 c3 c4
  go_wp2_with fail
  go_ret
  refine ⟨rfl, ?_⟩
  have hF2w : Fm W1 W2 _ := ⟨HF2.out.os, HF2.out.tape, HF2.out.output, HF2.out.size, HF2.out.same⟩
  have hF1w : Fm w W1 _ := ⟨HF1.out.os, HF1.out.tape, HF1.out.output, HF1.out.size, HF1.out.same⟩
  exact leave_fin HH.out HA.out HM1'.out (by omega) HE1.out HE2.out HE3.out HQ1.out hF1w HM2'.out (by omega) HD1.out HD2.out HD3.out HQ2.out hF2w HM3.out rfl (Fm.of_grown HG3.out)
end Go.Proofs.Ythknnmllibdggaa
