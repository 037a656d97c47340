/- What Put of package space answers. -/
import Derived.Test.YtddllchobojmlaaSpan
namespace Go.Proofs.Ytddllchobojmlaa
open Go.RowKit Go.Sort
def meet (m o : Mp) : Bool := decide (o.at_ < m.at_ + m.pg) && decide (m.at_ < o.at_ + o.pg)
def ahd (m : Mp) (l : List Mp) : Nat := (l.filter fun o => decide (o.at_ < m.at_)).length
def putE (l : List Mp) (m : Mp) : Int := if (rightS l && goodM m) = false then 1 else if l.any (meet m) = true then 2 else if l.length = 16 then 7 else 0
def putL (l : List Mp) (m : Mp) : List Mp := if putE l m = 0 then l.take (ahd m l) ++ [m] ++ l.drop (ahd m l) else []
theorem ahd_take (m : Mp) (l : List Mp) (k : Nat) (h : k < l.length) : ahd m (l.take (k + 1)) = ahd m (l.take k) + if l[k].at_ < m.at_ then 1 else 0 := by
  unfold ahd; rw [List.take_succ_eq_append_getElem h, List.filter_append, List.length_append]
  by_cases hh : l[k].at_ < m.at_ <;> simp [hh]
theorem ahd_le (m : Mp) (l : List Mp) : ahd m l ≤ l.length := List.length_filter_le _ _
theorem any_take (m : Mp) (l : List Mp) (k : Nat) (h : k < l.length) : (l.take (k + 1)).any (meet m) = ((l.take k).any (meet m) || meet m l[k]) := by
  rw [List.take_succ_eq_append_getElem h, List.any_append]; simp
theorem any_of_take (m : Mp) (l : List Mp) (k : Nat) (h : (l.take k).any (meet m) = true) : l.any (meet m) = true := by
  rw [List.any_eq_true] at h ⊢
  obtain ⟨x, hx, hh⟩ := h
  exact ⟨x, List.mem_of_mem_take hx, hh⟩
theorem end_b2 (m : Mp) (w : World) (h1 : -9223372036854775808 ≤ m.at_ + m.pg) (h2 : m.at_ + m.pg ≤ 9223372036854775807) : Calls Try.prog 22 #[.agg #[.int .i64 m.at_, .int .i64 m.pg, .int .i64 m.inn, .int .i64 m.id, .int .i64 m.fr, .bool m.wr, .bool m.rn]] w fun e w' => e = .returned (.int .i64 (m.at_ + m.pg)) ∧ Below w.heap.size w w' :=
  (end_any m w h1 h2).mono fun _ _ ⟨he, hw⟩ => ⟨he, by rw [hw]; exact (Below.refl _ _).alloc (Nat.le_refl _) _⟩
theorem MpAt.gx {w : World} {b o : Nat} {m : Mp} (h : MpAt w b o m) (hb : b < w.heap.size) (n : Nat) (os : Array Obj) : MpAt (gx w n os) b o m := h.below (gx_below w n os) hb
set_option maxRecDepth 100000 in
set_option maxHeartbeats 4000000 in
theorem Put_any (p : Option Addr) (cap : Nat) (l : List Mp) (m : Mp) (w : World) (hR : RAt w p cap l) :
    Calls Try.prog 10 #[.slice p l.length cap, mpV m] w fun e w' => ∃ v, e = .returned (.tuple #[v, .int .i64 (putE l m)]) ∧ w'.ownsRow w.heap.size 24 7 v (putL l m).length (flat (putL l m)) ∧ Below w.heap.size w w' := by
  unfold mpV
  have hlc := hR.len
  have hm : l.length ≤ maxLen := Nat.le_trans hlc hR.top
  have hc := hR.row
  have hB1 : Below w.heap.size w (w.alloc (mpB m)) := (Below.refl _ _).alloc (Nat.le_refl _) _
  have hM1 := mpB_at w m
  have HRT := Lib.hid (Right_any p cap l (w.alloc (mpB m)) hm (hc.below hB1))
  by_cases hr : rightS l = true
  · rw [hr] at HRT
    by_cases hg : goodM m = true
    · have hgm := ((goodM_iff _).1 hg).1
      have h16 : l.length ≤ 16 := by unfold rightS at hr; simp only [Bool.and_eq_true, decide_eq_true_eq] at hr; exact hr.1
      have hrl : rOk 0 l = true := by unfold rightS at hr; simp only [Bool.and_eq_true] at hr; exact hr.2
      go_enter Try.func10, Try.ntmps10
      go_wp2_with (first
        | (go_at_call 14; refine HRT.out.mono ?_; rintro e w1 ⟨rfl, hb1⟩; obtain ⟨c0, c1, c2, c3, c4, c5, c6⟩ := hM1.below hb1 (by simp))
        | (go_at_call 21; refine (rightMap_any m _).mono ?_; rintro e w2 ⟨rfl, hw2⟩; rw [hw2]; clear hw2 w2))
      have hbA : Below w.heap.size w (w1.alloc (mpB m)) := (hB1.trans (hb1.mono (by simp))).alloc (by have := hb1.size; simp at this; omega) _
      have hM2 : MpAt (w1.alloc (mpB m)) w.heap.size 0 m := (hM1.below hb1 (by simp)).below ((Below.refl w1.heap.size w1).alloc (Nat.le_refl _) _) (by have := hb1.size; simp at this; omega)
      have hw2 : w.heap.size < (w1.alloc (mpB m)).heap.size := by have := hb1.size; simp at this ⊢; omega
      clear c0 c1 c2 c3 c4 c5 c6 HRT
      obtain ⟨W2, hW2⟩ : ∃ W2, w1.alloc (mpB m) = W2 := ⟨_, rfl⟩
      rw [hW2] at hbA hM2 hw2 ⊢
      clear hb1 hW2 hM1 hB1
      have hBW := hbA
      go_loopw [6, 19] (fun a i wr => ∃ k : Nat, k ≤ l.length ∧ a = .int .i64 (ahd m (l.take k) : Nat) ∧ i = .int .i64 k ∧ (l.take k).any (meet m) = false ∧ Below W2.heap.size W2 wr) (fun _ i _ => l.length - (intOf i).toNat)
      case atStart => exact ⟨0, Nat.zero_le _, by simp [ahd], rfl, by simp, Below.refl _ _⟩
      case round =>
        obtain ⟨k, hk, rfl, rfl, hany, hb⟩ := hrel
        have hbw : Below w.heap.size w wr := hBW.trans (hb.mono hBW.size)
        by_cases hlt : k < l.length
        · obtain ⟨b, off, rfl, hbl, hq⟩ := hc k hlt
          obtain ⟨c0, c1, c2, c3, c4, c5, c6⟩ := hq.below hbw hbl
          have hbr : b < wr.heap.size := Nat.lt_of_lt_of_le hbl hbw.size
          have HT := Lib.hid (ahd_take m l k hlt)
          have HA := Lib.hid (any_take m l k hlt)
          have HAny := Lib.hid hany
          have hki : (k : Int) < (l.length : Int) := by omega
          have hgk := ((goodM_iff _).1 (goods hrl _ (List.getElem_mem hlt))).1
          have hbs := hb.size
          have hal : ahd m (l.take k) ≤ l.length := Nat.le_trans (ahd_le m _) (by rw [List.length_take]; omega)
          have hbs2 := hbw.size
          clear hc hq hany
          go_wp2_with fail
          obtain ⟨V, hV⟩ : ∃ V, wr.alloc (.cells #[.int .i64 l[k].at_, .int .i64 l[k].pg, .int .i64 l[k].inn, .int .i64 l[k].id, .int .i64 l[k].fr, .bool l[k].wr, .bool l[k].rn] 24) = V := ⟨_, rfl⟩
          have hMo : MpAt V wr.heap.size 0 l[k] := by rw [← hV]; exact mpB_at wr l[k]
          have hbV : Below wr.heap.size wr V := by rw [← hV]; exact (Below.refl _ _).alloc (Nat.le_refl _) _
          have hVs : V.heap.size = wr.heap.size + 1 := by rw [← hV]; simp
          have hMm : MpAt V w.heap.size 0 m := (hM2.below hb hw2).below hbV (by omega)
          rw [hV]
          clear hV
          have HE1 : Hid (∀ n os, Calls Try.prog 22 #[.agg #[.int .i64 m.at_, .int .i64 m.pg, .int .i64 m.inn, .int .i64 m.id, .int .i64 m.fr, .bool m.wr, .bool m.rn]] (gx V n os) fun e w' => e = .returned (.int .i64 (m.at_ + m.pg)) ∧ Below (gx V n os).heap.size (gx V n os) w') := fun n os => end_b2 m _ (by omega) (by omega)
          have HE2 : Hid (∀ n os, Calls Try.prog 22 #[.agg #[.int .i64 l[k].at_, .int .i64 l[k].pg, .int .i64 l[k].inn, .int .i64 l[k].id, .int .i64 l[k].fr, .bool l[k].wr, .bool l[k].rn]] (gx V n os) fun e w' => e = .returned (.int .i64 (l[k].at_ + l[k].pg)) ∧ Below (gx V n os).heap.size (gx V n os) w') := fun n os => end_b2 l[k] _ (by omega) (by omega)
          have g0 := fun n os => (hMo.gx (by omega) n os).c0
          have g1 := fun n os => (hMo.gx (by omega) n os).c1
          have g2 := fun n os => (hMo.gx (by omega) n os).c2
          have g3 := fun n os => (hMo.gx (by omega) n os).c3
          have g4 := fun n os => (hMo.gx (by omega) n os).c4
          have g5 := fun n os => (hMo.gx (by omega) n os).c5
          have g6 := fun n os => (hMo.gx (by omega) n os).c6
          have f0 := fun n os => (hMm.gx (by omega) n os).c0
          have f1 := fun n os => (hMm.gx (by omega) n os).c1
          have f2 := fun n os => (hMm.gx (by omega) n os).c2
          have f3 := fun n os => (hMm.gx (by omega) n os).c3
          have f4 := fun n os => (hMm.gx (by omega) n os).c4
          have f5 := fun n os => (hMm.gx (by omega) n os).c5
          have f6 := fun n os => (hMm.gx (by omega) n os).c6
          clear c0 c1 c2 c3 c4 c5 c6
          by_cases h1 : l[k].at_ < m.at_ + m.pg
          · by_cases h2 : m.at_ < l[k].at_ + l[k].pg
            · refine wp_region_quiet_gx (by kernel_rfl) (by kernel_rfl) ?_
              repeat (quiet_step (first
                | (go_at_call 22; with_reducible exact calls_gx (HE1.out _ _))
                | (go_at_call 22; with_reducible exact calls_gx (HE2.out _ _))))
              refine wpQuiet_nil ?_
              intro _ hw'
              obtain ⟨⟨nq, osq⟩, hw''⟩ := hw'
              subst hw''
              simp only
              go_wp2
              go_ret2
              have hA : l.any (meet m) = true := any_of_take m l (k + 1) (by rw [HA.out]; simp [meet, h1, h2])
              have hE : putE l m = 2 := by unfold putE; simp [hr, hg, hA]
              exact ⟨_, ret_two rfl hE.symm, by unfold putL; rw [hE]; exact World.ownsRow_nil _ _ _ _, (hbw.trans (hbV.mono hbs2)).trans ((gx_below V _ _).mono (by omega))⟩
            · by_cases h3 : l[k].at_ < m.at_
              · refine wp_region_quiet_gx (by kernel_rfl) (by kernel_rfl) ?_
                repeat (quiet_step (first
                  | (go_at_call 22; with_reducible exact calls_gx (HE1.out _ _))
                  | (go_at_call 22; with_reducible exact calls_gx (HE2.out _ _))))
                refine wpQuiet_nil ?_
                intro _ hw'
                obtain ⟨⟨nq, osq⟩, hw''⟩ := hw'
                subst hw''
                simp only
                have hbq := gx_below V nq osq
                have q0 := f0 nq osq
                have q1 := g0 nq osq
                clear f0 f1 f2 f3 f4 f5 f6 g0 g1 g2 g3 g4 g5 g6 HE1 HE2
                generalize gx V nq osq = V2 at hbq q0 q1 ⊢
                have hz2 := hbq.size
                go_wp2
                go_roundw
                case rel => exact ⟨k + 1, by omega, by rw [HT.out, if_pos h3]; go_num, by go_num, by rw [HA.out, HAny.out]; simp [meet, h2], (hb.trans (hbV.mono hbs)).trans (hbq.mono (by omega))⟩
                case measure => simp [intOf]; omega
              · exact absurd h3 (by omega)
          · by_cases h3 : l[k].at_ < m.at_
            · exact absurd h3 (by omega)
            · refine wp_region_quiet_gx (by kernel_rfl) (by kernel_rfl) ?_
              repeat (quiet_step (first
                | (go_at_call 22; with_reducible exact calls_gx (HE1.out _ _))
                | (go_at_call 22; with_reducible exact calls_gx (HE2.out _ _))))
              refine wpQuiet_nil ?_
              intro _ hw'
              obtain ⟨⟨nq, osq⟩, hw''⟩ := hw'
              subst hw''
              simp only
              have hbq := gx_below V nq osq
              have q0 := f0 nq osq
              have q1 := g0 nq osq
              clear f0 f1 f2 f3 f4 f5 f6 g0 g1 g2 g3 g4 g5 g6 HE1 HE2
              generalize gx V nq osq = V2 at hbq q0 q1 ⊢
              have hz2 := hbq.size
              go_wp2
              go_roundw
              case rel => exact ⟨k + 1, by omega, by rw [HT.out, if_neg h3]; rfl, by go_num, by rw [HA.out, HAny.out]; simp [meet, h1], (hb.trans (hbV.mono hbs)).trans (hbq.mono (by omega))⟩
              case measure => simp [intOf]; omega
        · obtain rfl : k = l.length := by omega
          have hkk : ¬ (l.length : Int) < (l.length : Int) := by omega
          rw [List.take_length] at *
          by_cases hf : l.length = 16
          · have hfi : ((l.length : Int) == 16) = true := by simp [hf]
            clear hf
            go_wp2
            go_ret2
            have hE : putE l m = 7 := by unfold putE; simp at hfi; simp [hr, hg, hany]; omega
            exact ⟨_, ret_two rfl hE.symm, by unfold putL; rw [hE]; exact World.ownsRow_nil _ _ _ _, hbw⟩
          · have hfi : ((l.length : Int) == 16) = false := by simp; omega
            have hE : putE l m = 0 := by unfold putE; simp [hr, hg, hany, hf]
            go_wp2_with fail
            have hal : ahd m l ≤ l.length := ahd_le m l
            have hac : ahd m l ≤ cap := Nat.le_trans hal hlc
            have hbs2 := hbw.size
            have hbs := hb.size
            have hwr : w.heap.size < wr.heap.size := by omega
            have hRr := (hR.below hbw)
            have HXA := Lib.hid (show MpAt (wr.drew.alloc (.cells #[.int .i64 m.at_, .int .i64 m.pg, .int .i64 m.inn, .int .i64 m.id, .int .i64 m.fr, .bool m.wr, .bool m.rn] 24)) w.heap.size 0 m from ((hM2.below hb hw2).below ((Below.refl wr.heap.size wr).drew.alloc (Nat.le_refl _) _) hwr))
            have HXB := Lib.hid (show MpAt ((wr.drew.alloc (.cells #[.int .i64 m.at_, .int .i64 m.pg, .int .i64 m.inn, .int .i64 m.id, .int .i64 m.fr, .bool m.wr, .bool m.rn] 24)).alloc (.cells #[.slice p (ahd m l) cap, .slice (some ⟨wr.heap.size, 0, none⟩) 1 1, .slice (dropP p cap (ahd m l)) (l.length - ahd m l) (cap - ahd m l)] 22)) w.heap.size 0 m from HXA.out.below ((Below.refl _ _).alloc (Nat.le_refl _) _) (by simp; omega))
            have HX0 := Lib.hid (show MpAt wr.drew w.heap.size 0 m from (hM2.below hb hw2).below (Below.refl wr.heap.size wr).drew hwr)
            have hbA2 : Below wr.heap.size wr (wr.drew.alloc (.cells #[.int .i64 m.at_, .int .i64 m.pg, .int .i64 m.inn, .int .i64 m.id, .int .i64 m.fr, .bool m.wr, .bool m.rn] 24)) := (Below.refl wr.heap.size wr).drew.alloc (Nat.le_refl _) _
            have hbB2 : Below wr.heap.size wr ((wr.drew.alloc (.cells #[.int .i64 m.at_, .int .i64 m.pg, .int .i64 m.inn, .int .i64 m.id, .int .i64 m.fr, .bool m.wr, .bool m.rn] 24)).alloc (.cells #[.slice p (ahd m l) cap, .slice (some ⟨wr.heap.size, 0, none⟩) 1 1, .slice (dropP p cap (ahd m l)) (l.length - ahd m l) (cap - ahd m l)] 22)) := hbA2.alloc (by simp) _
            have hPL : putL l m = cat [(.slice p (ahd m l) cap, l.take (ahd m l)), (.slice (some ⟨wr.heap.size, 0, none⟩) 1 1, [m]), (.slice (dropP p cap (ahd m l)) (l.length - ahd m l) (cap - ahd m l), l.drop (ahd m l))] := by unfold putL cat; rw [if_pos hE]; simp
            have hcl : (cat [((.slice p (ahd m l) cap : Value), l.take (ahd m l)), (.slice (some ⟨wr.heap.size, 0, none⟩) 1 1, [m]), (.slice (dropP p cap (ahd m l)) (l.length - ahd m l) (cap - ahd m l), l.drop (ahd m l))]).length < 1000000 := by
              unfold cat; simp; omega
            have HCC : Hid (Calls Try.prog 23 #[.slice (some ⟨wr.heap.size + 1, 0, none⟩) 3 3] ((wr.drew.alloc (.cells #[.int .i64 m.at_, .int .i64 m.pg, .int .i64 m.inn, .int .i64 m.id, .int .i64 m.fr, .bool m.wr, .bool m.rn] 24)).alloc (.cells #[.slice p (ahd m l) cap, .slice (some ⟨wr.heap.size, 0, none⟩) 1 1, .slice (dropP p cap (ahd m l)) (l.length - ahd m l) (cap - ahd m l)] 22)) fun e w' => ∃ v, e = .returned v ∧ w'.ownsRow w.heap.size 24 7 v (putL l m).length (flat (putL l m)) ∧ Below w.heap.size w w' ∧ MpAt w' w.heap.size 0 m) := by
              have h := Concat_any (wr.heap.size + 1) 3 [(.slice p (ahd m l) cap, l.take (ahd m l)), (.slice (some ⟨wr.heap.size, 0, none⟩) 1 1, [m]), (.slice (dropP p cap (ahd m l)) (l.length - ahd m l) (cap - ahd m l), l.drop (ahd m l))] ((wr.drew.alloc (.cells #[.int .i64 m.at_, .int .i64 m.pg, .int .i64 m.inn, .int .i64 m.id, .int .i64 m.fr, .bool m.wr, .bool m.rn] 24)).alloc (.cells #[.slice p (ahd m l) cap, .slice (some ⟨wr.heap.size, 0, none⟩) 1 1, .slice (dropP p cap (ahd m l)) (l.length - ahd m l) (cap - ahd m l)] 22)) hcl (by simp) (by simp) ?_ ?_
              · refine h.mono ?_
                rintro e w2 ⟨v, rfl, ho2, hb2⟩
                rw [← hPL] at ho2
                have hwB : w.heap.size ≤ ((wr.drew.alloc (.cells #[.int .i64 m.at_, .int .i64 m.pg, .int .i64 m.inn, .int .i64 m.id, .int .i64 m.fr, .bool m.wr, .bool m.rn] 24)).alloc (.cells #[.slice p (ahd m l) cap, .slice (some ⟨wr.heap.size, 0, none⟩) 1 1, .slice (dropP p cap (ahd m l)) (l.length - ahd m l) (cap - ahd m l)] 22)).heap.size := by simp; omega
                exact ⟨v, rfl, row_mono ho2 hwB, (hbw.trans (hbB2.mono hbs2)).trans (hb2.mono hwB), HXB.out.below hb2 (by simp; omega)⟩
              · intro k hk
                have hk3 : k < 3 := hk
                obtain rfl | rfl | rfl : k = 0 ∨ k = 1 ∨ k = 2 := by omega
                · simp [go_sem]
                · simp [go_sem]
                · simp [go_sem]
              · intro x hx
                simp only [List.mem_cons, List.not_mem_nil, or_false] at hx
                rcases hx with rfl | rfl | rfl
                · exact (hRr.below hbB2).src_take hal
                · refine .inr ⟨_, 1, rfl, ?_⟩
                  have h1 : MsAt ((wr.drew.alloc (.cells #[.int .i64 m.at_, .int .i64 m.pg, .int .i64 m.inn, .int .i64 m.id, .int .i64 m.fr, .bool m.wr, .bool m.rn] 24)).alloc (.cells #[.slice p (ahd m l) cap, .slice (some ⟨wr.heap.size, 0, none⟩) 1 1, .slice (dropP p cap (ahd m l)) (l.length - ahd m l) (cap - ahd m l)] 22)) (some ⟨wr.heap.size, 0, none⟩) [m] := fun j hj => by
                    obtain rfl : j = 0 := by simpa using hj
                    exact ⟨_, _, rfl, by simp; omega, ((mpB_at wr.drew m).below ((Below.refl _ _).alloc (Nat.le_refl _) _) (by simp [mpB]))⟩
                  exact h1.flat
                · exact (hRr.below hbB2).src_drop hal
            clear hc hfi hkk
            refine wp_region_inv (I := (fun li a' w' => ∃ (b0 b1 b2 b3 b4 b5 b6 b7 b8 b9 b10 b11 : Bool) (t4 t5 t46 t47 t48 t49 t50 t51 t52 t53 t54 t55 : Value), li = #[b0, b1, b2, b3, b4, b5, b6, b7, b8, b9, b10, b11] ∧ a' = { tmps := #[.slice p l.length cap, .agg #[.int .i64 m.at_, .int .i64 m.pg, .int .i64 m.inn, .int .i64 m.id, .int .i64 m.fr, .bool m.wr, .bool m.rn], undef, .pointer (some ⟨w.heap.size, 0, none⟩), t4, t5, .int .i64 (ahd m l : Nat), undef, u8, .slice p l.length cap, .bool true, .bool false, .bool false, .agg #[.int .i64 m.at_, .int .i64 m.pg, .int .i64 m.inn, .int .i64 m.id, .int .i64 m.fr, .bool m.wr, .bool m.rn], .bool true, .bool false, .bool false, .slice p l.length cap, .int .i64 (l.length : Nat), .int .i64 (l.length : Nat), .bool false, u21, u22, u23, u24, u25, u26, u27, u28, u29, u30, u31, u32, u33, u34, u35, u36, u37, u38, u39, u40, u41, u42, .slice p l.length cap, .int .i64 (l.length : Nat), .bool false, t46, t47, t48, t49, t50, t51, t52, t53, t54, t55], defers := [] } ∧ (b0 = true → t46 = .slice p l.length cap) ∧ (b1 = true → t47 = .int .i64 (ahd m l : Nat)) ∧ (b2 = true → t48 = .slice p (ahd m l) cap) ∧ (b3 = true → t49 = .agg #[.int .i64 m.at_, .int .i64 m.pg, .int .i64 m.inn, .int .i64 m.id, .int .i64 m.fr, .bool m.wr, .bool m.rn]) ∧ (b4 = true → t50 = .slice (some ⟨wr.heap.size, 0, none⟩) 1 1) ∧ (b5 = true → t51 = .slice p l.length cap) ∧ (b6 = true → t52 = .int .i64 (ahd m l : Nat)) ∧ (b7 = true → t53 = .slice (dropP p cap (ahd m l)) (l.length - ahd m l) (cap - ahd m l)) ∧ (b8 = true → t54 = .slice (some ⟨wr.heap.size + 1, 0, none⟩) 3 3) ∧ (b10 = true → t4 = t55) ∧ (b11 = true → t5 = .int .i64 0) ∧ MpAt w' w.heap.size 0 m ∧ (b10 = true → b9 = true) ∧ ((b4 = false ∧ b8 = false ∧ b9 = false ∧ w' = wr.drew) ∨ (b4 = true ∧ b8 = false ∧ b9 = false ∧ w' = (wr.drew.alloc (.cells #[.int .i64 m.at_, .int .i64 m.pg, .int .i64 m.inn, .int .i64 m.id, .int .i64 m.fr, .bool m.wr, .bool m.rn] 24))) ∨ (b4 = true ∧ b8 = true ∧ b9 = false ∧ w' = ((wr.drew.alloc (.cells #[.int .i64 m.at_, .int .i64 m.pg, .int .i64 m.inn, .int .i64 m.id, .int .i64 m.fr, .bool m.wr, .bool m.rn] 24)).alloc (.cells #[.slice p (ahd m l) cap, .slice (some ⟨wr.heap.size, 0, none⟩) 1 1, .slice (dropP p cap (ahd m l)) (l.length - ahd m l) (cap - ahd m l)] 22))) ∨ (b4 = true ∧ b8 = true ∧ b9 = true ∧ (w'.ownsRow w.heap.size 24 7 t55 (putL l m).length (flat (putL l m)) ∧ Below w.heap.size w w'))))) (by kernel_rfl) ?step ?fin ⟨false, false, false, false, false, false, false, false, false, false, false, false, _, _, _, _, _, _, _, _, _, _, _, _, rfl, rfl, by simp, by simp, by simp, by simp, by simp, by simp, by simp, by simp, by simp, by simp, by simp, HX0.out, by simp, .inl ⟨rfl, rfl, rfl, rfl⟩⟩
            case step =>
              rintro li a' w' i o ⟨b0, b1, b2, b3, b4, b5, b6, b7, b8, b9, b10, b11, t4, t5, t46, t47, t48, t49, t50, t51, t52, t53, t54, t55, rfl, rfl, f0, f1, f2, f3, f4, f5, f6, f7, f8, f10, f11, x1, x2, hst⟩ hu ho hd
              have hi : i < 12 := (Array.getElem?_eq_some_iff.1 ho).1
              obtain rfl | rfl | rfl | rfl | rfl | rfl | rfl | rfl | rfl | rfl | rfl | rfl : i = 0 ∨ i = 1 ∨ i = 2 ∨ i = 3 ∨ i = 4 ∨ i = 5 ∨ i = 6 ∨ i = 7 ∨ i = 8 ∨ i = 9 ∨ i = 10 ∨ i = 11 := by omega
              · obtain rfl : _ = o := Option.some.inj ho
                have ui : b0 = false := hu
                refine ⟨rfl, .inl ⟨.slice p l.length cap, w', ?_, ⟨true, b1, b2, b3, b4, b5, b6, b7, b8, b9, b10, b11, _, _, _, _, _, _, _, _, _, _, _, _, rfl, rfl, (fun _ => rfl), f1, f2, f3, f4, f5, f6, f7, f8, f10, f11, x1, x2, hst⟩⟩⟩
                clear hst hu ho hd
                go_simp
              · obtain rfl : _ = o := Option.some.inj ho
                have ui : b1 = false := hu
                refine ⟨rfl, .inl ⟨.int .i64 (ahd m l : Nat), w', ?_, ⟨b0, true, b2, b3, b4, b5, b6, b7, b8, b9, b10, b11, _, _, _, _, _, _, _, _, _, _, _, _, rfl, rfl, f0, (fun _ => rfl), f2, f3, f4, f5, f6, f7, f8, f10, f11, x1, x2, hst⟩⟩⟩
                clear hst hu ho hd
                go_simp
              · obtain rfl : _ = o := Option.some.inj ho
                have ui : b2 = false := hu
                have e0 : b0 = true := hd ⟨0, .data⟩ (by simp) rfl
                have g0 := f0 e0
                subst g0
                have e1 : b1 = true := hd ⟨1, .data⟩ (by simp) rfl
                have g1 := f1 e1
                subst g1
                exact ⟨rfl, .inl ⟨_, w', exec_slice_hi rfl rfl rfl hac w', ⟨b0, b1, true, b3, b4, b5, b6, b7, b8, b9, b10, b11, _, _, _, _, _, _, _, _, _, _, _, _, rfl, rfl, f0, f1, (fun _ => rfl), f3, f4, f5, f6, f7, f8, f10, f11, x1, x2, hst⟩⟩⟩
              · obtain rfl : _ = o := Option.some.inj ho
                have ui : b3 = false := hu
                obtain ⟨c0, c1, c2, c3, c4, c5, c6⟩ := x1
                refine ⟨rfl, .inl ⟨.agg #[.int .i64 m.at_, .int .i64 m.pg, .int .i64 m.inn, .int .i64 m.id, .int .i64 m.fr, .bool m.wr, .bool m.rn], w', ?_, ⟨b0, b1, b2, true, b4, b5, b6, b7, b8, b9, b10, b11, _, _, _, _, _, _, _, _, _, _, _, _, rfl, rfl, f0, f1, f2, (fun _ => rfl), f4, f5, f6, f7, f8, f10, f11, ⟨c0, c1, c2, c3, c4, c5, c6⟩, x2, hst⟩⟩⟩
                clear hst hu ho hd
                go_simp
              · obtain rfl : _ = o := Option.some.inj ho
                have ui : b4 = false := hu
                have e3 : b3 = true := hd ⟨3, .data⟩ (by simp) rfl
                have g3 := f3 e3
                subst g3
                have hw' : w' = wr.drew ∧ b8 = false ∧ b9 = false := by
                  rcases hst with ⟨_, h1, h2, h⟩ | ⟨h, _⟩ | ⟨h, _⟩ | ⟨h, _⟩
                  · exact ⟨h, h1, h2⟩
                  · rw [ui] at h; cases h
                  · rw [ui] at h; cases h
                  · rw [ui] at h; cases h
                obtain ⟨rfl, h8, h9⟩ := hw'
                refine ⟨rfl, .inl ⟨.slice (some ⟨wr.heap.size, 0, none⟩) 1 1, (wr.drew.alloc (.cells #[.int .i64 m.at_, .int .i64 m.pg, .int .i64 m.inn, .int .i64 m.id, .int .i64 m.fr, .bool m.wr, .bool m.rn] 24)), ?_, ⟨b0, b1, b2, b3, true, b5, b6, b7, b8, b9, b10, b11, _, _, _, _, _, _, _, _, _, _, _, _, rfl, rfl, f0, f1, f2, f3, (fun _ => rfl), f5, f6, f7, f8, f10, f11, HXA.out, x2, .inr (.inl ⟨rfl, h8, h9, rfl⟩)⟩⟩⟩
                clear hst hu ho hd
                go_simp
              · obtain rfl : _ = o := Option.some.inj ho
                have ui : b5 = false := hu
                refine ⟨rfl, .inl ⟨.slice p l.length cap, w', ?_, ⟨b0, b1, b2, b3, b4, true, b6, b7, b8, b9, b10, b11, _, _, _, _, _, _, _, _, _, _, _, _, rfl, rfl, f0, f1, f2, f3, f4, (fun _ => rfl), f6, f7, f8, f10, f11, x1, x2, hst⟩⟩⟩
                clear hst hu ho hd
                go_simp
              · obtain rfl : _ = o := Option.some.inj ho
                have ui : b6 = false := hu
                refine ⟨rfl, .inl ⟨.int .i64 (ahd m l : Nat), w', ?_, ⟨b0, b1, b2, b3, b4, b5, true, b7, b8, b9, b10, b11, _, _, _, _, _, _, _, _, _, _, _, _, rfl, rfl, f0, f1, f2, f3, f4, f5, (fun _ => rfl), f7, f8, f10, f11, x1, x2, hst⟩⟩⟩
                clear hst hu ho hd
                go_simp
              · obtain rfl : _ = o := Option.some.inj ho
                have ui : b7 = false := hu
                have e5 : b5 = true := hd ⟨5, .data⟩ (by simp) rfl
                have g5 := f5 e5
                subst g5
                have e6 : b6 = true := hd ⟨6, .data⟩ (by simp) rfl
                have g6 := f6 e6
                subst g6
                exact ⟨rfl, .inl ⟨_, w', exec_slice_lo rfl rfl rfl hal w', ⟨b0, b1, b2, b3, b4, b5, b6, true, b8, b9, b10, b11, _, _, _, _, _, _, _, _, _, _, _, _, rfl, rfl, f0, f1, f2, f3, f4, f5, f6, (fun _ => rfl), f8, f10, f11, x1, x2, hst⟩⟩⟩
              · obtain rfl : _ = o := Option.some.inj ho
                have ui : b8 = false := hu
                have e2 : b2 = true := hd ⟨2, .data⟩ (by simp) rfl
                have g2 := f2 e2
                subst g2
                have e4 : b4 = true := hd ⟨4, .data⟩ (by simp) rfl
                have g4 := f4 e4
                subst g4
                have e7 : b7 = true := hd ⟨7, .data⟩ (by simp) rfl
                have g7 := f7 e7
                subst g7
                have hw' : w' = (wr.drew.alloc (.cells #[.int .i64 m.at_, .int .i64 m.pg, .int .i64 m.inn, .int .i64 m.id, .int .i64 m.fr, .bool m.wr, .bool m.rn] 24)) ∧ b9 = false := by
                  rcases hst with ⟨h, _⟩ | ⟨_, _, h2, h⟩ | ⟨_, h, _⟩ | ⟨_, h, _⟩
                  · rw [e4] at h; cases h
                  · exact ⟨h, h2⟩
                  · rw [ui] at h; cases h
                  · rw [ui] at h; cases h
                obtain ⟨rfl, h9⟩ := hw'
                refine ⟨rfl, .inl ⟨.slice (some ⟨wr.heap.size + 1, 0, none⟩) 3 3, ((wr.drew.alloc (.cells #[.int .i64 m.at_, .int .i64 m.pg, .int .i64 m.inn, .int .i64 m.id, .int .i64 m.fr, .bool m.wr, .bool m.rn] 24)).alloc (.cells #[.slice p (ahd m l) cap, .slice (some ⟨wr.heap.size, 0, none⟩) 1 1, .slice (dropP p cap (ahd m l)) (l.length - ahd m l) (cap - ahd m l)] 22)), ?_, ⟨b0, b1, b2, b3, b4, b5, b6, b7, true, b9, b10, b11, _, _, _, _, _, _, _, _, _, _, _, _, rfl, rfl, f0, f1, f2, f3, f4, f5, f6, f7, (fun _ => rfl), f10, f11, HXB.out, x2, .inr (.inr (.inl ⟨e4, rfl, h9, rfl⟩))⟩⟩⟩
                clear hst hu ho hd
                go_simp
              · obtain rfl : _ = o := Option.some.inj ho
                have ui : b9 = false := hu
                have e8 : b8 = true := hd ⟨8, .data⟩ (by simp) rfl
                have g8 := f8 e8
                subst g8
                have hw' : w' = ((wr.drew.alloc (.cells #[.int .i64 m.at_, .int .i64 m.pg, .int .i64 m.inn, .int .i64 m.id, .int .i64 m.fr, .bool m.wr, .bool m.rn] 24)).alloc (.cells #[.slice p (ahd m l) cap, .slice (some ⟨wr.heap.size, 0, none⟩) 1 1, .slice (dropP p cap (ahd m l)) (l.length - ahd m l) (cap - ahd m l)] 22)) ∧ b4 = true := by
                  rcases hst with ⟨_, h, _⟩ | ⟨_, h, _⟩ | ⟨h1, _, _, h⟩ | ⟨_, _, h, _⟩
                  · rw [e8] at h; cases h
                  · rw [e8] at h; cases h
                  · exact ⟨h, h1⟩
                  · rw [ui] at h; cases h
                obtain ⟨rfl, h4⟩ := hw'
                refine ⟨rfl, .inr (.inr ⟨23, #[.slice (some ⟨wr.heap.size + 1, 0, none⟩) 3 3], ?_, ?_⟩)⟩
                · clear hst hu ho hd
                  go_simp
                · refine HCC.out.mono ?_
                  rintro e w2 ⟨v, rfl, ho2, hb2, hx2⟩
                  exact ⟨_, rfl, ⟨b0, b1, b2, b3, b4, b5, b6, b7, b8, true, b10, b11, _, _, _, _, _, _, _, _, _, _, _, _, rfl, rfl, f0, f1, f2, f3, f4, f5, f6, f7, f8, (fun h => by rw [x2 h] at ui; cases ui), f11, hx2, (fun _ => rfl), .inr (.inr (.inr ⟨h4, e8, rfl, ho2, hb2⟩))⟩⟩
              · obtain rfl : _ = o := Option.some.inj ho
                have ui : b10 = false := hu
                have e9 : b9 = true := hd ⟨9, .data⟩ (by simp) rfl
                refine ⟨rfl, .inl ⟨t55, w', ?_, ⟨b0, b1, b2, b3, b4, b5, b6, b7, b8, b9, true, b11, _, _, _, _, _, _, _, _, _, _, _, _, rfl, rfl, f0, f1, f2, f3, f4, f5, f6, f7, f8, (fun _ => rfl), f11, x1, (fun _ => e9), hst⟩⟩⟩
                clear hst hu ho hd
                go_simp
              · obtain rfl : _ = o := Option.some.inj ho
                have ui : b11 = false := hu
                refine ⟨rfl, .inl ⟨.int .i64 0, w', ?_, ⟨b0, b1, b2, b3, b4, b5, b6, b7, b8, b9, b10, true, _, _, _, _, _, _, _, _, _, _, _, _, rfl, rfl, f0, f1, f2, f3, f4, f5, f6, f7, f8, f10, (fun _ => rfl), x1, x2, hst⟩⟩⟩
                clear hst hu ho hd
                go_simp
            
            case fin =>
              rintro li a' w' ⟨b0, b1, b2, b3, b4, b5, b6, b7, b8, b9, b10, b11, t4, t5, t46, t47, t48, t49, t50, t51, t52, t53, t54, t55, rfl, rfl, f0, f1, f2, f3, f4, f5, f6, f7, f8, f10, f11, x1, x2, hst⟩ hrd
              have hall := ready_nil_all (by kernel_rfl) rfl hrd 11
              have e9 : b9 = true := hall 9 (by omega) (by decide)
              have g10 := f10 (hall 10 (by omega) (by decide))
              have g11 := f11 (hall 11 (by omega) (by decide))
              have hO : (w'.ownsRow w.heap.size 24 7 t55 (putL l m).length (flat (putL l m)) ∧ Below w.heap.size w w') := by
                rcases hst with ⟨_, _, h, _⟩ | ⟨_, _, h, _⟩ | ⟨_, _, h, _⟩ | ⟨_, _, _, h⟩
                · rw [e9] at h; cases h
                · rw [e9] at h; cases h
                · rw [e9] at h; cases h
                · exact h
              clear hst f0 f1 f2 f3 f4 f5 f6 f7 f8 f10 f11 x1 x2 hall hrd e9
              subst g10 g11
              go_wp2
              go_ret2
              exact ⟨_, ret_two rfl hE.symm, hO.1, hO.2⟩
    · have hg' : goodM m = false := by simpa using hg
      go_enter Try.func10, Try.ntmps10
      go_wp2_with (first
        | (go_at_call 14; refine HRT.out.mono ?_; rintro e w1 ⟨rfl, hb1⟩; obtain ⟨c0, c1, c2, c3, c4, c5, c6⟩ := hM1.below hb1 (by simp))
        | (go_at_call 21; refine (rightMap_any m _).mono ?_; rintro e w2 ⟨rfl, hw2⟩; rw [hw2]; clear hw2 w2))
      go_ret2
      have hE : putE l m = 1 := by unfold putE; simp [hg']
      exact ⟨_, ret_two rfl hE.symm, by unfold putL; rw [hE]; exact World.ownsRow_nil _ _ _ _, (hB1.trans (hb1.mono (by simp))).alloc (by have := hb1.size; simp at this; omega) _⟩
  · have hr' : rightS l = false := by simpa using hr
    rw [hr'] at HRT
    go_enter Try.func10, Try.ntmps10
    go_wp2_with (first
      | (go_at_call 14; refine HRT.out.mono ?_; rintro e w1 ⟨rfl, hb1⟩))
    go_ret2
    have hE : putE l m = 1 := by unfold putE; simp [hr']
    exact ⟨_, ret_two rfl hE.symm, by unfold putL; rw [hE]; exact World.ownsRow_nil _ _ _ _, hB1.trans (hb1.mono (by simp))⟩
end Go.Proofs.Ytddllchobojmlaa
