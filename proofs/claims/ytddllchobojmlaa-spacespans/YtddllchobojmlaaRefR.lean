/- What Right of the reference answers. -/
import Derived.Test.YtddllchobojmlaaRef
namespace Go.Proofs.Ytddllchobojmlaa
open Go.RowKit Go.Sort
set_option maxRecDepth 100000 in
set_option maxHeartbeats 2000000 in
theorem refRight_any (p : Option Addr) (cap : Nat) (l : List Mp) (w : World) (hm : l.length ≤ maxLen) (hc : MsAt w p l) :
    Calls Try.prog 15 #[.slice p l.length cap] w fun e w' => e = .returned (.bool (rightS l)) ∧ Below w.heap.size w w' := by
  unfold maxLen at hm
  by_cases h2 : l.length ≤ 16
  · have h2' : ¬ (16 : Int) < (l.length : Int) := by omega
    go_enter Try.func15, Try.ntmps15
    go_wp2_with fail
    go_loopw [10] (fun i wr => ∃ k : Nat, k ≤ l.length ∧ i = .int .i64 k ∧ (∀ j, (h : j < l.length) → j < k → goodM l[j] = true) ∧ (∀ j j', (h : j < l.length) → (h' : j' < l.length) → j < j' → j' < k → bef l[j] l[j']) ∧ Below w.heap.size w wr) (fun i _ => l.length - (intOf i).toNat)
    case atStart => exact ⟨0, Nat.zero_le _, rfl, fun j _ h => by omega, fun j j' _ _ _ h => by omega, Below.refl _ _⟩
    case round =>
      obtain ⟨k, hk, rfl, hG, hP, hb⟩ := hrel
      have hbs := hb.size
      by_cases hlt : k < l.length
      · have hki : (k : Int) < (l.length : Int) := by omega
        obtain ⟨b, off, rfl, hbl, hq⟩ := hc k hlt
        obtain ⟨c0, c1, c2, c3, c4, c5, c6⟩ := hq.below hb hbl
        have hbr : b < wr.heap.size := by omega
        have HG := Good_any l[k] wr
        by_cases hg : goodM l[k] = true
        · rw [hg] at HG
          have HG' := Lib.hid HG
          have HGA := Lib.hid hG
          have HPA := Lib.hid hP
          clear HG hG hP
          go_wp2_with (go_at_call 24; refine HG'.out.mono ?_; rintro e w1 ⟨rfl, hb1⟩; refine Hid.out ?_)
          refine Lib.hid ?_
          clear c0 c1 c2 c3 c4 c5 c6 hq
          have hbw1 : Below w.heap.size w w1 := hb.trans (hb1.mono hbs)
          go_wp2_with fail
          go_loopw [4] (fun i wi => ∃ t : Nat, t ≤ k ∧ i = .int .i64 t ∧ (∀ j, (h : j < l.length) → j < t → bef l[j] l[k]) ∧ Below w.heap.size w wi) (fun i _ => k - (intOf i).toNat)
          case atStart => exact ⟨0, Nat.zero_le _, rfl, fun j _ h => by omega, hbw1⟩
          case round =>
            obtain ⟨t, ht, rfl, hB, hbi⟩ := hrel
            have hzi := hbi.size
            by_cases htk : t < k
            · have htl : t < l.length := by omega
              have hti : (t : Int) < (k : Int) := by omega
              have htli : (t : Int) < (l.length : Int) := by omega
              obtain ⟨b', off', he, hbl', hq⟩ := hc t htl
              simp only [Option.some.injEq, Addr.mk.injEq, and_true] at he
              obtain ⟨rfl, rfl⟩ := he
              obtain ⟨b', off', he, -, hq2⟩ := hc k hlt
              simp only [Option.some.injEq, Addr.mk.injEq, and_true] at he
              obtain ⟨rfl, rfl⟩ := he
              have hxt := hq.below hbi hbl
              have hxk := hq2.below hbi hbl
              have hgt := HGA.out t htl htk
              have h1 := ((goodM_iff _).1 hgt).1
              have h2 := ((goodM_iff _).1 hg).1
              generalize hWi : wr = wi at *
              have hbi2 : b < wi.heap.size := by omega
              have HMt : Hid (∀ n os, Calls Try.prog 25 #[.agg #[.int .i64 l[t].at_, .int .i64 l[t].pg, .int .i64 l[t].inn, .int .i64 l[t].id, .int .i64 l[t].fr, .bool l[t].wr, .bool l[t].rn], .agg #[.int .i64 l[k].at_, .int .i64 l[k].pg, .int .i64 l[k].inn, .int .i64 l[k].id, .int .i64 l[k].fr, .bool l[k].wr, .bool l[k].rn]] (gx wi n os) fun e w' => e = .returned (.bool (meet l[k] l[t])) ∧ Below (gx wi n os).heap.size (gx wi n os) w') := fun n os => Meet_any l[t] l[k] _ hgt hg
              have f0 := fun n os => (hxt.below (gx_below wi n os) hbi2).c0
              have f1 := fun n os => (hxt.below (gx_below wi n os) hbi2).c1
              have f2 := fun n os => (hxt.below (gx_below wi n os) hbi2).c2
              have f3 := fun n os => (hxt.below (gx_below wi n os) hbi2).c3
              have f4 := fun n os => (hxt.below (gx_below wi n os) hbi2).c4
              have f5 := fun n os => (hxt.below (gx_below wi n os) hbi2).c5
              have f6 := fun n os => (hxt.below (gx_below wi n os) hbi2).c6
              have g0 := fun n os => (hxk.below (gx_below wi n os) hbi2).c0
              have g1 := fun n os => (hxk.below (gx_below wi n os) hbi2).c1
              have g2 := fun n os => (hxk.below (gx_below wi n os) hbi2).c2
              have g3 := fun n os => (hxk.below (gx_below wi n os) hbi2).c3
              have g4 := fun n os => (hxk.below (gx_below wi n os) hbi2).c4
              have g5 := fun n os => (hxk.below (gx_below wi n os) hbi2).c5
              have g6 := fun n os => (hxk.below (gx_below wi n os) hbi2).c6
              clear hq hq2 hxt hxk hc
              by_cases ha : l[k].at_ ≤ l[t].at_
              · go_wp2_with fail
                refine wp_region_quiet_gx (by kernel_rfl) (by kernel_rfl) ?_
                repeat (go_big_quiet_step (first | (go_at_call 25; exact calls_gx (HMt.out _ _))))
                refine wpQuiet_nil ?_
                intro _ hw'
                obtain ⟨⟨nq, osq⟩, hw''⟩ := hw'
                subst hw''
                have hbq := gx_below wi nq osq
                simp only
                go_wp2
                go_ret
                exact ⟨ret_bool (by symm; rw [Bool.eq_false_iff]; intro h; have h3 := List.pairwise_iff_getElem.1 ((rightS_iff l).1 h).2.2 t k htl hlt htk; unfold bef at h3; omega), hbi.trans (hbq.mono hzi)⟩
              · have hax : decide (l[k].at_ ≤ l[t].at_) = false := by simpa using ha
                by_cases hm2 : meet l[k] l[t] = true
                · rw [hm2] at HMt
                  go_wp2_with fail
                  refine wp_region_quiet_gx (by kernel_rfl) (by kernel_rfl) ?_
                  repeat (go_big_quiet_step (first | (go_at_call 25; exact calls_gx (HMt.out _ _))))
                  refine wpQuiet_nil ?_
                  intro _ hw'
                  obtain ⟨⟨nq, osq⟩, hw''⟩ := hw'
                  subst hw''
                  have hbq := gx_below wi nq osq
                  simp only
                  go_wp2
                  go_ret
                  exact ⟨ret_bool (by symm; rw [Bool.eq_false_iff]; intro h; have h3 := List.pairwise_iff_getElem.1 ((rightS_iff l).1 h).2.2 t k htl hlt htk; unfold bef at h3; simp [meet] at hm2; omega), hbi.trans (hbq.mono hzi)⟩
                · have hm3 : meet l[k] l[t] = false := by simpa using hm2
                  rw [hm3] at HMt
                  have hbf : bef l[t] l[k] := by simp only [meet, Bool.and_eq_false_iff, decide_eq_false_iff_not] at hm3; unfold bef; omega
                  have HBF := Lib.hid hbf
                  have HBB := Lib.hid hB
                  clear hbf hB hm2 hm3
                  go_wp2_with fail
                  refine wp_region_quiet_gx (by kernel_rfl) (by kernel_rfl) ?_
                  repeat (go_big_quiet_step (first | (go_at_call 25; exact calls_gx (HMt.out _ _))))
                  refine wpQuiet_nil ?_
                  intro _ hw'
                  obtain ⟨⟨nq, osq⟩, hw''⟩ := hw'
                  subst hw''
                  have hbq := gx_below wi nq osq
                  simp only
                  go_wp2
                  go_roundw
                  case rel =>
                    refine ⟨t + 1, by omega, by go_num, fun j hj hjt => ?_, hbi.trans (hbq.mono hzi)⟩
                    rcases Nat.lt_or_ge j t with h | h
                    · exact HBB.out j hj h
                    · obtain rfl : j = t := by omega
                      exact HBF.out
                  case measure => simp [intOf]; omega
            · obtain rfl : t = k := by omega
              have htk2 : ¬ (t : Int) < (t : Int) := by omega
              go_wp2
              go_roundw
              case rel =>
                refine ⟨t + 1, by omega, by go_num, fun j hj hjt => ?_, fun j j' hj hj' hjj hj't => ?_, hbi⟩
                · rcases Nat.lt_or_ge j t with h | h
                  · exact HGA.out j hj h
                  · obtain rfl : j = t := by omega
                    exact hg
                · rcases Nat.lt_or_ge j' t with h | h
                  · exact HPA.out j j' hj hj' hjj h
                  · obtain rfl : j' = t := by omega
                    exact hB j hj hjj
              case measure => simp [intOf]; omega
        · have hg' : goodM l[k] = false := by simpa using hg
          rw [hg'] at HG
          have HG' := Lib.hid HG
          clear HG
          go_wp2_with (go_at_call 24; refine HG'.out.mono ?_; rintro e w1 ⟨rfl, hb1⟩)
          go_ret
          exact ⟨ret_bool (by symm; rw [Bool.eq_false_iff]; intro h; exact hg (((rightS_iff l).1 h).2.1 _ (List.getElem_mem hlt))), hb.trans (hb1.mono hbs)⟩
      · obtain rfl : k = l.length := by omega
        have hkk : ¬ (l.length : Int) < (l.length : Int) := by omega
        go_wp2
        go_ret
        have hRS : rightS l = true := by
          rw [rightS_iff]
          refine ⟨h2, fun x hx => ?_, ?_⟩
          · obtain ⟨j, hj, rfl⟩ := List.mem_iff_getElem.1 hx
            exact hG j hj hj
          · rw [List.pairwise_iff_getElem]
            intro i j hi hj hij
            exact hP i j hi hj hij hj
        exact ⟨ret_bool hRS.symm, hb⟩
  · have h2' : (16 : Int) < (l.length : Int) := by omega
    go_enter Try.func15, Try.ntmps15
    go_wp2
    go_ret
    exact ⟨ret_bool (by unfold rightS; simp; omega), Below.refl _ _⟩
end Go.Proofs.Ytddllchobojmlaa
