/- The law's own small dump lives. -/
import Derived.Test.YtonhdkldacghoaaLivesV
namespace Go.Proofs.Ytonhdkldacghoaa
open Go.RowKit Go.Sort Go.Shelf
theorem vis_one (N : Nat) (W : World) (w : World) (hN : N = w.heap.size) (h : LW w W) : Calls Try.prog 10 #[.slice (some ⟨N + 1 + 1 + 1 + 1 + 1, 0, none⟩) 3 3, .int .i64 1, .agg #[.int .i64 2, .slice none 0 0]] W fun e w' => ∃ sp cp, e = .returned (.slice sp 2 cp) ∧ IntsAt w' sp [1, 2] ∧ Below W.heap.size W w' := by
  subst hN
  refine (Visible_any (lvD w.heap.size) _ 3 1 (lab0 2) W (lvD_few _) h.obs (fun k hk => by simp [lab0] at hk) (by simp [lab0, maxLen]) (by simp [i64])).mono ?_
  rintro e w' ⟨v, vs, rfl, _, hv, hrow, hb⟩
  have := lv_one hv
  subst this
  obtain ⟨sp, cp, rfl⟩ := row_form hrow
  exact ⟨sp, cp, rfl, row_ints hrow, hb⟩
theorem vis_three (N : Nat) (W : World) (w : World) (hN : N = w.heap.size) (h : LW w W) : Calls Try.prog 10 #[.slice (some ⟨N + 1 + 1 + 1 + 1 + 1, 0, none⟩) 3 3, .int .i64 1, .agg #[.int .i64 4, .slice none 0 0]] W fun e w' => ∃ sp cp, e = .returned (.slice sp 3 cp) ∧ IntsAt w' sp [1, 2, 3] ∧ Below W.heap.size W w' := by
  subst hN
  refine (Visible_any (lvD w.heap.size) _ 3 1 (lab0 4) W (lvD_few _) h.obs (fun k hk => by simp [lab0] at hk) (by simp [lab0, maxLen]) (by simp [i64])).mono ?_
  rintro e w' ⟨v, vs, rfl, _, hv, hrow, hb⟩
  have := lv_three hv
  subst this
  obtain ⟨sp, cp, rfl⟩ := row_form hrow
  exact ⟨sp, cp, rfl, row_ints hrow, hb⟩
theorem lit2 (W : World) : IntsAt (W.alloc (.cells #[.int .i64 1, .int .i64 2] 3)) (some ⟨W.heap.size, 0, none⟩) [1, 2] := by
  intro k hk
  refine ⟨_, 0, rfl, by simp, ?_⟩
  match k, hk with
  | 0, _ => simp [go_sem]
  | 1, _ => simp [go_sem]
theorem lit3 (W : World) : IntsAt (W.alloc (.cells #[.int .i64 1, .int .i64 2, .int .i64 3] 3)) (some ⟨W.heap.size, 0, none⟩) [1, 2, 3] := by
  intro k hk
  refine ⟨_, 0, rfl, by simp, ?_⟩
  match k, hk with
  | 0, _ => simp [go_sem]
  | 1, _ => simp [go_sem]
  | 2, _ => simp [go_sem]
theorem heap_last {X : World} {o : Obj} {n : Nat} (hn : X.heap.size = n) : (X.alloc o).heap[n]? = some o := by subst hn; exact heap_alloc_new X o
set_option maxRecDepth 100000 in
set_option maxHeartbeats 4000000 in
theorem lives_any (w : World) : Calls Try.prog 8 #[] w fun e w' => e = .returned (.bool true) ∧ Below w.heap.size w w' := by
  go_enter Try.func8, Try.ntmps8
  go_upto_region 4 with fail
  refine LW.intro (w := w) (Q := fun W => Code.wp _ _ _ _ W) ?_ ?_
  · refine ⟨by simp, by go_grown, by simp [go_sem], by simp [go_sem], by simp [go_sem], by simp [go_sem], by simp [go_sem], by simp [go_sem], by simp [go_sem], by simp [go_sem], ?_⟩
    exact (heap_last (by simp)).trans rfl
  · intro W hL
    obtain ⟨N, hN⟩ : ∃ N, N = w.heap.size := ⟨_, rfl⟩
    have hsz := hL.sz
    have a0 := hL.a0
    have a1 := hL.a1
    have HL := Lib.hid hL
    have HV1 := Lib.hid (vis_one N W w hN hL)
    clear hL
    rw [← hN] at a0 a1 hsz ⊢
    have HN := Lib.hid hN
    clear hN
    have hn0 : N < W.heap.size := by omega
    go_wp2_with (go_at_call 10; refine HV1.out.mono ?_; rintro e w1 ⟨sp, cp, rfl, hi1, hb1⟩; refine Hid.out ?_)
    refine Lib.hid ?_
    have hbA : Below w1.heap.size w1 (w1.alloc (.cells #[.int .i64 1, .int .i64 2] 3)) := by go_grown
    have HS1 := Lib.hid (SameInts_any (w1.alloc (.cells #[.int .i64 1, .int .i64 2] 3)) sp (some ⟨w1.heap.size, 0, none⟩) cp 2 [1, 2] [1, 2] (hi1.below hbA) (lit2 w1) (by simp [maxLen]))
    have hb2 : Below W.heap.size W (w1.alloc (.cells #[.int .i64 1, .int .i64 2] 3)) := hb1.trans (hbA.mono hb1.size)
    clear HV1 a0 a1 hi1 hbA hb1
    go_wp2_with (go_at_call 17; refine HS1.out.mono ?_; rintro e w3 ⟨rfl, hb3⟩; refine Hid.out ?_)
    refine Lib.hid ?_
    have hb03 : Below W.heap.size W w3 := hb2.trans (hb3.mono hb2.size)
    have hL3 := HL.out.below hb03
    have HV3 := Lib.hid (vis_three N w3 w HN.out hL3)
    have b0 := hL3.b0
    have b1 := hL3.b1
    rw [← HN.out] at b0 b1
    have hn3 : N + 1 < w3.heap.size := by have := hb03.size; omega
    clear HS1 hL3 hb3 hb2
    go_wp2_with (go_at_call 10; refine HV3.out.mono ?_; rintro e w4 ⟨sp4, cp4, rfl, hi4, hb4⟩; refine Hid.out ?_)
    refine Lib.hid ?_
    have hbB : Below w4.heap.size w4 (w4.alloc (.cells #[.int .i64 1, .int .i64 2, .int .i64 3] 3)) := by go_grown
    have HS4 := Lib.hid (SameInts_any (w4.alloc (.cells #[.int .i64 1, .int .i64 2, .int .i64 3] 3)) sp4 (some ⟨w4.heap.size, 0, none⟩) cp4 3 [1, 2, 3] [1, 2, 3] (hi4.below hbB) (lit3 w4) (by simp [maxLen]))
    have hb05 : Below W.heap.size W (w4.alloc (.cells #[.int .i64 1, .int .i64 2, .int .i64 3] 3)) := hb03.trans ((hb4.trans (hbB.mono hb4.size)).mono hb03.size)
    clear HV3 b0 b1 hi4 hbB hb4 hb03
    go_wp2_with (go_at_call 17; refine HS4.out.mono ?_; rintro e w6 ⟨rfl, hb6⟩)
    go_ret
    have hB := HL.out.bel
    exact ⟨rfl, hB.trans ((hb05.trans (hb6.mono hb05.size)).mono hB.size)⟩
end Go.Proofs.Ytonhdkldacghoaa
