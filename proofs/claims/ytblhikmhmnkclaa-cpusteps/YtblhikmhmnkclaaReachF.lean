/- What reach of package cpu does: load, keep, pull and push. -/
import Derived.Test.YtblhikmhmnkclaaReach
import Derived.Test.YtblhikmhmnkclaaMemF
namespace Go.Proofs.Ytblhikmhmnkclaa.Fl
open Go.RowKit Go.Lib
variable {K : Nat → Prop}
theorem nil_store (Bb : Nat) (w : World) : Sem.run Try.prog (nilAhead 230 35 (.agg #[.pointer (some ⟨Bb, 0, none⟩)]) "Store") w = .ok (some false) w := by kernel_rfl
set_option maxRecDepth 100000 in
set_option maxHeartbeats 4000000 in
theorem reach_store_yes (base Bb Bs : Nat) (op n : Int) (a b z k ad : Nat) (r : List Int) (pc : Int) (d : List UInt8) (ls : List (Nat × Bool)) (w : World) (hop : (op = 19 ∧ k = 1) ∨ (op = 21 ∧ k = 8))
    (ha : a < 16) (hb : b < 16) (hr : r.length = 16) (hS : StAt w Bs r pc) (h : BAt K w base Bb d ls) (had : adI (r.getD b 0) n = ad) (hf : ad + k ≤ d.length) :
    Calls Try.prog 30 #[.pointer (some ⟨Bs, 0, none⟩), memV Bb, .agg #[.int .i64 op, .int .i64 a, .int .i64 b, .int .i64 z, .int .i64 n]] w fun e w' => e = .returned (.bool true) ∧ (∃ ls', BAt K w' base Bb (over d ad (eightR (r.getD a 0) k)) ls') ∧ Below base w w' ∧ Fr K w w' := by
  have hbs := size_of_blk h
  have hb1 : Below w.heap.size w (w.alloc (.cells #[.int .i64 op, .int .i64 a, .int .i64 b, .int .i64 z, .int .i64 n] 57)) := (Below.refl _ _).alloc (Nat.le_refl _) _
  obtain ⟨W, hW⟩ : ∃ W, w.alloc (.cells #[.int .i64 op, .int .i64 a, .int .i64 b, .int .i64 z, .int .i64 n] 57) = W := ⟨_, rfl⟩
  have hc : W.heap[w.heap.size]? = some (.cells #[.int .i64 op, .int .i64 a, .int .i64 b, .int .i64 z, .int .i64 n] 57 (0, 0)) := by rw [← hW]; exact heap_new _ _
  have hlt : w.heap.size < W.heap.size := (Array.getElem?_eq_some_iff.1 hc).1
  rw [hW] at hb1
  have hS1 := hS.below hb1
  have h1 := h.below hb1
  have q0 : ∀ nn os, (gx W nn os).cell? ⟨w.heap.size, 0, none⟩ = some (.int .i64 op) := fun nn os => cell_gx (a := ⟨w.heap.size, 0, none⟩) hlt (by simp [World.cell?, hc]) nn os
  have q1 : ∀ nn os, (gx W nn os).cell? ⟨w.heap.size, 1, none⟩ = some (.int .i64 a) := fun nn os => cell_gx (a := ⟨w.heap.size, 1, none⟩) hlt (by simp [World.cell?, hc]) nn os
  have q2 : ∀ nn os, (gx W nn os).cell? ⟨w.heap.size, 2, none⟩ = some (.int .i64 b) := fun nn os => cell_gx (a := ⟨w.heap.size, 2, none⟩) hlt (by simp [World.cell?, hc]) nn os
  have q4 : ∀ nn os, (gx W nn os).cell? ⟨w.heap.size, 4, none⟩ = some (.int .i64 n) := fun nn os => cell_gx (a := ⟨w.heap.size, 4, none⟩) hlt (by simp [World.cell?, hc]) nn os
  have ra : ∀ nn os, (gx W nn os).cell? ⟨Bs, a, none⟩ = some (.int .u64 (r.getD a 0)) := fun nn os => cell_gx (a := ⟨Bs, a, none⟩) hS1.lt (hS1.reg hr a ha) nn os
  have rb : ∀ nn os, (gx W nn os).cell? ⟨Bs, b, none⟩ = some (.int .u64 (r.getD b 0)) := fun nn os => cell_gx (a := ⟨Bs, b, none⟩) hS1.lt (hS1.reg hr b hb) nn os
  have hai : (a : Int) < 16 := by omega
  have hbi : (b : Int) < 16 := by omega
  unfold adI at had
  unfold memV
  generalize r.getD a 0 = xa at *
  generalize r.getD b 0 = xb at *
  have HLB := Lib.hid (fun (W' : World) => lowBytes_any xa k W' (by omega))
  have HST := Lib.hid (fun (W' : World) (hbw : Below W.heap.size W W') => Store_yes base Bb ad ⟨(eightR xa k).toArray⟩ d ls W' (h1.below hbw) (by show _ + (List.toArray _).size ≤ _; simp [eightR_len]; omega))
  have HB1 := Lib.hid hb1
  have hSlt := hS1.lt
  clear h1 hS1 h hb1 hS
  have q0' : W.cell? ⟨w.heap.size, 0, none⟩ = some (.int .i64 op) := by simp [World.cell?, hc]
  go_enter Try.func30, Try.ntmps30
  go_wp2_with fail
  refine wp_region_quiet_gx (by kernel_rfl) (by kernel_rfl) ?_
  repeat (quiet_step (fail))
  refine wpQuiet_nil ?_
  intro _ hw'
  obtain ⟨⟨n0, os0⟩, hw''⟩ := hw'
  have hB2 : Below W.heap.size W (gx W n0 os0) := gx_below _ _ _
  have hw3 : (gx W n0 os0) = _ := hw''.symm
  clear hw3
  have e0 := q0 n0 os0
  have e1 := q1 n0 os0
  have ea := ra n0 os0
  have hlt2 : w.heap.size < (gx W n0 os0).heap.size := Nat.lt_of_lt_of_le hlt hB2.size
  have hlS : Bs < (gx W n0 os0).heap.size := Nat.lt_of_lt_of_le hSlt hB2.size
  subst hw''
  show Exit.then _ _ Exit.normal _ (gx W n0 os0)
  generalize gx W n0 os0 = W2 at *
  clear q0 q1 q2 q4 ra rb
  have q1 : ∀ nn os, (gx W2 nn os).cell? ⟨w.heap.size, 1, none⟩ = some (.int .i64 a) := fun nn os => cell_gx (a := ⟨w.heap.size, 1, none⟩) hlt2 e1 nn os
  have ra : ∀ nn os, (gx W2 nn os).cell? ⟨Bs, a, none⟩ = some (.int .u64 xa) := fun nn os => cell_gx (a := ⟨Bs, a, none⟩) hlS ea nn os
  clear e1 ea hlt2 hlS
  have hna := nil_store Bb
  have HLC : Hid (∀ (kk : Int), kk = k → ∀ W' : World, Calls Try.prog 44 #[.int .u64 xa, .int .i64 kk] W' fun e w' => e = .returned (.string ⟨(eightR xa k).toArray⟩) ∧ Below W'.heap.size W' w') := fun kk hk W' => by rw [hk]; exact HLB.out W'
  rcases hop with ⟨rfl, rfl⟩ | ⟨rfl, rfl⟩
  all_goals
    go_wp2_with fail
    refine wp_region_tail_gx 14 (by kernel_rfl) (by kernel_rfl) ?_
    simp only [List.take_succ_cons, List.take_zero, List.drop_succ_cons, List.drop_zero]
    repeat (quiet_step (first | (go_at_call 44; exact calls_gx (HLC.out _ rfl _))))
    refine wpQuiet_nil ?_
    intro _ hw'
    obtain ⟨⟨n1, os1⟩, hw''⟩ := hw'
    subst hw''
    have hB3 : Below W.heap.size W (gx W2 n1 os1) := hB2.trans ((gx_below W2 n1 os1).mono hB2.size)
    have HS3 := Lib.hid (HST.out _ hB3)
    show wpList _ _ _ _ _ (gx W2 n1 os1)
    generalize gx W2 n1 os1 = W3 at *
    clear q1 ra e0
    go_wp2_with (first | (go_at_call 68; refine HS3.out.mono ?_; rintro e w4 ⟨rfl, hA, hB, hF⟩))
    go_ret
    have hBw : Below w.heap.size w W3 := HB1.out.trans (hB3.mono HB1.out.size)
    exact ⟨rfl, hA, (hBw.mono hbs).trans hB, (Fr.below hBw).trans hF⟩
set_option maxRecDepth 100000 in
set_option maxHeartbeats 4000000 in
theorem reach_store_no (base Bb Bs : Nat) (op n : Int) (a b z k : Nat) (ad : Int) (r : List Int) (pc : Int) (d : List UInt8) (ls : List (Nat × Bool)) (w : World) (hop : (op = 19 ∧ k = 1) ∨ (op = 21 ∧ k = 8))
    (ha : a < 16) (hb : b < 16) (hr : r.length = 16) (hS : StAt w Bs r pc) (h : BAt K w base Bb d ls) (had : adI (r.getD b 0) n = ad) (h0 : 0 ≤ ad) (hf : ¬ ad + k ≤ d.length) :
    Calls Try.prog 30 #[.pointer (some ⟨Bs, 0, none⟩), memV Bb, .agg #[.int .i64 op, .int .i64 a, .int .i64 b, .int .i64 z, .int .i64 n]] w fun e w' => e = .returned (.bool false) ∧ Below w.heap.size w w' := by
  have hb1 : Below w.heap.size w (w.alloc (.cells #[.int .i64 op, .int .i64 a, .int .i64 b, .int .i64 z, .int .i64 n] 57)) := (Below.refl _ _).alloc (Nat.le_refl _) _
  obtain ⟨W, hW⟩ : ∃ W, w.alloc (.cells #[.int .i64 op, .int .i64 a, .int .i64 b, .int .i64 z, .int .i64 n] 57) = W := ⟨_, rfl⟩
  have hc : W.heap[w.heap.size]? = some (.cells #[.int .i64 op, .int .i64 a, .int .i64 b, .int .i64 z, .int .i64 n] 57 (0, 0)) := by rw [← hW]; exact heap_new _ _
  have hlt : w.heap.size < W.heap.size := (Array.getElem?_eq_some_iff.1 hc).1
  rw [hW] at hb1
  have hS1 := hS.below hb1
  have h1 := h.below hb1
  have q0 : ∀ nn os, (gx W nn os).cell? ⟨w.heap.size, 0, none⟩ = some (.int .i64 op) := fun nn os => cell_gx (a := ⟨w.heap.size, 0, none⟩) hlt (by simp [World.cell?, hc]) nn os
  have q1 : ∀ nn os, (gx W nn os).cell? ⟨w.heap.size, 1, none⟩ = some (.int .i64 a) := fun nn os => cell_gx (a := ⟨w.heap.size, 1, none⟩) hlt (by simp [World.cell?, hc]) nn os
  have q2 : ∀ nn os, (gx W nn os).cell? ⟨w.heap.size, 2, none⟩ = some (.int .i64 b) := fun nn os => cell_gx (a := ⟨w.heap.size, 2, none⟩) hlt (by simp [World.cell?, hc]) nn os
  have q4 : ∀ nn os, (gx W nn os).cell? ⟨w.heap.size, 4, none⟩ = some (.int .i64 n) := fun nn os => cell_gx (a := ⟨w.heap.size, 4, none⟩) hlt (by simp [World.cell?, hc]) nn os
  have ra : ∀ nn os, (gx W nn os).cell? ⟨Bs, a, none⟩ = some (.int .u64 (r.getD a 0)) := fun nn os => cell_gx (a := ⟨Bs, a, none⟩) hS1.lt (hS1.reg hr a ha) nn os
  have rb : ∀ nn os, (gx W nn os).cell? ⟨Bs, b, none⟩ = some (.int .u64 (r.getD b 0)) := fun nn os => cell_gx (a := ⟨Bs, b, none⟩) hS1.lt (hS1.reg hr b hb) nn os
  have hai : (a : Int) < 16 := by omega
  have hbi : (b : Int) < 16 := by omega
  unfold adI at had
  unfold memV
  generalize r.getD a 0 = xa at *
  generalize r.getD b 0 = xb at *
  have HLB := Lib.hid (fun (W' : World) => lowBytes_any xa k W' (by omega))
  have HST := Lib.hid (fun (W' : World) (hbw : Below W.heap.size W W') => Store_no base Bb ad ⟨(eightR xa k).toArray⟩ d ls W' (h1.below hbw) h0 (by show (List.toArray _).size ≤ _; simp [eightR_len]; omega) (by show ¬ _ + (((List.toArray _).size : Nat) : Int) ≤ _; simp [eightR_len]; omega))
  have HB1 := Lib.hid hb1
  have hSlt := hS1.lt
  clear h1 hS1 h hb1 hS
  have q0' : W.cell? ⟨w.heap.size, 0, none⟩ = some (.int .i64 op) := by simp [World.cell?, hc]
  go_enter Try.func30, Try.ntmps30
  go_wp2_with fail
  refine wp_region_quiet_gx (by kernel_rfl) (by kernel_rfl) ?_
  repeat (quiet_step (fail))
  refine wpQuiet_nil ?_
  intro _ hw'
  obtain ⟨⟨n0, os0⟩, hw''⟩ := hw'
  have hB2 : Below W.heap.size W (gx W n0 os0) := gx_below _ _ _
  have hw3 : (gx W n0 os0) = _ := hw''.symm
  clear hw3
  have e0 := q0 n0 os0
  have e1 := q1 n0 os0
  have ea := ra n0 os0
  have hlt2 : w.heap.size < (gx W n0 os0).heap.size := Nat.lt_of_lt_of_le hlt hB2.size
  have hlS : Bs < (gx W n0 os0).heap.size := Nat.lt_of_lt_of_le hSlt hB2.size
  subst hw''
  show Exit.then _ _ Exit.normal _ (gx W n0 os0)
  generalize gx W n0 os0 = W2 at *
  clear q0 q1 q2 q4 ra rb
  have q1 : ∀ nn os, (gx W2 nn os).cell? ⟨w.heap.size, 1, none⟩ = some (.int .i64 a) := fun nn os => cell_gx (a := ⟨w.heap.size, 1, none⟩) hlt2 e1 nn os
  have ra : ∀ nn os, (gx W2 nn os).cell? ⟨Bs, a, none⟩ = some (.int .u64 xa) := fun nn os => cell_gx (a := ⟨Bs, a, none⟩) hlS ea nn os
  clear e1 ea hlt2 hlS
  have hna := nil_store Bb
  have HLC : Hid (∀ (kk : Int), kk = k → ∀ W' : World, Calls Try.prog 44 #[.int .u64 xa, .int .i64 kk] W' fun e w' => e = .returned (.string ⟨(eightR xa k).toArray⟩) ∧ Below W'.heap.size W' w') := fun kk hk W' => by rw [hk]; exact HLB.out W'
  rcases hop with ⟨rfl, rfl⟩ | ⟨rfl, rfl⟩
  all_goals
    go_wp2_with fail
    refine wp_region_tail_gx 14 (by kernel_rfl) (by kernel_rfl) ?_
    simp only [List.take_succ_cons, List.take_zero, List.drop_succ_cons, List.drop_zero]
    repeat (quiet_step (first | (go_at_call 44; exact calls_gx (HLC.out _ rfl _))))
    refine wpQuiet_nil ?_
    intro _ hw'
    obtain ⟨⟨n1, os1⟩, hw''⟩ := hw'
    subst hw''
    have hB3 : Below W.heap.size W (gx W2 n1 os1) := hB2.trans ((gx_below W2 n1 os1).mono hB2.size)
    have HS3 := Lib.hid (HST.out _ hB3)
    show wpList _ _ _ _ _ (gx W2 n1 os1)
    generalize gx W2 n1 os1 = W3 at *
    clear q1 ra e0
    go_wp2_with (first | (go_at_call 68; refine HS3.out.mono ?_; rintro e w4 ⟨rfl, hB⟩))
    go_ret
    have hBw : Below w.heap.size w W3 := HB1.out.trans (hB3.mono HB1.out.size)
    exact ⟨rfl, hBw.trans (hB.mono hBw.size)⟩
set_option maxRecDepth 100000 in
set_option maxHeartbeats 4000000 in
theorem reach_load_yes (base Bb Bs : Nat) (op n : Int) (a b z k ad : Nat) (r : List Int) (pc : Int) (d : List UInt8) (ls : List (Nat × Bool)) (w : World) (hop : (op = 18 ∧ k = 1) ∨ (op = 20 ∧ k = 8))
    (ha : a < 16) (hb : b < 16) (hr : r.length = 16) (hS : StAt w Bs r pc) (hbB : base ≤ Bs) (h : BAt K w base Bb d ls) (had : adI (r.getD b 0) n = ad) (hf : ad + k ≤ d.length) :
    Calls Try.prog 30 #[.pointer (some ⟨Bs, 0, none⟩), memV Bb, .agg #[.int .i64 op, .int .i64 a, .int .i64 b, .int .i64 z, .int .i64 n]] w fun e w' => e = .returned (.bool true) ∧ StAt w' Bs (r.set a (numL ((d.drop ad).take k) : Nat)) pc ∧ BAt K w' base Bb d ls ∧ Below base w w' ∧ FrB K Bs w w' := by
  have hbs := size_of_blk h
  have hb1 : Below w.heap.size w (w.alloc (.cells #[.int .i64 op, .int .i64 a, .int .i64 b, .int .i64 z, .int .i64 n] 57)) := (Below.refl _ _).alloc (Nat.le_refl _) _
  obtain ⟨W, hW⟩ : ∃ W, w.alloc (.cells #[.int .i64 op, .int .i64 a, .int .i64 b, .int .i64 z, .int .i64 n] 57) = W := ⟨_, rfl⟩
  have hc : W.heap[w.heap.size]? = some (.cells #[.int .i64 op, .int .i64 a, .int .i64 b, .int .i64 z, .int .i64 n] 57 (0, 0)) := by rw [← hW]; exact heap_new _ _
  have hlt : w.heap.size < W.heap.size := (Array.getElem?_eq_some_iff.1 hc).1
  rw [hW] at hb1
  have hS1 := hS.below hb1
  have h1 := h.below hb1
  have q0 : ∀ nn os, (gx W nn os).cell? ⟨w.heap.size, 0, none⟩ = some (.int .i64 op) := fun nn os => cell_gx (a := ⟨w.heap.size, 0, none⟩) hlt (by simp [World.cell?, hc]) nn os
  have q1 : ∀ nn os, (gx W nn os).cell? ⟨w.heap.size, 1, none⟩ = some (.int .i64 a) := fun nn os => cell_gx (a := ⟨w.heap.size, 1, none⟩) hlt (by simp [World.cell?, hc]) nn os
  have q2 : ∀ nn os, (gx W nn os).cell? ⟨w.heap.size, 2, none⟩ = some (.int .i64 b) := fun nn os => cell_gx (a := ⟨w.heap.size, 2, none⟩) hlt (by simp [World.cell?, hc]) nn os
  have q4 : ∀ nn os, (gx W nn os).cell? ⟨w.heap.size, 4, none⟩ = some (.int .i64 n) := fun nn os => cell_gx (a := ⟨w.heap.size, 4, none⟩) hlt (by simp [World.cell?, hc]) nn os
  have rb : ∀ nn os, (gx W nn os).cell? ⟨Bs, b, none⟩ = some (.int .u64 (r.getD b 0)) := fun nn os => cell_gx (a := ⟨Bs, b, none⟩) hS1.lt (hS1.reg hr b hb) nn os
  have hai : (a : Int) < 16 := by omega
  have hbi : (b : Int) < 16 := by omega
  unfold adI at had
  generalize r.getD b 0 = xb at *
  have HB1 := Lib.hid hb1
  have HSt := Lib.hid hS1
  have HBt := Lib.hid h1
  have hSlt := hS1.lt
  clear h1 hS1 h hb1 hS
  have q0' : W.cell? ⟨w.heap.size, 0, none⟩ = some (.int .i64 op) := by simp [World.cell?, hc]
  go_enter Try.func30, Try.ntmps30
  go_wp2_with fail
  refine wp_region_quiet_gx (by kernel_rfl) (by kernel_rfl) ?_
  repeat (quiet_step (fail))
  refine wpQuiet_nil ?_
  intro _ hw'
  obtain ⟨⟨n0, os0⟩, hw''⟩ := hw'
  have hB2 : Below W.heap.size W (gx W n0 os0) := gx_below _ _ _
  have hw3 : (gx W n0 os0) = _ := hw''.symm
  clear hw3
  have e0 := q0 n0 os0
  have e1 := q1 n0 os0
  have hlt2 : w.heap.size < (gx W n0 os0).heap.size := Nat.lt_of_lt_of_le hlt hB2.size
  have hlS : Bs < (gx W n0 os0).heap.size := Nat.lt_of_lt_of_le hSlt hB2.size
  subst hw''
  show Exit.then _ _ Exit.normal _ (gx W n0 os0)
  generalize gx W n0 os0 = W2 at *
  clear q0 q1 q2 q4 rb
  have q1 : ∀ nn os, (gx W2 nn os).cell? ⟨w.heap.size, 1, none⟩ = some (.int .i64 a) := fun nn os => cell_gx (a := ⟨w.heap.size, 1, none⟩) hlt2 e1 nn os
  clear hlS
  have HLd := Lib.hid (load_yes base Bb ad k 0 d ls W2 (HBt.out.below hB2) hf)
  have HLe : Hid (∀ (kk : Int), kk = k → Calls Try.prog 16 #[memV Bb, .int .u64 ad, .int .i64 kk, .int .i64 0] W2 fun e w' => e = .returned (.tuple #[.string ⟨((d.drop ad).take k).toArray⟩, .bool true]) ∧ Below W2.heap.size W2 w') := fun kk hk => by rw [hk]; exact HLd.out
  have hk8 : ((d.drop ad).take k).length ≤ 8 := by simp; omega
  have HNu := Lib.hid (fun (W' : World) => number_any ((d.drop ad).take k) W' hk8)
  obtain ⟨num, hnum⟩ : ∃ num, numL ((d.drop ad).take k) = num := ⟨_, rfl⟩
  rw [hnum] at HNu
  have HNm := Lib.hid hnum
  clear hnum
  generalize (⟨((d.drop ad).take k).toArray⟩ : ByteArray) = str at HLe HNu
  clear HLd q1
  unfold memV at HLe ⊢
  rcases hop with ⟨rfl, rfl⟩ | ⟨rfl, rfl⟩
  all_goals
    go_wp2_with (first | (go_at_call 16; refine (HLe.out _ rfl).mono ?_; rintro e w3 ⟨rfl, hB3⟩; refine Hid.out ?_))
    refine Lib.hid ?_
    have f1 : ∀ nn os, (gx w3 nn os).cell? ⟨w.heap.size, 1, none⟩ = some (.int .i64 a) := fun nn os => cell_gx (a := ⟨w.heap.size, 1, none⟩) (Nat.lt_of_lt_of_le hlt2 hB3.size) ((hB3.cell (p := ⟨w.heap.size, 1, none⟩) hlt2).trans e1) nn os
    go_wp2_with fail
    refine wp_region_tail_gx 8 (by kernel_rfl) (by kernel_rfl) ?_
    simp only [List.take_succ_cons, List.take_zero, List.drop_succ_cons, List.drop_zero]
    repeat (quiet_step (first | (go_at_call 45; exact calls_gx ((HNu.out _).mono fun _ _ hh => ⟨hh.1, by rw [hh.2]; exact Below.refl _ _⟩))))
    refine wpQuiet_nil ?_
    intro _ hw'
    obtain ⟨⟨n1, os1⟩, hw''⟩ := hw'
    subst hw''
    have hB4 : Below W.heap.size W (gx w3 n1 os1) := (hB2.trans (hB3.mono hB2.size)).trans ((gx_below w3 n1 os1).mono (Nat.le_trans hB2.size hB3.size))
    show wpList _ _ _ _ _ (gx w3 n1 os1)
    clear f1
    generalize gx w3 n1 os1 = W4 at *
    have HS4 := HSt.out.below hB4
    have r1 := HS4.reg hr a ha
    have r2 := HS4.froz a
    have hlS4 := HS4.lt
    go_wp2
    go_ret
    have hBw : Below w.heap.size w W4 := HB1.out.trans (hB4.mono HB1.out.size)
    exact ⟨rfl, by rw [HNm.out]; exact HS4.set hr a ha _, (HBt.out.below hB4).set_other HS4 (by decide) (by decide) (by decide) _ _, (hBw.mono hbs).setCell (p := ⟨Bs, a, none⟩) hbB _, (FrB.below hBw).trans (FrB.set _ _ _)⟩
set_option maxRecDepth 100000 in
set_option maxHeartbeats 4000000 in
theorem reach_load_no (base Bb Bs : Nat) (op n : Int) (a b z k : Nat) (ad : Int) (r : List Int) (pc : Int) (d : List UInt8) (ls : List (Nat × Bool)) (w : World) (hop : (op = 18 ∧ k = 1) ∨ (op = 20 ∧ k = 8))
    (hb : b < 16) (hr : r.length = 16) (hS : StAt w Bs r pc) (h : BAt K w base Bb d ls) (had : adI (r.getD b 0) n = ad) (h0 : 0 ≤ ad) (hf : ¬ ad + k ≤ d.length) :
    Calls Try.prog 30 #[.pointer (some ⟨Bs, 0, none⟩), memV Bb, .agg #[.int .i64 op, .int .i64 a, .int .i64 b, .int .i64 z, .int .i64 n]] w fun e w' => e = .returned (.bool false) ∧ Below w.heap.size w w' := by
  have hb1 : Below w.heap.size w (w.alloc (.cells #[.int .i64 op, .int .i64 a, .int .i64 b, .int .i64 z, .int .i64 n] 57)) := (Below.refl _ _).alloc (Nat.le_refl _) _
  obtain ⟨W, hW⟩ : ∃ W, w.alloc (.cells #[.int .i64 op, .int .i64 a, .int .i64 b, .int .i64 z, .int .i64 n] 57) = W := ⟨_, rfl⟩
  have hc : W.heap[w.heap.size]? = some (.cells #[.int .i64 op, .int .i64 a, .int .i64 b, .int .i64 z, .int .i64 n] 57 (0, 0)) := by rw [← hW]; exact heap_new _ _
  have hlt : w.heap.size < W.heap.size := (Array.getElem?_eq_some_iff.1 hc).1
  rw [hW] at hb1
  have hS1 := hS.below hb1
  have h1 := h.below hb1
  have q0 : ∀ nn os, (gx W nn os).cell? ⟨w.heap.size, 0, none⟩ = some (.int .i64 op) := fun nn os => cell_gx (a := ⟨w.heap.size, 0, none⟩) hlt (by simp [World.cell?, hc]) nn os
  have q2 : ∀ nn os, (gx W nn os).cell? ⟨w.heap.size, 2, none⟩ = some (.int .i64 b) := fun nn os => cell_gx (a := ⟨w.heap.size, 2, none⟩) hlt (by simp [World.cell?, hc]) nn os
  have q4 : ∀ nn os, (gx W nn os).cell? ⟨w.heap.size, 4, none⟩ = some (.int .i64 n) := fun nn os => cell_gx (a := ⟨w.heap.size, 4, none⟩) hlt (by simp [World.cell?, hc]) nn os
  have rb : ∀ nn os, (gx W nn os).cell? ⟨Bs, b, none⟩ = some (.int .u64 (r.getD b 0)) := fun nn os => cell_gx (a := ⟨Bs, b, none⟩) hS1.lt (hS1.reg hr b hb) nn os
  have hbi : (b : Int) < 16 := by omega
  unfold adI at had
  generalize r.getD b 0 = xb at *
  have HB1 := Lib.hid hb1
  have HBt := Lib.hid h1
  have hSlt := hS1.lt
  clear h1 hS1 h hb1 hS
  have q0' : W.cell? ⟨w.heap.size, 0, none⟩ = some (.int .i64 op) := by simp [World.cell?, hc]
  go_enter Try.func30, Try.ntmps30
  go_wp2_with fail
  refine wp_region_quiet_gx (by kernel_rfl) (by kernel_rfl) ?_
  repeat (quiet_step (fail))
  refine wpQuiet_nil ?_
  intro _ hw'
  obtain ⟨⟨n0, os0⟩, hw''⟩ := hw'
  have hB2 : Below W.heap.size W (gx W n0 os0) := gx_below _ _ _
  have hw3 : (gx W n0 os0) = _ := hw''.symm
  clear hw3
  have e0 := q0 n0 os0
  have hlt2 : w.heap.size < (gx W n0 os0).heap.size := Nat.lt_of_lt_of_le hlt hB2.size
  have hlS : Bs < (gx W n0 os0).heap.size := Nat.lt_of_lt_of_le hSlt hB2.size
  subst hw''
  show Exit.then _ _ Exit.normal _ (gx W n0 os0)
  generalize gx W n0 os0 = W2 at *
  clear q0 q2 q4 rb
  clear hlt2 hlS
  have HLd := Lib.hid (load_no base Bb ad k 0 d ls W2 (HBt.out.below hB2) h0 (by omega))
  have HLe : Hid (∀ (kk : Int), kk = k → Calls Try.prog 16 #[memV Bb, .int .u64 ad, .int .i64 kk, .int .i64 0] W2 fun e w' => e = .returned (.tuple #[.string ⟨#[]⟩, .bool false]) ∧ Below W2.heap.size W2 w') := fun kk hk => by rw [hk]; exact HLd.out
  clear HLd
  unfold memV at HLe ⊢
  rcases hop with ⟨rfl, rfl⟩ | ⟨rfl, rfl⟩
  all_goals
    go_wp2_with (first | (go_at_call 16; refine (HLe.out _ rfl).mono ?_; rintro e w3 ⟨rfl, hB3⟩))
    go_ret
    have hBw : Below w.heap.size w W2 := HB1.out.trans (hB2.mono HB1.out.size)
    exact ⟨rfl, hBw.trans (hB3.mono hBw.size)⟩
end Go.Proofs.Ytblhikmhmnkclaa.Fl
