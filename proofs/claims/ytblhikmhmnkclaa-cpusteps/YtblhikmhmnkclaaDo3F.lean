/- What do of package cpu does: ways, calls and results. -/
import Derived.Test.YtblhikmhmnkclaaDo3
import Derived.Test.YtblhikmhmnkclaaDo2F
namespace Go.Proofs.Ytblhikmhmnkclaa.Fl
open Go.RowKit Go.Lib
variable {K : Nat → Prop}
set_option maxRecDepth 100000 in
set_option maxHeartbeats 4000000 in
theorem do_branch (base Bb Bs : Nat) (n : Int) (op : Int) (a b z : Nat) (r : List Int) (pc : Int) (d : List UInt8) (ls : List (Nat × Bool)) (w : World) (hop : op = 22 ∨ op = 23 ∨ op = 24) (ha : a < 16) (hb : b < 16) (hz : z < 16) (hk : okR r pc) (hS : StAt w Bs r pc) (hbB : base ≤ Bs) (h : BAt K w base Bb d ls) :
    Calls Try.prog 18 #[.pointer (some ⟨Bs, 0, none⟩), memV Bb, .agg #[.int .i64 op, .int .i64 a, .int .i64 b, .int .i64 z, .int .i64 n]] w fun e w' => e = .returned (.int .i64 0) ∧ Aft K base Bb Bs w r (brI op n (nxI pc) (r.getD a 0)) d w' := by
  have hbs := size_of_blk h
  have hr := hk.1
  have hb1 : Below w.heap.size w (w.alloc (.cells #[.int .i64 op, .int .i64 a, .int .i64 b, .int .i64 z, .int .i64 n] 57)) := (Below.refl _ _).alloc (Nat.le_refl _) _
  obtain ⟨W, hW⟩ : ∃ W, w.alloc (.cells #[.int .i64 op, .int .i64 a, .int .i64 b, .int .i64 z, .int .i64 n] 57) = W := ⟨_, rfl⟩
  have hc : W.heap[w.heap.size]? = some (.cells #[.int .i64 op, .int .i64 a, .int .i64 b, .int .i64 z, .int .i64 n] 57 (0, 0)) := by rw [← hW]; exact heap_new _ _
  have hlt : w.heap.size < W.heap.size := (Array.getElem?_eq_some_iff.1 hc).1
  rw [hW] at hb1
  have hS1 := hS.below hb1
  have h1 := h.below hb1
  have q0 : ∀ nn os, (gx W nn os).cell? ⟨w.heap.size, 0, none⟩ = some (.int .i64 op) := fun nn os => cell_gx (a := ⟨w.heap.size, 0, none⟩) hlt (by simp [World.cell?, hc]) nn os
  have q1 : ∀ nn os, (gx W nn os).cell? ⟨w.heap.size, 1, none⟩ = some (.int .i64 a) := fun nn os => cell_gx (a := ⟨w.heap.size, 1, none⟩) hlt (by simp [World.cell?, hc]) nn os
  have q2 : ∀ nn os, (gx W nn os).cell? ⟨w.heap.size, 2, none⟩ = some (.int .i64 b) := fun nn os => cell_gx (a := ⟨w.heap.size, 2, none⟩) hlt (by simp [World.cell?, hc]) nn os
  have q3 : ∀ nn os, (gx W nn os).cell? ⟨w.heap.size, 3, none⟩ = some (.int .i64 z) := fun nn os => cell_gx (a := ⟨w.heap.size, 3, none⟩) hlt (by simp [World.cell?, hc]) nn os
  have q4 : ∀ nn os, (gx W nn os).cell? ⟨w.heap.size, 4, none⟩ = some (.int .i64 n) := fun nn os => cell_gx (a := ⟨w.heap.size, 4, none⟩) hlt (by simp [World.cell?, hc]) nn os
  have p0 : W.cell? ⟨w.heap.size, 0, none⟩ = some (.int .i64 op) := by simp [World.cell?, hc]
  have p1 : W.cell? ⟨w.heap.size, 1, none⟩ = some (.int .i64 a) := by simp [World.cell?, hc]
  have p2 : W.cell? ⟨w.heap.size, 2, none⟩ = some (.int .i64 b) := by simp [World.cell?, hc]
  have p3 : W.cell? ⟨w.heap.size, 3, none⟩ = some (.int .i64 z) := by simp [World.cell?, hc]
  have p4 : W.cell? ⟨w.heap.size, 4, none⟩ = some (.int .i64 n) := by simp [World.cell?, hc]
  have ra : ∀ nn os, (gx W nn os).cell? ⟨Bs, a, none⟩ = some (.int .u64 (r.getD a 0)) := fun nn os => cell_gx (a := ⟨Bs, a, none⟩) hS1.lt (hS1.reg hr a ha) nn os
  have rb : ∀ nn os, (gx W nn os).cell? ⟨Bs, b, none⟩ = some (.int .u64 (r.getD b 0)) := fun nn os => cell_gx (a := ⟨Bs, b, none⟩) hS1.lt (hS1.reg hr b hb) nn os
  have rc : ∀ nn os, (gx W nn os).cell? ⟨Bs, z, none⟩ = some (.int .u64 (r.getD z 0)) := fun nn os => cell_gx (a := ⟨Bs, z, none⟩) hS1.lt (hS1.reg hr z hz) nn os
  have hai : (a : Int) < 16 := by omega
  have hbi : (b : Int) < 16 := by omega
  have hzi : (z : Int) < 16 := by omega
  have hpc := hS1.pc hr
  have hfz := hS1.froz 16
  have hBl := hS1.lt
  have HBr : Hid (∀ (x : Int) (W' : World), Calls Try.prog 31 #[.agg #[.int .i64 op, .int .i64 a, .int .i64 b, .int .i64 z, .int .i64 n], .int .u64 (IntKind.u64.wrap (pc + 4)), .int .u64 x] W' fun e w' => e = .returned (.int .u64 (brI op n (IntKind.u64.wrap (pc + 4)) x)) ∧ Below W'.heap.size W' w') := fun x W' => branch_any ⟨op, a, b, z, n⟩ (IntKind.u64.wrap (pc + 4)) x W' hop
  have HA := Lib.hid (fun (w' : World) (hw : Below w.heap.size w w') => Aft.of hS h hw)
  have HB1 := Lib.hid hb1
  clear h1 hS1 h hb1 hS
  generalize r.getD a 0 = xa at *
  generalize r.getD b 0 = xb at *
  generalize r.getD z 0 = xz at *
  go_enter Try.func18, Try.ntmps18
  rcases hop with rfl | rfl | rfl
  all_goals
    go_wp2_with fail
    refine wp_region_quiet_gx (by kernel_rfl) (by kernel_rfl) ?_
    repeat (quiet_step (first | (go_at_call 31; exact calls_gx (HBr.out _ _))))
    refine wpQuiet_nil ?_
    intro w5 hw'
    obtain ⟨⟨n0, os0⟩, hw''⟩ := hw'
    have hw3 : w5 = gx W n0 os0 := hw''
    clear hw''
    subst hw3
    have hB2 : Below w.heap.size w (gx W n0 os0) := HB1.out.trans ((gx_below W n0 os0).mono HB1.out.size)
    have A4 := HA.out _ hB2
    generalize gx W n0 os0 = W4 at *
    have g1 := A4.st.pc hr
    have g2 := A4.st.froz 16
    have g3 := A4.st.lt
    clear q0 q1 q2 q3 q4 ra rb rc
    go_wp2
    go_ret
    exact ⟨rfl, A4.pc hr hbB _⟩
set_option maxRecDepth 100000 in
set_option maxHeartbeats 4000000 in
theorem do_call (base Bb Bs : Nat) (n : Int) (a b z : Nat) (r : List Int) (pc : Int) (d : List UInt8) (ls : List (Nat × Bool)) (w : World) (ha : a < 16) (hb : b < 16) (hz : z < 16) (hk : okR r pc) (hS : StAt w Bs r pc) (hbB : base ≤ Bs) (h : BAt K w base Bb d ls) :
    Calls Try.prog 18 #[.pointer (some ⟨Bs, 0, none⟩), memV Bb, .agg #[.int .i64 25, .int .i64 a, .int .i64 b, .int .i64 z, .int .i64 n]] w fun e w' => e = .returned (.int .i64 0) ∧ Aft K base Bb Bs w (r.set a (nxI pc)) (r.getD b 0) d w' := by
  have hbs := size_of_blk h
  have hr := hk.1
  have hb1 : Below w.heap.size w (w.alloc (.cells #[.int .i64 25, .int .i64 a, .int .i64 b, .int .i64 z, .int .i64 n] 57)) := (Below.refl _ _).alloc (Nat.le_refl _) _
  obtain ⟨W, hW⟩ : ∃ W, w.alloc (.cells #[.int .i64 25, .int .i64 a, .int .i64 b, .int .i64 z, .int .i64 n] 57) = W := ⟨_, rfl⟩
  have hc : W.heap[w.heap.size]? = some (.cells #[.int .i64 25, .int .i64 a, .int .i64 b, .int .i64 z, .int .i64 n] 57 (0, 0)) := by rw [← hW]; exact heap_new _ _
  have hlt : w.heap.size < W.heap.size := (Array.getElem?_eq_some_iff.1 hc).1
  rw [hW] at hb1
  have hS1 := hS.below hb1
  have h1 := h.below hb1
  have q0 : ∀ nn os, (gx W nn os).cell? ⟨w.heap.size, 0, none⟩ = some (.int .i64 25) := fun nn os => cell_gx (a := ⟨w.heap.size, 0, none⟩) hlt (by simp [World.cell?, hc]) nn os
  have q1 : ∀ nn os, (gx W nn os).cell? ⟨w.heap.size, 1, none⟩ = some (.int .i64 a) := fun nn os => cell_gx (a := ⟨w.heap.size, 1, none⟩) hlt (by simp [World.cell?, hc]) nn os
  have q2 : ∀ nn os, (gx W nn os).cell? ⟨w.heap.size, 2, none⟩ = some (.int .i64 b) := fun nn os => cell_gx (a := ⟨w.heap.size, 2, none⟩) hlt (by simp [World.cell?, hc]) nn os
  have q3 : ∀ nn os, (gx W nn os).cell? ⟨w.heap.size, 3, none⟩ = some (.int .i64 z) := fun nn os => cell_gx (a := ⟨w.heap.size, 3, none⟩) hlt (by simp [World.cell?, hc]) nn os
  have q4 : ∀ nn os, (gx W nn os).cell? ⟨w.heap.size, 4, none⟩ = some (.int .i64 n) := fun nn os => cell_gx (a := ⟨w.heap.size, 4, none⟩) hlt (by simp [World.cell?, hc]) nn os
  have p0 : W.cell? ⟨w.heap.size, 0, none⟩ = some (.int .i64 25) := by simp [World.cell?, hc]
  have p1 : W.cell? ⟨w.heap.size, 1, none⟩ = some (.int .i64 a) := by simp [World.cell?, hc]
  have p2 : W.cell? ⟨w.heap.size, 2, none⟩ = some (.int .i64 b) := by simp [World.cell?, hc]
  have p3 : W.cell? ⟨w.heap.size, 3, none⟩ = some (.int .i64 z) := by simp [World.cell?, hc]
  have p4 : W.cell? ⟨w.heap.size, 4, none⟩ = some (.int .i64 n) := by simp [World.cell?, hc]
  have ra : ∀ nn os, (gx W nn os).cell? ⟨Bs, a, none⟩ = some (.int .u64 (r.getD a 0)) := fun nn os => cell_gx (a := ⟨Bs, a, none⟩) hS1.lt (hS1.reg hr a ha) nn os
  have rb : ∀ nn os, (gx W nn os).cell? ⟨Bs, b, none⟩ = some (.int .u64 (r.getD b 0)) := fun nn os => cell_gx (a := ⟨Bs, b, none⟩) hS1.lt (hS1.reg hr b hb) nn os
  have rc : ∀ nn os, (gx W nn os).cell? ⟨Bs, z, none⟩ = some (.int .u64 (r.getD z 0)) := fun nn os => cell_gx (a := ⟨Bs, z, none⟩) hS1.lt (hS1.reg hr z hz) nn os
  have hai : (a : Int) < 16 := by omega
  have hbi : (b : Int) < 16 := by omega
  have hzi : (z : Int) < 16 := by omega
  have hpc := hS1.pc hr
  have hfz := hS1.froz 16
  have hBl := hS1.lt
  have HA := Lib.hid (fun (w' : World) (hw : Below w.heap.size w w') => Aft.of hS h hw)
  have HB1 := Lib.hid hb1
  clear h1 hS1 h hb1 hS
  generalize r.getD a 0 = xa at *
  generalize r.getD b 0 = xb at *
  generalize r.getD z 0 = xz at *
  go_enter Try.func18, Try.ntmps18
  go_wp2_with fail
  · refine wp_region_quiet_gx (by kernel_rfl) (by kernel_rfl) ?_
    repeat (quiet_step (fail))
    refine wpQuiet_nil ?_
    intro w5 hw'
    obtain ⟨⟨n0, os0⟩, hw''⟩ := hw'
    have hw3 : w5 = gx W n0 os0 := hw''
    clear hw''
    subst hw3
    have hB2 : Below w.heap.size w (gx W n0 os0) := HB1.out.trans ((gx_below W n0 os0).mono HB1.out.size)
    have e1 := q1 n0 os0
    have hlt2 : w.heap.size < (gx W n0 os0).heap.size := Nat.lt_of_lt_of_le hlt (gx_below W n0 os0).size
    generalize gx W n0 os0 = W2 at *
    clear q0 q1 q2 q3 q4 ra rb rc
    have q1 : ∀ nn os, (gx W2 nn os).cell? ⟨w.heap.size, 1, none⟩ = some (.int .i64 a) := fun nn os => cell_gx (a := ⟨w.heap.size, 1, none⟩) hlt2 e1 nn os
    go_wp2_with fail
    refine wp_region_tail_gx 7 (by kernel_rfl) (by kernel_rfl) ?_
    simp only [List.take_succ_cons, List.take_zero, List.drop_succ_cons, List.drop_zero]
    repeat (quiet_step (fail))
    refine wpQuiet_nil ?_
    intro _ hw'
    obtain ⟨⟨n1, os1⟩, hw''⟩ := hw'
    subst hw''
    have A3 := HA.out _ (hB2.trans ((gx_below W2 n1 os1).mono hB2.size))
    show wpList _ _ _ _ _ (gx W2 n1 os1)
    clear q1
    generalize gx W2 n1 os1 = W3 at *
    have A4 := A3.reg hr hbB a ha (IntKind.u64.wrap (pc + 4))
    have f1 := A3.st.reg hr a ha
    have f2 := A3.st.froz a
    have g1 := A4.st.pc (by rw [List.length_set]; exact hr)
    have g2 := A3.st.froz 16
    have g3 := A3.st.lt
    go_wp2
    go_ret
    exact ⟨rfl, A4.pc (by rw [List.length_set]; exact hr) hbB _⟩
set_option maxRecDepth 100000 in
set_option maxHeartbeats 4000000 in
theorem do_res (base Bb Bs : Nat) (n : Int) (op : Int) (a b z : Nat) (r : List Int) (pc : Int) (d : List UInt8) (ls : List (Nat × Bool)) (w : World) (hop : 3 ≤ op ∧ op ≤ 17) (ha : a < 16) (hb : b < 16) (hz : z < 16) (hk : okR r pc) (hS : StAt w Bs r pc) (hbB : base ≤ Bs) (h : BAt K w base Bb d ls) :
    Calls Try.prog 18 #[.pointer (some ⟨Bs, 0, none⟩), memV Bb, .agg #[.int .i64 op, .int .i64 a, .int .i64 b, .int .i64 z, .int .i64 n]] w fun e w' => e = .returned (.int .i64 0) ∧ Aft K base Bb Bs w (r.set a (resI op n (r.getD a 0) (r.getD b 0) (r.getD z 0))) (nxI pc) d w' := by
  have hbs := size_of_blk h
  have hr := hk.1
  have hb1 : Below w.heap.size w (w.alloc (.cells #[.int .i64 op, .int .i64 a, .int .i64 b, .int .i64 z, .int .i64 n] 57)) := (Below.refl _ _).alloc (Nat.le_refl _) _
  obtain ⟨W, hW⟩ : ∃ W, w.alloc (.cells #[.int .i64 op, .int .i64 a, .int .i64 b, .int .i64 z, .int .i64 n] 57) = W := ⟨_, rfl⟩
  have hc : W.heap[w.heap.size]? = some (.cells #[.int .i64 op, .int .i64 a, .int .i64 b, .int .i64 z, .int .i64 n] 57 (0, 0)) := by rw [← hW]; exact heap_new _ _
  have hlt : w.heap.size < W.heap.size := (Array.getElem?_eq_some_iff.1 hc).1
  rw [hW] at hb1
  have hS1 := hS.below hb1
  have h1 := h.below hb1
  have q0 : ∀ nn os, (gx W nn os).cell? ⟨w.heap.size, 0, none⟩ = some (.int .i64 op) := fun nn os => cell_gx (a := ⟨w.heap.size, 0, none⟩) hlt (by simp [World.cell?, hc]) nn os
  have q1 : ∀ nn os, (gx W nn os).cell? ⟨w.heap.size, 1, none⟩ = some (.int .i64 a) := fun nn os => cell_gx (a := ⟨w.heap.size, 1, none⟩) hlt (by simp [World.cell?, hc]) nn os
  have q2 : ∀ nn os, (gx W nn os).cell? ⟨w.heap.size, 2, none⟩ = some (.int .i64 b) := fun nn os => cell_gx (a := ⟨w.heap.size, 2, none⟩) hlt (by simp [World.cell?, hc]) nn os
  have q3 : ∀ nn os, (gx W nn os).cell? ⟨w.heap.size, 3, none⟩ = some (.int .i64 z) := fun nn os => cell_gx (a := ⟨w.heap.size, 3, none⟩) hlt (by simp [World.cell?, hc]) nn os
  have q4 : ∀ nn os, (gx W nn os).cell? ⟨w.heap.size, 4, none⟩ = some (.int .i64 n) := fun nn os => cell_gx (a := ⟨w.heap.size, 4, none⟩) hlt (by simp [World.cell?, hc]) nn os
  have p0 : W.cell? ⟨w.heap.size, 0, none⟩ = some (.int .i64 op) := by simp [World.cell?, hc]
  have p1 : W.cell? ⟨w.heap.size, 1, none⟩ = some (.int .i64 a) := by simp [World.cell?, hc]
  have p2 : W.cell? ⟨w.heap.size, 2, none⟩ = some (.int .i64 b) := by simp [World.cell?, hc]
  have p3 : W.cell? ⟨w.heap.size, 3, none⟩ = some (.int .i64 z) := by simp [World.cell?, hc]
  have p4 : W.cell? ⟨w.heap.size, 4, none⟩ = some (.int .i64 n) := by simp [World.cell?, hc]
  have ra : ∀ nn os, (gx W nn os).cell? ⟨Bs, a, none⟩ = some (.int .u64 (r.getD a 0)) := fun nn os => cell_gx (a := ⟨Bs, a, none⟩) hS1.lt (hS1.reg hr a ha) nn os
  have rb : ∀ nn os, (gx W nn os).cell? ⟨Bs, b, none⟩ = some (.int .u64 (r.getD b 0)) := fun nn os => cell_gx (a := ⟨Bs, b, none⟩) hS1.lt (hS1.reg hr b hb) nn os
  have rc : ∀ nn os, (gx W nn os).cell? ⟨Bs, z, none⟩ = some (.int .u64 (r.getD z 0)) := fun nn os => cell_gx (a := ⟨Bs, z, none⟩) hS1.lt (hS1.reg hr z hz) nn os
  have hai : (a : Int) < 16 := by omega
  have hbi : (b : Int) < 16 := by omega
  have hzi : (z : Int) < 16 := by omega
  have hpc := hS1.pc hr
  have hfz := hS1.froz 16
  have hBl := hS1.lt
  have HRs : Hid (∀ (W' : World), Calls Try.prog 32 #[.agg #[.int .i64 op, .int .i64 a, .int .i64 b, .int .i64 z, .int .i64 n], .int .u64 (r.getD a 0), .int .u64 (r.getD b 0), .int .u64 (r.getD z 0)] W' fun e w' => e = .returned (.int .u64 (resI op n (r.getD a 0) (r.getD b 0) (r.getD z 0))) ∧ Below W'.heap.size W' w') := fun W' => result_any ⟨op, a, b, z, n⟩ _ _ _ W' (hk.get z hz) hop
  have HA := Lib.hid (fun (w' : World) (hw : Below w.heap.size w w') => Aft.of hS h hw)
  have HB1 := Lib.hid hb1
  clear h1 hS1 h hb1 hS
  obtain ⟨res, hres⟩ : ∃ res, resI op n (r.getD a 0) (r.getD b 0) (r.getD z 0) = res := ⟨_, rfl⟩
  rw [hres] at HRs ⊢
  clear hres
  generalize r.getD a 0 = xa at *
  generalize r.getD b 0 = xb at *
  generalize r.getD z 0 = xz at *
  have n0 : (op == 0) = false := by simp; omega
  have n1 : (op == 1) = false := by simp; omega
  have n2 : (op == 2) = false := by simp; omega
  have n18 : (op == 18) = false := by simp; omega
  have n19 : (op == 19) = false := by simp; omega
  have n20 : (op == 20) = false := by simp; omega
  have n21 : (op == 21) = false := by simp; omega
  have n22 : (op == 22) = false := by simp; omega
  have n23 : (op == 23) = false := by simp; omega
  have n24 : (op == 24) = false := by simp; omega
  have n25 : (op == 25) = false := by simp; omega
  have n26 : (op == 26) = false := by simp; omega
  clear hop
  go_enter Try.func18, Try.ntmps18
  go_wp2_with fail
  · refine wp_region_tail_gx 29 (by kernel_rfl) (by kernel_rfl) ?_
    simp only [List.take_succ_cons, List.take_zero, List.drop_succ_cons, List.drop_zero]
    repeat (quiet_step (first | (go_at_call 32; exact calls_gx (HRs.out _))))
    refine wpQuiet_nil ?_
    intro w5 hw'
    obtain ⟨⟨n0, os0⟩, hw''⟩ := hw'
    have hw3 : w5 = gx W n0 os0 := hw''
    clear hw''
    subst hw3
    have hB2 : Below w.heap.size w (gx W n0 os0) := HB1.out.trans ((gx_below W n0 os0).mono HB1.out.size)
    have A3 := HA.out _ hB2
    show wpList _ _ _ _ _ (gx W n0 os0)
    clear q0 q1 q2 q3 q4 ra rb rc
    generalize gx W n0 os0 = W3 at *
    have A4 := A3.reg hr hbB a ha res
    have f1 := A3.st.reg hr a ha
    have f2 := A3.st.froz a
    have g1 := A4.st.pc (by rw [List.length_set]; exact hr)
    have g2 := A3.st.froz 16
    have g3 := A3.st.lt
    go_wp2
    go_ret
    exact ⟨rfl, A4.pc (by rw [List.length_set]; exact hr) hbB _⟩
end Go.Proofs.Ytblhikmhmnkclaa.Fl
