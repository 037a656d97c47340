/- What do of package cpu does: memory, ways, calls and results. -/
import Derived.Test.YtblhikmhmnkclaaDo1
namespace Go.Proofs.Ytblhikmhmnkclaa
open Go.RowKit Go.Lib
variable {K : Nat → Prop}
set_option maxRecDepth 100000 in
set_option maxHeartbeats 4000000 in
theorem do_store (base Bb Bs : Nat) (n : Int) (op : Int) (k ad : Nat) (a b z : Nat) (r : List Int) (pc : Int) (d : List UInt8) (ls : List (Nat × Bool)) (w : World) (hop : (op = 19 ∧ k = 1) ∨ (op = 21 ∧ k = 8)) (had : adI (r.getD b 0) n = ad) (hf : ad + k ≤ d.length) (ha : a < 16) (hb : b < 16) (hz : z < 16) (hk : okR r pc) (hS : StAt w Bs r pc) (hbB : base ≤ Bs) (h : BAt K w base Bb d ls) :
    Calls Try.prog 18 #[.pointer (some ⟨Bs, 0, none⟩), memV Bb, .agg #[.int .i64 op, .int .i64 a, .int .i64 b, .int .i64 z, .int .i64 n]] w fun e w' => e = .returned (.int .i64 0) ∧ Aft K base Bb Bs w r (nxI pc) (over d ad (eightR (r.getD a 0) k)) w' := by
  have hbs := size_of_blk h
  have hr := hk.1
  have hb1 : Below w.heap.size w (w.alloc (.cells #[.int .i64 op, .int .i64 a, .int .i64 b, .int .i64 z, .int .i64 n] 57)) := (Below.refl _ _).alloc (Nat.le_refl _) _
  obtain ⟨W, hW⟩ : ∃ W, w.alloc (.cells #[.int .i64 op, .int .i64 a, .int .i64 b, .int .i64 z, .int .i64 n] 57) = W := ⟨_, rfl⟩
  have hc : W.heap[w.heap.size]? = some (.cells #[.int .i64 op, .int .i64 a, .int .i64 b, .int .i64 z, .int .i64 n] 57 (0, 0)) := by rw [← hW]; exact heap_new _ _
  have hlt : w.heap.size < W.heap.size := (Array.getElem?_eq_some_iff.1 hc).1
  rw [hW] at hb1
  have hS1 := hS.below hb1
  have h1 := h.below hb1
  have q0 : ∀ nn os, (gx W nn os).cell? ⟨w.heap.size, 0, none⟩ = some (.int .i64 op) := fun nn os => cell_gx (a := ⟨w.heap.size, 0, none⟩) hlt (by simp [World.cell?, hc]) nn os
  have q1 : ∀ nn os, (gx W nn os).cell? ⟨w.heap.size, 1, none⟩ = some (.int .i64 a) := fun nn os => cell_gx (a := ⟨w.heap.size, 1, none⟩) hlt (by simp [World.cell?, hc]) nn os
  have q2 : ∀ nn os, (gx W nn os).cell? ⟨w.heap.size, 2, none⟩ = some (.int .i64 b) := fun nn os => cell_gx (a := ⟨w.heap.size, 2, none⟩) hlt (by simp [World.cell?, hc]) nn os
  have q3 : ∀ nn os, (gx W nn os).cell? ⟨w.heap.size, 3, none⟩ = some (.int .i64 z) := fun nn os => cell_gx (a := ⟨w.heap.size, 3, none⟩) hlt (by simp [World.cell?, hc]) nn os
  have q4 : ∀ nn os, (gx W nn os).cell? ⟨w.heap.size, 4, none⟩ = some (.int .i64 n) := fun nn os => cell_gx (a := ⟨w.heap.size, 4, none⟩) hlt (by simp [World.cell?, hc]) nn os
  have p0 : W.cell? ⟨w.heap.size, 0, none⟩ = some (.int .i64 op) := by simp [World.cell?, hc]
  have p1 : W.cell? ⟨w.heap.size, 1, none⟩ = some (.int .i64 a) := by simp [World.cell?, hc]
  have p2 : W.cell? ⟨w.heap.size, 2, none⟩ = some (.int .i64 b) := by simp [World.cell?, hc]
  have p3 : W.cell? ⟨w.heap.size, 3, none⟩ = some (.int .i64 z) := by simp [World.cell?, hc]
  have p4 : W.cell? ⟨w.heap.size, 4, none⟩ = some (.int .i64 n) := by simp [World.cell?, hc]
  have ra : ∀ nn os, (gx W nn os).cell? ⟨Bs, a, none⟩ = some (.int .u64 (r.getD a 0)) := fun nn os => cell_gx (a := ⟨Bs, a, none⟩) hS1.lt (hS1.reg hr a ha) nn os
  have rb : ∀ nn os, (gx W nn os).cell? ⟨Bs, b, none⟩ = some (.int .u64 (r.getD b 0)) := fun nn os => cell_gx (a := ⟨Bs, b, none⟩) hS1.lt (hS1.reg hr b hb) nn os
  have rc : ∀ nn os, (gx W nn os).cell? ⟨Bs, z, none⟩ = some (.int .u64 (r.getD z 0)) := fun nn os => cell_gx (a := ⟨Bs, z, none⟩) hS1.lt (hS1.reg hr z hz) nn os
  have hai : (a : Int) < 16 := by omega
  have hbi : (b : Int) < 16 := by omega
  have hzi : (z : Int) < 16 := by omega
  have hpc := hS1.pc hr
  have hfz := hS1.froz 16
  have hBl := hS1.lt
  have HRe := Lib.hid (reach_store_yes base Bb Bs op n a b z k ad r pc d ls W hop ha hb hr hS1 h1 had hf)
  have HSt := Lib.hid hS1
  have HB1 := Lib.hid hb1
  clear h1 hS1 h hb1 hS had
  generalize r.getD a 0 = xa at *
  unfold memV at HRe ⊢
  rcases hop with ⟨rfl, rfl⟩ | ⟨rfl, rfl⟩
  all_goals
    go_enter Try.func18, Try.ntmps18
    go_wp2_with (first | (go_at_call 30; refine HRe.out.mono ?_; rintro e w4 ⟨rfl, hA, hB, hF⟩; refine Hid.out ?_))
    refine Lib.hid ?_
    have hS4 := HSt.out.fr hF
    have A4 : Aft K base Bb Bs w r pc _ w4 := ⟨hS4, hA, (HB1.out.mono hbs).trans hB, (FrB.below HB1.out).trans (.of hF)⟩
    have g1 := hS4.pc hr
    have g2 := hS4.froz 16
    have g3 := hS4.lt
    clear hS4 hA hB hF
    go_wp2
    go_ret
    exact ⟨rfl, A4.pc hr hbB _⟩
set_option maxRecDepth 100000 in
set_option maxHeartbeats 4000000 in
theorem do_load (base Bb Bs : Nat) (n : Int) (op : Int) (k ad : Nat) (a b z : Nat) (r : List Int) (pc : Int) (d : List UInt8) (ls : List (Nat × Bool)) (w : World) (hop : (op = 18 ∧ k = 1) ∨ (op = 20 ∧ k = 8)) (had : adI (r.getD b 0) n = ad) (hf : ad + k ≤ d.length) (ha : a < 16) (hb : b < 16) (hz : z < 16) (hk : okR r pc) (hS : StAt w Bs r pc) (hbB : base ≤ Bs) (h : BAt K w base Bb d ls) :
    Calls Try.prog 18 #[.pointer (some ⟨Bs, 0, none⟩), memV Bb, .agg #[.int .i64 op, .int .i64 a, .int .i64 b, .int .i64 z, .int .i64 n]] w fun e w' => e = .returned (.int .i64 0) ∧ Aft K base Bb Bs w (r.set a (numL ((d.drop ad).take k) : Nat)) (nxI pc) d w' := by
  have hbs := size_of_blk h
  have hr := hk.1
  have hb1 : Below w.heap.size w (w.alloc (.cells #[.int .i64 op, .int .i64 a, .int .i64 b, .int .i64 z, .int .i64 n] 57)) := (Below.refl _ _).alloc (Nat.le_refl _) _
  obtain ⟨W, hW⟩ : ∃ W, w.alloc (.cells #[.int .i64 op, .int .i64 a, .int .i64 b, .int .i64 z, .int .i64 n] 57) = W := ⟨_, rfl⟩
  have hc : W.heap[w.heap.size]? = some (.cells #[.int .i64 op, .int .i64 a, .int .i64 b, .int .i64 z, .int .i64 n] 57 (0, 0)) := by rw [← hW]; exact heap_new _ _
  have hlt : w.heap.size < W.heap.size := (Array.getElem?_eq_some_iff.1 hc).1
  rw [hW] at hb1
  have hS1 := hS.below hb1
  have h1 := h.below hb1
  have q0 : ∀ nn os, (gx W nn os).cell? ⟨w.heap.size, 0, none⟩ = some (.int .i64 op) := fun nn os => cell_gx (a := ⟨w.heap.size, 0, none⟩) hlt (by simp [World.cell?, hc]) nn os
  have q1 : ∀ nn os, (gx W nn os).cell? ⟨w.heap.size, 1, none⟩ = some (.int .i64 a) := fun nn os => cell_gx (a := ⟨w.heap.size, 1, none⟩) hlt (by simp [World.cell?, hc]) nn os
  have q2 : ∀ nn os, (gx W nn os).cell? ⟨w.heap.size, 2, none⟩ = some (.int .i64 b) := fun nn os => cell_gx (a := ⟨w.heap.size, 2, none⟩) hlt (by simp [World.cell?, hc]) nn os
  have q3 : ∀ nn os, (gx W nn os).cell? ⟨w.heap.size, 3, none⟩ = some (.int .i64 z) := fun nn os => cell_gx (a := ⟨w.heap.size, 3, none⟩) hlt (by simp [World.cell?, hc]) nn os
  have q4 : ∀ nn os, (gx W nn os).cell? ⟨w.heap.size, 4, none⟩ = some (.int .i64 n) := fun nn os => cell_gx (a := ⟨w.heap.size, 4, none⟩) hlt (by simp [World.cell?, hc]) nn os
  have p0 : W.cell? ⟨w.heap.size, 0, none⟩ = some (.int .i64 op) := by simp [World.cell?, hc]
  have p1 : W.cell? ⟨w.heap.size, 1, none⟩ = some (.int .i64 a) := by simp [World.cell?, hc]
  have p2 : W.cell? ⟨w.heap.size, 2, none⟩ = some (.int .i64 b) := by simp [World.cell?, hc]
  have p3 : W.cell? ⟨w.heap.size, 3, none⟩ = some (.int .i64 z) := by simp [World.cell?, hc]
  have p4 : W.cell? ⟨w.heap.size, 4, none⟩ = some (.int .i64 n) := by simp [World.cell?, hc]
  have ra : ∀ nn os, (gx W nn os).cell? ⟨Bs, a, none⟩ = some (.int .u64 (r.getD a 0)) := fun nn os => cell_gx (a := ⟨Bs, a, none⟩) hS1.lt (hS1.reg hr a ha) nn os
  have rb : ∀ nn os, (gx W nn os).cell? ⟨Bs, b, none⟩ = some (.int .u64 (r.getD b 0)) := fun nn os => cell_gx (a := ⟨Bs, b, none⟩) hS1.lt (hS1.reg hr b hb) nn os
  have rc : ∀ nn os, (gx W nn os).cell? ⟨Bs, z, none⟩ = some (.int .u64 (r.getD z 0)) := fun nn os => cell_gx (a := ⟨Bs, z, none⟩) hS1.lt (hS1.reg hr z hz) nn os
  have hai : (a : Int) < 16 := by omega
  have hbi : (b : Int) < 16 := by omega
  have hzi : (z : Int) < 16 := by omega
  have hpc := hS1.pc hr
  have hfz := hS1.froz 16
  have hBl := hS1.lt
  have HRe := Lib.hid (reach_load_yes base Bb Bs op n a b z k ad r pc d ls W hop ha hb hr hS1 hbB h1 had hf)
  have HB1 := Lib.hid hb1
  clear h1 hS1 h hb1 hS had
  unfold memV at HRe ⊢
  rcases hop with ⟨rfl, rfl⟩ | ⟨rfl, rfl⟩
  all_goals
    go_enter Try.func18, Try.ntmps18
    go_wp2_with (first | (go_at_call 30; refine HRe.out.mono ?_; rintro e w4 ⟨rfl, hS4, hA, hB, hF⟩; refine Hid.out ?_))
    refine Lib.hid ?_
    have A4 : Aft K base Bb Bs w _ pc d w4 := ⟨hS4, ⟨ls, hA⟩, (HB1.out.mono hbs).trans hB, (FrB.below HB1.out).trans hF⟩
    have g1 := hS4.pc (by rw [List.length_set]; exact hr)
    have g2 := hS4.froz 16
    have g3 := hS4.lt
    clear hS4 hA hB hF
    go_wp2
    go_ret
    exact ⟨rfl, A4.pc (by rw [List.length_set]; exact hr) hbB _⟩
set_option maxRecDepth 100000 in
set_option maxHeartbeats 4000000 in
theorem do_fault (base Bb Bs : Nat) (n : Int) (op : Int) (k : Nat) (ad : Int) (a b z : Nat) (r : List Int) (pc : Int) (d : List UInt8) (ls : List (Nat × Bool)) (w : World) (hop : ((op = 18 ∧ k = 1) ∨ (op = 20 ∧ k = 8)) ∨ ((op = 19 ∧ k = 1) ∨ (op = 21 ∧ k = 8))) (had : adI (r.getD b 0) n = ad) (h0 : 0 ≤ ad) (hf : ¬ ad + k ≤ d.length) (ha : a < 16) (hb : b < 16) (hz : z < 16) (hk : okR r pc) (hS : StAt w Bs r pc) (_hbB : base ≤ Bs) (h : BAt K w base Bb d ls) :
    Calls Try.prog 18 #[.pointer (some ⟨Bs, 0, none⟩), memV Bb, .agg #[.int .i64 op, .int .i64 a, .int .i64 b, .int .i64 z, .int .i64 n]] w fun e w' => e = .returned (.int .i64 3) ∧ Aft K base Bb Bs w r pc d w' := by
  have hbs := size_of_blk h
  have hr := hk.1
  have hb1 : Below w.heap.size w (w.alloc (.cells #[.int .i64 op, .int .i64 a, .int .i64 b, .int .i64 z, .int .i64 n] 57)) := (Below.refl _ _).alloc (Nat.le_refl _) _
  obtain ⟨W, hW⟩ : ∃ W, w.alloc (.cells #[.int .i64 op, .int .i64 a, .int .i64 b, .int .i64 z, .int .i64 n] 57) = W := ⟨_, rfl⟩
  have hc : W.heap[w.heap.size]? = some (.cells #[.int .i64 op, .int .i64 a, .int .i64 b, .int .i64 z, .int .i64 n] 57 (0, 0)) := by rw [← hW]; exact heap_new _ _
  have hlt : w.heap.size < W.heap.size := (Array.getElem?_eq_some_iff.1 hc).1
  rw [hW] at hb1
  have hS1 := hS.below hb1
  have h1 := h.below hb1
  have q0 : ∀ nn os, (gx W nn os).cell? ⟨w.heap.size, 0, none⟩ = some (.int .i64 op) := fun nn os => cell_gx (a := ⟨w.heap.size, 0, none⟩) hlt (by simp [World.cell?, hc]) nn os
  have q1 : ∀ nn os, (gx W nn os).cell? ⟨w.heap.size, 1, none⟩ = some (.int .i64 a) := fun nn os => cell_gx (a := ⟨w.heap.size, 1, none⟩) hlt (by simp [World.cell?, hc]) nn os
  have q2 : ∀ nn os, (gx W nn os).cell? ⟨w.heap.size, 2, none⟩ = some (.int .i64 b) := fun nn os => cell_gx (a := ⟨w.heap.size, 2, none⟩) hlt (by simp [World.cell?, hc]) nn os
  have q3 : ∀ nn os, (gx W nn os).cell? ⟨w.heap.size, 3, none⟩ = some (.int .i64 z) := fun nn os => cell_gx (a := ⟨w.heap.size, 3, none⟩) hlt (by simp [World.cell?, hc]) nn os
  have q4 : ∀ nn os, (gx W nn os).cell? ⟨w.heap.size, 4, none⟩ = some (.int .i64 n) := fun nn os => cell_gx (a := ⟨w.heap.size, 4, none⟩) hlt (by simp [World.cell?, hc]) nn os
  have p0 : W.cell? ⟨w.heap.size, 0, none⟩ = some (.int .i64 op) := by simp [World.cell?, hc]
  have p1 : W.cell? ⟨w.heap.size, 1, none⟩ = some (.int .i64 a) := by simp [World.cell?, hc]
  have p2 : W.cell? ⟨w.heap.size, 2, none⟩ = some (.int .i64 b) := by simp [World.cell?, hc]
  have p3 : W.cell? ⟨w.heap.size, 3, none⟩ = some (.int .i64 z) := by simp [World.cell?, hc]
  have p4 : W.cell? ⟨w.heap.size, 4, none⟩ = some (.int .i64 n) := by simp [World.cell?, hc]
  have ra : ∀ nn os, (gx W nn os).cell? ⟨Bs, a, none⟩ = some (.int .u64 (r.getD a 0)) := fun nn os => cell_gx (a := ⟨Bs, a, none⟩) hS1.lt (hS1.reg hr a ha) nn os
  have rb : ∀ nn os, (gx W nn os).cell? ⟨Bs, b, none⟩ = some (.int .u64 (r.getD b 0)) := fun nn os => cell_gx (a := ⟨Bs, b, none⟩) hS1.lt (hS1.reg hr b hb) nn os
  have rc : ∀ nn os, (gx W nn os).cell? ⟨Bs, z, none⟩ = some (.int .u64 (r.getD z 0)) := fun nn os => cell_gx (a := ⟨Bs, z, none⟩) hS1.lt (hS1.reg hr z hz) nn os
  have hai : (a : Int) < 16 := by omega
  have hbi : (b : Int) < 16 := by omega
  have hzi : (z : Int) < 16 := by omega
  have hpc := hS1.pc hr
  have hfz := hS1.froz 16
  have hBl := hS1.lt
  have HRe : Hid (Calls Try.prog 30 #[.pointer (some ⟨Bs, 0, none⟩), memV Bb, .agg #[.int .i64 op, .int .i64 a, .int .i64 b, .int .i64 z, .int .i64 n]] W fun e w' => e = .returned (.bool false) ∧ Below W.heap.size W w') := by
    rcases hop with hop | hop
    · exact reach_load_no base Bb Bs op n a b z k ad r pc d ls W hop hb hr hS1 h1 had h0 hf
    · exact reach_store_no base Bb Bs op n a b z k ad r pc d ls W hop ha hb hr hS1 h1 had h0 hf
  have HA := Lib.hid (fun (w' : World) (hw : Below w.heap.size w w') => Aft.of hS h hw)
  have HB1 := Lib.hid hb1
  clear h1 hS1 h hb1 hS had
  unfold memV at HRe ⊢
  rcases hop with (⟨rfl, rfl⟩ | ⟨rfl, rfl⟩) | (⟨rfl, rfl⟩ | ⟨rfl, rfl⟩)
  all_goals
    go_enter Try.func18, Try.ntmps18
    go_wp2_with (first | (go_at_call 30; refine HRe.out.mono ?_; rintro e w4 ⟨rfl, hB⟩))
    go_ret
    exact ⟨rfl, HA.out _ (HB1.out.trans (hB.mono HB1.out.size))⟩
end Go.Proofs.Ytblhikmhmnkclaa
