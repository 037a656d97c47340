/- What do of package cpu does, operation by operation. -/
import Derived.Test.YtblhikmhmnkclaaReach
namespace Go.Proofs.Ytblhikmhmnkclaa
open Go.RowKit Go.Lib
variable {K : Nat → Prop}
/-- Where things stand behind a step: the state, the bytes, and what has turned. -/
structure Aft (K : Nat → Prop) (base Bb Bs : Nat) (w : World) (r : List Int) (pc : Int) (d : List UInt8) (w' : World) : Prop where
  st : StAt w' Bs r pc
  mem : ∃ ls', BAt K w' base Bb d ls'
  blw : Below base w w'
  fr : FrB K Bs w w'
/-- The next instruction's place. -/
def nxI (pc : Int) : Int := IntKind.u64.wrap (pc + 4)
theorem Aft.pc {base Bb Bs : Nat} {w : World} {r : List Int} {pc : Int} {d : List UInt8} {w' : World} (h : Aft K base Bb Bs w r pc d w') (hr : r.length = 16) (hbB : base ≤ Bs) (x : Int) : Aft K base Bb Bs w r x d (w'.setCell ⟨Bs, 16, none⟩ (.int .u64 x)) := by
  obtain ⟨h1, ⟨ls, h2⟩, h3, h4⟩ := h
  exact ⟨h1.setPc hr x, ⟨ls, h2.set_other h1 (by decide) (by decide) (by decide) _ _⟩, h3.setCell (p := ⟨Bs, 16, none⟩) hbB _, h4.trans (FrB.set _ _ _)⟩
theorem Aft.reg {base Bb Bs : Nat} {w : World} {r : List Int} {pc : Int} {d : List UInt8} {w' : World} (h : Aft K base Bb Bs w r pc d w') (hr : r.length = 16) (hbB : base ≤ Bs) (k : Nat) (hk : k < 16) (x : Int) : Aft K base Bb Bs w (r.set k x) pc d (w'.setCell ⟨Bs, k, none⟩ (.int .u64 x)) := by
  obtain ⟨h1, ⟨ls, h2⟩, h3, h4⟩ := h
  exact ⟨h1.set hr k hk x, ⟨ls, h2.set_other h1 (by decide) (by decide) (by decide) _ _⟩, h3.setCell (p := ⟨Bs, k, none⟩) hbB _, h4.trans (FrB.set _ _ _)⟩
theorem Aft.of {base Bb Bs : Nat} {w : World} {r : List Int} {pc : Int} {d : List UInt8} {ls : List (Nat × Bool)} {w' : World} (hS : StAt w Bs r pc) (h : BAt K w base Bb d ls) (hb : Below w.heap.size w w') : Aft K base Bb Bs w r pc d w' :=
  ⟨hS.below hb, ⟨ls, h.below hb⟩, hb.mono (size_of_blk h), FrB.below hb⟩
set_option maxRecDepth 100000 in
set_option maxHeartbeats 4000000 in
theorem do_halt (base Bb Bs : Nat) (n : Int) (a b z : Nat) (r : List Int) (pc : Int) (d : List UInt8) (ls : List (Nat × Bool)) (w : World) (ha : a < 16) (hb : b < 16) (hz : z < 16) (hk : okR r pc) (hS : StAt w Bs r pc) (_hbB : base ≤ Bs) (h : BAt K w base Bb d ls) :
    Calls Try.prog 18 #[.pointer (some ⟨Bs, 0, none⟩), memV Bb, .agg #[.int .i64 0, .int .i64 a, .int .i64 b, .int .i64 z, .int .i64 n]] w fun e w' => e = .returned (.int .i64 2) ∧ Aft K base Bb Bs w r pc d w' := by
  have hbs := size_of_blk h
  have hr := hk.1
  have hb1 : Below w.heap.size w (w.alloc (.cells #[.int .i64 0, .int .i64 a, .int .i64 b, .int .i64 z, .int .i64 n] 57)) := (Below.refl _ _).alloc (Nat.le_refl _) _
  obtain ⟨W, hW⟩ : ∃ W, w.alloc (.cells #[.int .i64 0, .int .i64 a, .int .i64 b, .int .i64 z, .int .i64 n] 57) = W := ⟨_, rfl⟩
  have hc : W.heap[w.heap.size]? = some (.cells #[.int .i64 0, .int .i64 a, .int .i64 b, .int .i64 z, .int .i64 n] 57 (0, 0)) := by rw [← hW]; exact heap_new _ _
  have hlt : w.heap.size < W.heap.size := (Array.getElem?_eq_some_iff.1 hc).1
  rw [hW] at hb1
  have hS1 := hS.below hb1
  have h1 := h.below hb1
  have q0 : ∀ nn os, (gx W nn os).cell? ⟨w.heap.size, 0, none⟩ = some (.int .i64 0) := fun nn os => cell_gx (a := ⟨w.heap.size, 0, none⟩) hlt (by simp [World.cell?, hc]) nn os
  have q1 : ∀ nn os, (gx W nn os).cell? ⟨w.heap.size, 1, none⟩ = some (.int .i64 a) := fun nn os => cell_gx (a := ⟨w.heap.size, 1, none⟩) hlt (by simp [World.cell?, hc]) nn os
  have q2 : ∀ nn os, (gx W nn os).cell? ⟨w.heap.size, 2, none⟩ = some (.int .i64 b) := fun nn os => cell_gx (a := ⟨w.heap.size, 2, none⟩) hlt (by simp [World.cell?, hc]) nn os
  have q3 : ∀ nn os, (gx W nn os).cell? ⟨w.heap.size, 3, none⟩ = some (.int .i64 z) := fun nn os => cell_gx (a := ⟨w.heap.size, 3, none⟩) hlt (by simp [World.cell?, hc]) nn os
  have q4 : ∀ nn os, (gx W nn os).cell? ⟨w.heap.size, 4, none⟩ = some (.int .i64 n) := fun nn os => cell_gx (a := ⟨w.heap.size, 4, none⟩) hlt (by simp [World.cell?, hc]) nn os
  have p0 : W.cell? ⟨w.heap.size, 0, none⟩ = some (.int .i64 0) := by simp [World.cell?, hc]
  have p1 : W.cell? ⟨w.heap.size, 1, none⟩ = some (.int .i64 a) := by simp [World.cell?, hc]
  have p2 : W.cell? ⟨w.heap.size, 2, none⟩ = some (.int .i64 b) := by simp [World.cell?, hc]
  have p3 : W.cell? ⟨w.heap.size, 3, none⟩ = some (.int .i64 z) := by simp [World.cell?, hc]
  have p4 : W.cell? ⟨w.heap.size, 4, none⟩ = some (.int .i64 n) := by simp [World.cell?, hc]
  have ra : ∀ nn os, (gx W nn os).cell? ⟨Bs, a, none⟩ = some (.int .u64 (r.getD a 0)) := fun nn os => cell_gx (a := ⟨Bs, a, none⟩) hS1.lt (hS1.reg hr a ha) nn os
  have rb : ∀ nn os, (gx W nn os).cell? ⟨Bs, b, none⟩ = some (.int .u64 (r.getD b 0)) := fun nn os => cell_gx (a := ⟨Bs, b, none⟩) hS1.lt (hS1.reg hr b hb) nn os
  have rc : ∀ nn os, (gx W nn os).cell? ⟨Bs, z, none⟩ = some (.int .u64 (r.getD z 0)) := fun nn os => cell_gx (a := ⟨Bs, z, none⟩) hS1.lt (hS1.reg hr z hz) nn os
  have hai : (a : Int) < 16 := by omega
  have hbi : (b : Int) < 16 := by omega
  have hzi : (z : Int) < 16 := by omega
  have hpc := hS1.pc hr
  have hfz := hS1.froz 16
  have hBl := hS1.lt
  have HA := Lib.hid (Aft.of hS h hb1)
  clear h1 hS1 h hb1 hS
  go_enter Try.func18, Try.ntmps18
  go_wp2_with fail
  go_ret
  exact ⟨rfl, HA.out⟩
set_option maxRecDepth 100000 in
set_option maxHeartbeats 4000000 in
theorem do_nop (base Bb Bs : Nat) (n : Int) (a b z : Nat) (r : List Int) (pc : Int) (d : List UInt8) (ls : List (Nat × Bool)) (w : World) (ha : a < 16) (hb : b < 16) (hz : z < 16) (hk : okR r pc) (hS : StAt w Bs r pc) (hbB : base ≤ Bs) (h : BAt K w base Bb d ls) :
    Calls Try.prog 18 #[.pointer (some ⟨Bs, 0, none⟩), memV Bb, .agg #[.int .i64 1, .int .i64 a, .int .i64 b, .int .i64 z, .int .i64 n]] w fun e w' => e = .returned (.int .i64 0) ∧ Aft K base Bb Bs w r (nxI pc) d w' := by
  have hbs := size_of_blk h
  have hr := hk.1
  have hb1 : Below w.heap.size w (w.alloc (.cells #[.int .i64 1, .int .i64 a, .int .i64 b, .int .i64 z, .int .i64 n] 57)) := (Below.refl _ _).alloc (Nat.le_refl _) _
  obtain ⟨W, hW⟩ : ∃ W, w.alloc (.cells #[.int .i64 1, .int .i64 a, .int .i64 b, .int .i64 z, .int .i64 n] 57) = W := ⟨_, rfl⟩
  have hc : W.heap[w.heap.size]? = some (.cells #[.int .i64 1, .int .i64 a, .int .i64 b, .int .i64 z, .int .i64 n] 57 (0, 0)) := by rw [← hW]; exact heap_new _ _
  have hlt : w.heap.size < W.heap.size := (Array.getElem?_eq_some_iff.1 hc).1
  rw [hW] at hb1
  have hS1 := hS.below hb1
  have h1 := h.below hb1
  have q0 : ∀ nn os, (gx W nn os).cell? ⟨w.heap.size, 0, none⟩ = some (.int .i64 1) := fun nn os => cell_gx (a := ⟨w.heap.size, 0, none⟩) hlt (by simp [World.cell?, hc]) nn os
  have q1 : ∀ nn os, (gx W nn os).cell? ⟨w.heap.size, 1, none⟩ = some (.int .i64 a) := fun nn os => cell_gx (a := ⟨w.heap.size, 1, none⟩) hlt (by simp [World.cell?, hc]) nn os
  have q2 : ∀ nn os, (gx W nn os).cell? ⟨w.heap.size, 2, none⟩ = some (.int .i64 b) := fun nn os => cell_gx (a := ⟨w.heap.size, 2, none⟩) hlt (by simp [World.cell?, hc]) nn os
  have q3 : ∀ nn os, (gx W nn os).cell? ⟨w.heap.size, 3, none⟩ = some (.int .i64 z) := fun nn os => cell_gx (a := ⟨w.heap.size, 3, none⟩) hlt (by simp [World.cell?, hc]) nn os
  have q4 : ∀ nn os, (gx W nn os).cell? ⟨w.heap.size, 4, none⟩ = some (.int .i64 n) := fun nn os => cell_gx (a := ⟨w.heap.size, 4, none⟩) hlt (by simp [World.cell?, hc]) nn os
  have p0 : W.cell? ⟨w.heap.size, 0, none⟩ = some (.int .i64 1) := by simp [World.cell?, hc]
  have p1 : W.cell? ⟨w.heap.size, 1, none⟩ = some (.int .i64 a) := by simp [World.cell?, hc]
  have p2 : W.cell? ⟨w.heap.size, 2, none⟩ = some (.int .i64 b) := by simp [World.cell?, hc]
  have p3 : W.cell? ⟨w.heap.size, 3, none⟩ = some (.int .i64 z) := by simp [World.cell?, hc]
  have p4 : W.cell? ⟨w.heap.size, 4, none⟩ = some (.int .i64 n) := by simp [World.cell?, hc]
  have ra : ∀ nn os, (gx W nn os).cell? ⟨Bs, a, none⟩ = some (.int .u64 (r.getD a 0)) := fun nn os => cell_gx (a := ⟨Bs, a, none⟩) hS1.lt (hS1.reg hr a ha) nn os
  have rb : ∀ nn os, (gx W nn os).cell? ⟨Bs, b, none⟩ = some (.int .u64 (r.getD b 0)) := fun nn os => cell_gx (a := ⟨Bs, b, none⟩) hS1.lt (hS1.reg hr b hb) nn os
  have rc : ∀ nn os, (gx W nn os).cell? ⟨Bs, z, none⟩ = some (.int .u64 (r.getD z 0)) := fun nn os => cell_gx (a := ⟨Bs, z, none⟩) hS1.lt (hS1.reg hr z hz) nn os
  have hai : (a : Int) < 16 := by omega
  have hbi : (b : Int) < 16 := by omega
  have hzi : (z : Int) < 16 := by omega
  have hpc := hS1.pc hr
  have hfz := hS1.froz 16
  have hBl := hS1.lt
  have HA := Lib.hid (Aft.of hS h hb1)
  clear h1 hS1 h hb1 hS
  go_enter Try.func18, Try.ntmps18
  go_wp2_with fail
  go_ret
  exact ⟨rfl, HA.out.pc hr hbB _⟩
set_option maxRecDepth 100000 in
set_option maxHeartbeats 4000000 in
theorem do_sys (base Bb Bs : Nat) (n : Int) (a b z : Nat) (r : List Int) (pc : Int) (d : List UInt8) (ls : List (Nat × Bool)) (w : World) (ha : a < 16) (hb : b < 16) (hz : z < 16) (hk : okR r pc) (hS : StAt w Bs r pc) (hbB : base ≤ Bs) (h : BAt K w base Bb d ls) :
    Calls Try.prog 18 #[.pointer (some ⟨Bs, 0, none⟩), memV Bb, .agg #[.int .i64 2, .int .i64 a, .int .i64 b, .int .i64 z, .int .i64 n]] w fun e w' => e = .returned (.int .i64 1) ∧ Aft K base Bb Bs w r (nxI pc) d w' := by
  have hbs := size_of_blk h
  have hr := hk.1
  have hb1 : Below w.heap.size w (w.alloc (.cells #[.int .i64 2, .int .i64 a, .int .i64 b, .int .i64 z, .int .i64 n] 57)) := (Below.refl _ _).alloc (Nat.le_refl _) _
  obtain ⟨W, hW⟩ : ∃ W, w.alloc (.cells #[.int .i64 2, .int .i64 a, .int .i64 b, .int .i64 z, .int .i64 n] 57) = W := ⟨_, rfl⟩
  have hc : W.heap[w.heap.size]? = some (.cells #[.int .i64 2, .int .i64 a, .int .i64 b, .int .i64 z, .int .i64 n] 57 (0, 0)) := by rw [← hW]; exact heap_new _ _
  have hlt : w.heap.size < W.heap.size := (Array.getElem?_eq_some_iff.1 hc).1
  rw [hW] at hb1
  have hS1 := hS.below hb1
  have h1 := h.below hb1
  have q0 : ∀ nn os, (gx W nn os).cell? ⟨w.heap.size, 0, none⟩ = some (.int .i64 2) := fun nn os => cell_gx (a := ⟨w.heap.size, 0, none⟩) hlt (by simp [World.cell?, hc]) nn os
  have q1 : ∀ nn os, (gx W nn os).cell? ⟨w.heap.size, 1, none⟩ = some (.int .i64 a) := fun nn os => cell_gx (a := ⟨w.heap.size, 1, none⟩) hlt (by simp [World.cell?, hc]) nn os
  have q2 : ∀ nn os, (gx W nn os).cell? ⟨w.heap.size, 2, none⟩ = some (.int .i64 b) := fun nn os => cell_gx (a := ⟨w.heap.size, 2, none⟩) hlt (by simp [World.cell?, hc]) nn os
  have q3 : ∀ nn os, (gx W nn os).cell? ⟨w.heap.size, 3, none⟩ = some (.int .i64 z) := fun nn os => cell_gx (a := ⟨w.heap.size, 3, none⟩) hlt (by simp [World.cell?, hc]) nn os
  have q4 : ∀ nn os, (gx W nn os).cell? ⟨w.heap.size, 4, none⟩ = some (.int .i64 n) := fun nn os => cell_gx (a := ⟨w.heap.size, 4, none⟩) hlt (by simp [World.cell?, hc]) nn os
  have p0 : W.cell? ⟨w.heap.size, 0, none⟩ = some (.int .i64 2) := by simp [World.cell?, hc]
  have p1 : W.cell? ⟨w.heap.size, 1, none⟩ = some (.int .i64 a) := by simp [World.cell?, hc]
  have p2 : W.cell? ⟨w.heap.size, 2, none⟩ = some (.int .i64 b) := by simp [World.cell?, hc]
  have p3 : W.cell? ⟨w.heap.size, 3, none⟩ = some (.int .i64 z) := by simp [World.cell?, hc]
  have p4 : W.cell? ⟨w.heap.size, 4, none⟩ = some (.int .i64 n) := by simp [World.cell?, hc]
  have ra : ∀ nn os, (gx W nn os).cell? ⟨Bs, a, none⟩ = some (.int .u64 (r.getD a 0)) := fun nn os => cell_gx (a := ⟨Bs, a, none⟩) hS1.lt (hS1.reg hr a ha) nn os
  have rb : ∀ nn os, (gx W nn os).cell? ⟨Bs, b, none⟩ = some (.int .u64 (r.getD b 0)) := fun nn os => cell_gx (a := ⟨Bs, b, none⟩) hS1.lt (hS1.reg hr b hb) nn os
  have rc : ∀ nn os, (gx W nn os).cell? ⟨Bs, z, none⟩ = some (.int .u64 (r.getD z 0)) := fun nn os => cell_gx (a := ⟨Bs, z, none⟩) hS1.lt (hS1.reg hr z hz) nn os
  have hai : (a : Int) < 16 := by omega
  have hbi : (b : Int) < 16 := by omega
  have hzi : (z : Int) < 16 := by omega
  have hpc := hS1.pc hr
  have hfz := hS1.froz 16
  have hBl := hS1.lt
  have HA := Lib.hid (Aft.of hS h hb1)
  clear h1 hS1 h hb1 hS
  go_enter Try.func18, Try.ntmps18
  go_wp2_with fail
  go_ret
  exact ⟨rfl, HA.out.pc hr hbB _⟩
set_option maxRecDepth 100000 in
set_option maxHeartbeats 4000000 in
theorem do_back (base Bb Bs : Nat) (n : Int) (a b z : Nat) (r : List Int) (pc : Int) (d : List UInt8) (ls : List (Nat × Bool)) (w : World) (ha : a < 16) (hb : b < 16) (hz : z < 16) (hk : okR r pc) (hS : StAt w Bs r pc) (hbB : base ≤ Bs) (h : BAt K w base Bb d ls) :
    Calls Try.prog 18 #[.pointer (some ⟨Bs, 0, none⟩), memV Bb, .agg #[.int .i64 26, .int .i64 a, .int .i64 b, .int .i64 z, .int .i64 n]] w fun e w' => e = .returned (.int .i64 0) ∧ Aft K base Bb Bs w r (r.getD 15 0) d w' := by
  have hbs := size_of_blk h
  have hr := hk.1
  have hb1 : Below w.heap.size w (w.alloc (.cells #[.int .i64 26, .int .i64 a, .int .i64 b, .int .i64 z, .int .i64 n] 57)) := (Below.refl _ _).alloc (Nat.le_refl _) _
  obtain ⟨W, hW⟩ : ∃ W, w.alloc (.cells #[.int .i64 26, .int .i64 a, .int .i64 b, .int .i64 z, .int .i64 n] 57) = W := ⟨_, rfl⟩
  have hc : W.heap[w.heap.size]? = some (.cells #[.int .i64 26, .int .i64 a, .int .i64 b, .int .i64 z, .int .i64 n] 57 (0, 0)) := by rw [← hW]; exact heap_new _ _
  have hlt : w.heap.size < W.heap.size := (Array.getElem?_eq_some_iff.1 hc).1
  rw [hW] at hb1
  have hS1 := hS.below hb1
  have h1 := h.below hb1
  have q0 : ∀ nn os, (gx W nn os).cell? ⟨w.heap.size, 0, none⟩ = some (.int .i64 26) := fun nn os => cell_gx (a := ⟨w.heap.size, 0, none⟩) hlt (by simp [World.cell?, hc]) nn os
  have q1 : ∀ nn os, (gx W nn os).cell? ⟨w.heap.size, 1, none⟩ = some (.int .i64 a) := fun nn os => cell_gx (a := ⟨w.heap.size, 1, none⟩) hlt (by simp [World.cell?, hc]) nn os
  have q2 : ∀ nn os, (gx W nn os).cell? ⟨w.heap.size, 2, none⟩ = some (.int .i64 b) := fun nn os => cell_gx (a := ⟨w.heap.size, 2, none⟩) hlt (by simp [World.cell?, hc]) nn os
  have q3 : ∀ nn os, (gx W nn os).cell? ⟨w.heap.size, 3, none⟩ = some (.int .i64 z) := fun nn os => cell_gx (a := ⟨w.heap.size, 3, none⟩) hlt (by simp [World.cell?, hc]) nn os
  have q4 : ∀ nn os, (gx W nn os).cell? ⟨w.heap.size, 4, none⟩ = some (.int .i64 n) := fun nn os => cell_gx (a := ⟨w.heap.size, 4, none⟩) hlt (by simp [World.cell?, hc]) nn os
  have p0 : W.cell? ⟨w.heap.size, 0, none⟩ = some (.int .i64 26) := by simp [World.cell?, hc]
  have p1 : W.cell? ⟨w.heap.size, 1, none⟩ = some (.int .i64 a) := by simp [World.cell?, hc]
  have p2 : W.cell? ⟨w.heap.size, 2, none⟩ = some (.int .i64 b) := by simp [World.cell?, hc]
  have p3 : W.cell? ⟨w.heap.size, 3, none⟩ = some (.int .i64 z) := by simp [World.cell?, hc]
  have p4 : W.cell? ⟨w.heap.size, 4, none⟩ = some (.int .i64 n) := by simp [World.cell?, hc]
  have ra : ∀ nn os, (gx W nn os).cell? ⟨Bs, a, none⟩ = some (.int .u64 (r.getD a 0)) := fun nn os => cell_gx (a := ⟨Bs, a, none⟩) hS1.lt (hS1.reg hr a ha) nn os
  have rb : ∀ nn os, (gx W nn os).cell? ⟨Bs, b, none⟩ = some (.int .u64 (r.getD b 0)) := fun nn os => cell_gx (a := ⟨Bs, b, none⟩) hS1.lt (hS1.reg hr b hb) nn os
  have rc : ∀ nn os, (gx W nn os).cell? ⟨Bs, z, none⟩ = some (.int .u64 (r.getD z 0)) := fun nn os => cell_gx (a := ⟨Bs, z, none⟩) hS1.lt (hS1.reg hr z hz) nn os
  have hai : (a : Int) < 16 := by omega
  have hbi : (b : Int) < 16 := by omega
  have hzi : (z : Int) < 16 := by omega
  have hpc := hS1.pc hr
  have hfz := hS1.froz 16
  have hBl := hS1.lt
  have HA := Lib.hid (Aft.of hS h hb1)
  have r15 := hS1.reg hr 15 (by omega)
  clear h1 hS1 h hb1 hS
  generalize r.getD 15 0 = x15 at *
  go_enter Try.func18, Try.ntmps18
  go_wp2_with fail
  go_ret
  exact ⟨rfl, HA.out.pc hr hbB _⟩
end Go.Proofs.Ytblhikmhmnkclaa
