/- What pack of package isa answers, for every instruction. -/
import Derived.Test.YtgldkmabhmlijaaDoorRight
import Derived.Test.YtgldkmabhmlijaaDoorTail
namespace Go.Proofs.YtgldkmabhmlijaaDoor
open Go.RowKit Go.Sort
abbrev Q4 := Int × Int × Int × Int
def pkW (c : Cod) (w : Int) (r : Q4) : Q4 :=
  if w = 1 then (r.1, c.a % 256, r.2.2.1, r.2.2.2)
  else if w = 2 then (r.1, r.2.1, c.b % 256, r.2.2.2)
  else if w = 3 then (r.1, r.2.1, r.2.2.1, c.c % 256)
  else if w = 4 then (r.1, r.2.1, r.2.2.1, c.n % 256)
  else if w = 5 ∨ w = 6 then (r.1, r.2.1, c.n % 256, c.n / 256 % 256) else r
def pk (c : Cod) (s : Nat) : Nat → Q4
  | 0 => (c.op % 256, 0, 0, 0)
  | k + 1 => pkW c (wd s k) (pk c s k)
def qv (q : Q4) : Value := .agg #[.int .u8 q.1, .int .u8 q.2.1, .int .u8 q.2.2.1, .int .u8 q.2.2.2]
/-- The four bytes of an instruction. -/
def bytesC (c : Cod) : Q4 := pk c (sh c.op) 3
def At4 (W : World) (B : Nat) (r : Q4) : Prop := B < W.heap.size ∧ (W.cell? ⟨B, 0, none⟩ = some (.int .u8 r.1) ∧ W.cell? ⟨B, 1, none⟩ = some (.int .u8 r.2.1) ∧ W.cell? ⟨B, 2, none⟩ = some (.int .u8 r.2.2.1) ∧ W.cell? ⟨B, 3, none⟩ = some (.int .u8 r.2.2.2)) ∧ ∀ o, W.frozen? ⟨B, o, none⟩ = false
theorem At4.below {W W' : World} {B n : Nat} {c : Q4} (h : At4 W B c) (hb : Below n W W') (hB : B < n) : At4 W' B c :=
  ⟨Nat.lt_of_lt_of_le h.1 hb.size, ⟨(hb.cell (p := ⟨B, 0, none⟩) hB).trans h.2.1.1, (hb.cell (p := ⟨B, 1, none⟩) hB).trans h.2.1.2.1, (hb.cell (p := ⟨B, 2, none⟩) hB).trans h.2.1.2.2.1, (hb.cell (p := ⟨B, 3, none⟩) hB).trans h.2.1.2.2.2⟩, fun o => (hb.frozen (p := ⟨B, o, none⟩) hB).trans (h.2.2 o)⟩
theorem At4.new (W : World) (c : Q4) (t : TypeId) : At4 (W.alloc (.cells #[.int .u8 c.1, .int .u8 c.2.1, .int .u8 c.2.2.1, .int .u8 c.2.2.2] t)) W.heap.size c :=
  ⟨by simp, ⟨by simp [go_sem], by simp [go_sem], by simp [go_sem], by simp [go_sem]⟩, fun o => by simp [go_sem]⟩
theorem At4.set1 {W : World} {B : Nat} {r : Q4} (h : At4 W B r) (x : Int) : At4 (W.setCell ⟨B, 1, none⟩ (.int .u8 x)) B (r.1, x, r.2.2.1, r.2.2.2) :=
  ⟨by simpa using h.1, ⟨cell_set_off h.2.1.1 (by decide), cell_set h.2.1.2.1, cell_set_off h.2.1.2.2.1 (by decide), cell_set_off h.2.1.2.2.2 (by decide)⟩, fun o => by rw [World.frozen?_setCell]; exact h.2.2 o⟩
theorem At4.set2 {W : World} {B : Nat} {r : Q4} (h : At4 W B r) (x : Int) : At4 (W.setCell ⟨B, 2, none⟩ (.int .u8 x)) B (r.1, r.2.1, x, r.2.2.2) :=
  ⟨by simpa using h.1, ⟨cell_set_off h.2.1.1 (by decide), cell_set_off h.2.1.2.1 (by decide), cell_set h.2.1.2.2.1, cell_set_off h.2.1.2.2.2 (by decide)⟩, fun o => by rw [World.frozen?_setCell]; exact h.2.2 o⟩
theorem At4.set3 {W : World} {B : Nat} {r : Q4} (h : At4 W B r) (x : Int) : At4 (W.setCell ⟨B, 3, none⟩ (.int .u8 x)) B (r.1, r.2.1, r.2.2.1, x) :=
  ⟨by simpa using h.1, ⟨cell_set_off h.2.1.1 (by decide), cell_set_off h.2.1.2.1 (by decide), cell_set_off h.2.1.2.2.1 (by decide), cell_set h.2.1.2.2.2⟩, fun o => by rw [World.frozen?_setCell]; exact h.2.2 o⟩
theorem idx3 (s k : Nat) (h : k < 3) (w : World) : (Instr.index 48 (.agg #[.int .i64 (wd s 0), .int .i64 (wd s 1), .int .i64 (wd s 2)]) (.int .i64 k)).run Tryd.prog w = .ok (.int .i64 (wd s k)) w := by
  rcases (show k = 0 ∨ k = 1 ∨ k = 2 by omega) with rfl | rfl | rfl <;> kernel_rfl
set_option maxRecDepth 100000 in
set_option maxHeartbeats 4000000 in
theorem pack_any (c : Cod) (w : World) : Calls Tryd.prog 13 #[c.v] w fun e w' => e = .returned (qv (bytesC c)) ∧ Below w.heap.size w w' := by
  obtain ⟨s, hs⟩ : ∃ s, s = sh c.op := ⟨_, rfl⟩
  have HQ : Hid (bytesC c = pk c s 3) := by rw [hs]; rfl
  have HS := Lib.hid (shapeOf_any c.op)
  rw [← hs] at HS
  clear hs
  unfold Cod.v
  go_enter Tryd.func13, Tryd.ntmps13
  go_wp2_with (first | (go_at_call 14; refine (HS.out _).mono ?_; rintro e w1 ⟨rfl, hb1⟩; refine Hid.out ?_))
  refine Lib.hid ?_
  have hz1 : w.heap.size + 3 ≤ w1.heap.size := by have := hb1.size; simpa using this
  have hB1 : Below w.heap.size w w1 := (((((Below.refl _ w).alloc (Nat.le_refl _) _).alloc (by simp) _)).alloc (by simp; omega) _).trans (hb1.mono (by simp; omega))
  have k1 : At5 w1 w.heap.size c := (((At5.new w c _).below ((Below.refl _ _).alloc (Nat.le_refl _) _) (by simp)).below ((Below.refl _ _).alloc (Nat.le_refl _) _) (by simp; omega)).below hb1 (by simp; omega)
  have k2 : At4 w1 (w.heap.size + 1) (0, 0, 0, 0) := by
    have := (At4.new (w.alloc (.cells #[.int .i64 c.op, .int .i64 c.a, .int .i64 c.b, .int .i64 c.c, .int .i64 c.n] 25)) (0, 0, 0, 0) 42)
    rw [World.size_alloc] at this
    exact (this.below ((Below.refl _ _).alloc (Nat.le_refl _) _) (by simp)).below hb1 (by simp)
  have k3 : At4 w1 (w.heap.size + 2) (c.op % 256, 0, 0, 0) := by
    have := (At4.new ((w.alloc (.cells #[.int .i64 c.op, .int .i64 c.a, .int .i64 c.b, .int .i64 c.c, .int .i64 c.n] 25)).alloc (.cells #[.int .u8 0, .int .u8 0, .int .u8 0, .int .u8 0] 42)) (c.op % 256, 0, 0, 0) 42)
    rw [World.size_alloc, World.size_alloc] at this
    exact this.below hb1 (by simp)
  clear hb1
  go_wp2_with fail
  go_loopw [16] (fun i wr => ∃ k : Nat, k ≤ 3 ∧ i = .int .i64 k ∧ At5 wr w.heap.size c ∧ At4 wr (w.heap.size + 1) (0, 0, 0, 0) ∧ At4 wr (w.heap.size + 2) (pk c s k) ∧ Below w.heap.size w wr ∧ w.heap.size + 3 ≤ wr.heap.size) (fun i _ => 3 - (intOf i).toNat)
  case atStart => exact ⟨0, by omega, rfl, k1, k2, k3, hB1, hz1⟩
  case round =>
    clear k1 k2 k3 hB1 hz1
    obtain ⟨k, hk, rfl, h5, h4, hr, hB, hz⟩ := hrel
    by_cases hlt : k < 3
    · have hki : (k : Int) < 3 := by omega
      have ik := idx3 s k hlt
      have HP : Hid (pk c s (k + 1) = pkW c (wd s k) (pk c s k)) := rfl
      have hl := wd_lim s k
      generalize pk c s k = r at hr HP
      generalize wd s k = v at ik HP hl
      rcases w_cases hl with rfl | rfl | rfl | rfl | rfl | rfl | rfl
      · have HPl : Hid (∀ w, Calls Tryd.prog 27 #[.int .i64 0] w fun e w' => e = .returned (.tuple #[.int .i64 0, .int .i64 0]) ∧ w' = w) := fun w => place_any 0 w hl
        have HP' : Hid (pk c s (k + 1) = (r.1, r.2.1, r.2.2.1, r.2.2.2)) := by simp only [Hid]; rw [HP.out]; simp [pkW]
        clear HP
        go_wp2_with (first | (go_at_call 27; refine (HPl.out _).mono ?_; rintro e w' ⟨rfl, hw'⟩; rw [hw']; clear hw' w'))
        go_loopw [25] (fun i wr => ∃ j : Nat, j ≤ 0 ∧ i = .int .i64 j ∧ At5 wr w.heap.size c ∧ At4 wr (w.heap.size + 1) (0, 0, 0, 0) ∧ (j = 0 → At4 wr (w.heap.size + 2) (r.1, r.2.1, r.2.2.1, r.2.2.2)) ∧ Below w.heap.size w wr ∧ w.heap.size + 3 ≤ wr.heap.size) (fun i _ => 0 - (intOf i).toNat)
        case atStart => exact ⟨0, by omega, rfl, h5, h4, (fun h => hr), hB, hz⟩
        case round =>
          clear h5 h4 hr hB hz
          obtain ⟨j, hj, rfl, h5, h4, g0, hB, hz⟩ := hrel
          have hB' := Lib.hid hB
          clear hB
          rcases (show j = 0 by omega) with rfl
          · have hr0 := g0 rfl
            rw [← HP'.out] at hr0
            have H5 := Lib.hid h5
            have H4 := Lib.hid h4
            have HR := Lib.hid hr0
            clear h5 h4 hr0 g0
            go_wp2
            go_roundw
            case rel => exact ⟨k + 1, by omega, by go_num, H5.out, H4.out, HR.out, hB'.out, hz⟩
            case measure => simp [intOf]; omega
      · have HPl : Hid (∀ w, Calls Tryd.prog 27 #[.int .i64 1] w fun e w' => e = .returned (.tuple #[.int .i64 1, .int .i64 1]) ∧ w' = w) := fun w => place_any 1 w hl
        have HP' : Hid (pk c s (k + 1) = (r.1, c.a % 256, r.2.2.1, r.2.2.2)) := by simp only [Hid]; rw [HP.out]; simp [pkW]
        clear HP
        go_wp2_with (first | (go_at_call 27; refine (HPl.out _).mono ?_; rintro e w' ⟨rfl, hw'⟩; rw [hw']; clear hw' w'))
        go_loopw [25] (fun i wr => ∃ j : Nat, j ≤ 1 ∧ i = .int .i64 j ∧ At5 wr w.heap.size c ∧ At4 wr (w.heap.size + 1) (0, 0, 0, 0) ∧ (j = 0 → At4 wr (w.heap.size + 2) (r.1, r.2.1, r.2.2.1, r.2.2.2)) ∧ (j = 1 → At4 wr (w.heap.size + 2) (r.1, c.a % 256, r.2.2.1, r.2.2.2)) ∧ Below w.heap.size w wr ∧ w.heap.size + 3 ≤ wr.heap.size) (fun i _ => 1 - (intOf i).toNat)
        case atStart => exact ⟨0, by omega, rfl, h5, h4, (fun h => hr), (fun h => by omega), hB, hz⟩
        case round =>
          clear h5 h4 hr hB hz
          obtain ⟨j, hj, rfl, h5, h4, g0, g1, hB, hz⟩ := hrel
          have hB' := Lib.hid hB
          clear hB
          rcases (show j = 0 ∨ j = 1 by omega) with rfl | rfl
          · obtain ⟨kl, ⟨a0, a1, a2, a3, a4⟩, af⟩ := h5
            obtain ⟨rl, ⟨b0, b1, b2, b3⟩, bf⟩ := g0 rfl
            clear g0 g1
            go_wp2
            go_roundw
            case rel =>
              have hr0 : At4 wr (w.heap.size + 2) (r.1, r.2.1, r.2.2.1, r.2.2.2) := ⟨rl, ⟨b0, b1, b2, b3⟩, bf⟩
              have h50 : At5 wr w.heap.size c := ⟨kl, ⟨a0, a1, a2, a3, a4⟩, af⟩
              have hbs : Below (w.heap.size + 2) wr (wr.setCell ⟨w.heap.size + 2, 1, none⟩ (.int .u8 (c.a % 256))) := (Below.refl _ _).setCell (p := ⟨w.heap.size + 2, 1, none⟩) (Nat.le_refl _) _
              have hba : Below wr.heap.size (wr.setCell ⟨w.heap.size + 2, 1, none⟩ (.int .u8 (c.a % 256))) ((wr.setCell ⟨w.heap.size + 2, 1, none⟩ (.int .u8 (c.a % 256))).alloc (.cells #[.int .i64 c.op, .int .i64 c.a, .int .i64 c.b, .int .i64 c.c, .int .i64 c.n] 25)) := (Below.refl _ _).alloc (by simp) _
              exact ⟨1, by omega, rfl, (h50.below hbs (by omega)).below hba kl, (h4.below hbs (by omega)).below hba (by omega), (fun h => by omega), (fun h => (hr0.set1 _).below hba rl), (hB'.out.trans (hbs.mono (by omega))).trans (hba.mono (by omega)), by simp; omega⟩
            case measure => simp [intOf]
          · have hr0 := g1 rfl
            rw [← HP'.out] at hr0
            have H5 := Lib.hid h5
            have H4 := Lib.hid h4
            have HR := Lib.hid hr0
            clear h5 h4 hr0 g0 g1
            go_wp2
            go_roundw
            case rel => exact ⟨k + 1, by omega, by go_num, H5.out, H4.out, HR.out, hB'.out, hz⟩
            case measure => simp [intOf]; omega
      · have HPl : Hid (∀ w, Calls Tryd.prog 27 #[.int .i64 2] w fun e w' => e = .returned (.tuple #[.int .i64 2, .int .i64 1]) ∧ w' = w) := fun w => place_any 2 w hl
        have HP' : Hid (pk c s (k + 1) = (r.1, r.2.1, c.b % 256, r.2.2.2)) := by simp only [Hid]; rw [HP.out]; simp [pkW]
        clear HP
        go_wp2_with (first | (go_at_call 27; refine (HPl.out _).mono ?_; rintro e w' ⟨rfl, hw'⟩; rw [hw']; clear hw' w'))
        go_loopw [25] (fun i wr => ∃ j : Nat, j ≤ 1 ∧ i = .int .i64 j ∧ At5 wr w.heap.size c ∧ At4 wr (w.heap.size + 1) (0, 0, 0, 0) ∧ (j = 0 → At4 wr (w.heap.size + 2) (r.1, r.2.1, r.2.2.1, r.2.2.2)) ∧ (j = 1 → At4 wr (w.heap.size + 2) (r.1, r.2.1, c.b % 256, r.2.2.2)) ∧ Below w.heap.size w wr ∧ w.heap.size + 3 ≤ wr.heap.size) (fun i _ => 1 - (intOf i).toNat)
        case atStart => exact ⟨0, by omega, rfl, h5, h4, (fun h => hr), (fun h => by omega), hB, hz⟩
        case round =>
          clear h5 h4 hr hB hz
          obtain ⟨j, hj, rfl, h5, h4, g0, g1, hB, hz⟩ := hrel
          have hB' := Lib.hid hB
          clear hB
          rcases (show j = 0 ∨ j = 1 by omega) with rfl | rfl
          · obtain ⟨kl, ⟨a0, a1, a2, a3, a4⟩, af⟩ := h5
            obtain ⟨rl, ⟨b0, b1, b2, b3⟩, bf⟩ := g0 rfl
            clear g0 g1
            go_wp2
            go_roundw
            case rel =>
              have hr0 : At4 wr (w.heap.size + 2) (r.1, r.2.1, r.2.2.1, r.2.2.2) := ⟨rl, ⟨b0, b1, b2, b3⟩, bf⟩
              have h50 : At5 wr w.heap.size c := ⟨kl, ⟨a0, a1, a2, a3, a4⟩, af⟩
              have hbs : Below (w.heap.size + 2) wr (wr.setCell ⟨w.heap.size + 2, 2, none⟩ (.int .u8 (c.b % 256))) := (Below.refl _ _).setCell (p := ⟨w.heap.size + 2, 2, none⟩) (Nat.le_refl _) _
              have hba : Below wr.heap.size (wr.setCell ⟨w.heap.size + 2, 2, none⟩ (.int .u8 (c.b % 256))) ((wr.setCell ⟨w.heap.size + 2, 2, none⟩ (.int .u8 (c.b % 256))).alloc (.cells #[.int .i64 c.op, .int .i64 c.a, .int .i64 c.b, .int .i64 c.c, .int .i64 c.n] 25)) := (Below.refl _ _).alloc (by simp) _
              exact ⟨1, by omega, rfl, (h50.below hbs (by omega)).below hba kl, (h4.below hbs (by omega)).below hba (by omega), (fun h => by omega), (fun h => (hr0.set2 _).below hba rl), (hB'.out.trans (hbs.mono (by omega))).trans (hba.mono (by omega)), by simp; omega⟩
            case measure => simp [intOf]
          · have hr0 := g1 rfl
            rw [← HP'.out] at hr0
            have H5 := Lib.hid h5
            have H4 := Lib.hid h4
            have HR := Lib.hid hr0
            clear h5 h4 hr0 g0 g1
            go_wp2
            go_roundw
            case rel => exact ⟨k + 1, by omega, by go_num, H5.out, H4.out, HR.out, hB'.out, hz⟩
            case measure => simp [intOf]; omega
      · have HPl : Hid (∀ w, Calls Tryd.prog 27 #[.int .i64 3] w fun e w' => e = .returned (.tuple #[.int .i64 3, .int .i64 1]) ∧ w' = w) := fun w => place_any 3 w hl
        have HP' : Hid (pk c s (k + 1) = (r.1, r.2.1, r.2.2.1, c.c % 256)) := by simp only [Hid]; rw [HP.out]; simp [pkW]
        clear HP
        go_wp2_with (first | (go_at_call 27; refine (HPl.out _).mono ?_; rintro e w' ⟨rfl, hw'⟩; rw [hw']; clear hw' w'))
        go_loopw [25] (fun i wr => ∃ j : Nat, j ≤ 1 ∧ i = .int .i64 j ∧ At5 wr w.heap.size c ∧ At4 wr (w.heap.size + 1) (0, 0, 0, 0) ∧ (j = 0 → At4 wr (w.heap.size + 2) (r.1, r.2.1, r.2.2.1, r.2.2.2)) ∧ (j = 1 → At4 wr (w.heap.size + 2) (r.1, r.2.1, r.2.2.1, c.c % 256)) ∧ Below w.heap.size w wr ∧ w.heap.size + 3 ≤ wr.heap.size) (fun i _ => 1 - (intOf i).toNat)
        case atStart => exact ⟨0, by omega, rfl, h5, h4, (fun h => hr), (fun h => by omega), hB, hz⟩
        case round =>
          clear h5 h4 hr hB hz
          obtain ⟨j, hj, rfl, h5, h4, g0, g1, hB, hz⟩ := hrel
          have hB' := Lib.hid hB
          clear hB
          rcases (show j = 0 ∨ j = 1 by omega) with rfl | rfl
          · obtain ⟨kl, ⟨a0, a1, a2, a3, a4⟩, af⟩ := h5
            obtain ⟨rl, ⟨b0, b1, b2, b3⟩, bf⟩ := g0 rfl
            clear g0 g1
            go_wp2
            go_roundw
            case rel =>
              have hr0 : At4 wr (w.heap.size + 2) (r.1, r.2.1, r.2.2.1, r.2.2.2) := ⟨rl, ⟨b0, b1, b2, b3⟩, bf⟩
              have h50 : At5 wr w.heap.size c := ⟨kl, ⟨a0, a1, a2, a3, a4⟩, af⟩
              have hbs : Below (w.heap.size + 2) wr (wr.setCell ⟨w.heap.size + 2, 3, none⟩ (.int .u8 (c.c % 256))) := (Below.refl _ _).setCell (p := ⟨w.heap.size + 2, 3, none⟩) (Nat.le_refl _) _
              have hba : Below wr.heap.size (wr.setCell ⟨w.heap.size + 2, 3, none⟩ (.int .u8 (c.c % 256))) ((wr.setCell ⟨w.heap.size + 2, 3, none⟩ (.int .u8 (c.c % 256))).alloc (.cells #[.int .i64 c.op, .int .i64 c.a, .int .i64 c.b, .int .i64 c.c, .int .i64 c.n] 25)) := (Below.refl _ _).alloc (by simp) _
              exact ⟨1, by omega, rfl, (h50.below hbs (by omega)).below hba kl, (h4.below hbs (by omega)).below hba (by omega), (fun h => by omega), (fun h => (hr0.set3 _).below hba rl), (hB'.out.trans (hbs.mono (by omega))).trans (hba.mono (by omega)), by simp; omega⟩
            case measure => simp [intOf]
          · have hr0 := g1 rfl
            rw [← HP'.out] at hr0
            have H5 := Lib.hid h5
            have H4 := Lib.hid h4
            have HR := Lib.hid hr0
            clear h5 h4 hr0 g0 g1
            go_wp2
            go_roundw
            case rel => exact ⟨k + 1, by omega, by go_num, H5.out, H4.out, HR.out, hB'.out, hz⟩
            case measure => simp [intOf]; omega
      · have HPl : Hid (∀ w, Calls Tryd.prog 27 #[.int .i64 4] w fun e w' => e = .returned (.tuple #[.int .i64 3, .int .i64 1]) ∧ w' = w) := fun w => place_any 4 w hl
        have HP' : Hid (pk c s (k + 1) = (r.1, r.2.1, r.2.2.1, c.n % 256)) := by simp only [Hid]; rw [HP.out]; simp [pkW]
        clear HP
        go_wp2_with (first | (go_at_call 27; refine (HPl.out _).mono ?_; rintro e w' ⟨rfl, hw'⟩; rw [hw']; clear hw' w'))
        go_loopw [25] (fun i wr => ∃ j : Nat, j ≤ 1 ∧ i = .int .i64 j ∧ At5 wr w.heap.size c ∧ At4 wr (w.heap.size + 1) (0, 0, 0, 0) ∧ (j = 0 → At4 wr (w.heap.size + 2) (r.1, r.2.1, r.2.2.1, r.2.2.2)) ∧ (j = 1 → At4 wr (w.heap.size + 2) (r.1, r.2.1, r.2.2.1, c.n % 256)) ∧ Below w.heap.size w wr ∧ w.heap.size + 3 ≤ wr.heap.size) (fun i _ => 1 - (intOf i).toNat)
        case atStart => exact ⟨0, by omega, rfl, h5, h4, (fun h => hr), (fun h => by omega), hB, hz⟩
        case round =>
          clear h5 h4 hr hB hz
          obtain ⟨j, hj, rfl, h5, h4, g0, g1, hB, hz⟩ := hrel
          have hB' := Lib.hid hB
          clear hB
          rcases (show j = 0 ∨ j = 1 by omega) with rfl | rfl
          · obtain ⟨kl, ⟨a0, a1, a2, a3, a4⟩, af⟩ := h5
            obtain ⟨rl, ⟨b0, b1, b2, b3⟩, bf⟩ := g0 rfl
            clear g0 g1
            go_wp2
            go_roundw
            case rel =>
              have hr0 : At4 wr (w.heap.size + 2) (r.1, r.2.1, r.2.2.1, r.2.2.2) := ⟨rl, ⟨b0, b1, b2, b3⟩, bf⟩
              have h50 : At5 wr w.heap.size c := ⟨kl, ⟨a0, a1, a2, a3, a4⟩, af⟩
              have hbs : Below (w.heap.size + 2) wr (wr.setCell ⟨w.heap.size + 2, 3, none⟩ (.int .u8 (c.n % 256))) := (Below.refl _ _).setCell (p := ⟨w.heap.size + 2, 3, none⟩) (Nat.le_refl _) _
              have hba : Below wr.heap.size (wr.setCell ⟨w.heap.size + 2, 3, none⟩ (.int .u8 (c.n % 256))) ((wr.setCell ⟨w.heap.size + 2, 3, none⟩ (.int .u8 (c.n % 256))).alloc (.cells #[.int .i64 c.op, .int .i64 c.a, .int .i64 c.b, .int .i64 c.c, .int .i64 c.n] 25)) := (Below.refl _ _).alloc (by simp) _
              exact ⟨1, by omega, rfl, (h50.below hbs (by omega)).below hba kl, (h4.below hbs (by omega)).below hba (by omega), (fun h => by omega), (fun h => (hr0.set3 _).below hba rl), (hB'.out.trans (hbs.mono (by omega))).trans (hba.mono (by omega)), by simp; omega⟩
            case measure => simp [intOf]
          · have hr0 := g1 rfl
            rw [← HP'.out] at hr0
            have H5 := Lib.hid h5
            have H4 := Lib.hid h4
            have HR := Lib.hid hr0
            clear h5 h4 hr0 g0 g1
            go_wp2
            go_roundw
            case rel => exact ⟨k + 1, by omega, by go_num, H5.out, H4.out, HR.out, hB'.out, hz⟩
            case measure => simp [intOf]; omega
      · have HPl : Hid (∀ w, Calls Tryd.prog 27 #[.int .i64 5] w fun e w' => e = .returned (.tuple #[.int .i64 2, .int .i64 2]) ∧ w' = w) := fun w => place_any 5 w hl
        have HP' : Hid (pk c s (k + 1) = (r.1, r.2.1, c.n % 256, c.n / 256 % 256)) := by simp only [Hid]; rw [HP.out]; simp [pkW]
        clear HP
        go_wp2_with (first | (go_at_call 27; refine (HPl.out _).mono ?_; rintro e w' ⟨rfl, hw'⟩; rw [hw']; clear hw' w'))
        go_loopw [25] (fun i wr => ∃ j : Nat, j ≤ 2 ∧ i = .int .i64 j ∧ At5 wr w.heap.size c ∧ At4 wr (w.heap.size + 1) (0, 0, 0, 0) ∧ (j = 0 → At4 wr (w.heap.size + 2) (r.1, r.2.1, r.2.2.1, r.2.2.2)) ∧ (j = 1 → At4 wr (w.heap.size + 2) (r.1, r.2.1, c.n % 256, r.2.2.2)) ∧ (j = 2 → At4 wr (w.heap.size + 2) (r.1, r.2.1, c.n % 256, c.n / 256 % 256)) ∧ Below w.heap.size w wr ∧ w.heap.size + 3 ≤ wr.heap.size) (fun i _ => 2 - (intOf i).toNat)
        case atStart => exact ⟨0, by omega, rfl, h5, h4, (fun h => hr), (fun h => by omega), (fun h => by omega), hB, hz⟩
        case round =>
          clear h5 h4 hr hB hz
          obtain ⟨j, hj, rfl, h5, h4, g0, g1, g2, hB, hz⟩ := hrel
          have hB' := Lib.hid hB
          clear hB
          rcases (show j = 0 ∨ j = 1 ∨ j = 2 by omega) with rfl | rfl | rfl
          · obtain ⟨kl, ⟨a0, a1, a2, a3, a4⟩, af⟩ := h5
            obtain ⟨rl, ⟨b0, b1, b2, b3⟩, bf⟩ := g0 rfl
            clear g0 g1 g2
            go_wp2
            go_roundw
            case rel =>
              have hr0 : At4 wr (w.heap.size + 2) (r.1, r.2.1, r.2.2.1, r.2.2.2) := ⟨rl, ⟨b0, b1, b2, b3⟩, bf⟩
              have h50 : At5 wr w.heap.size c := ⟨kl, ⟨a0, a1, a2, a3, a4⟩, af⟩
              have hbs : Below (w.heap.size + 2) wr (wr.setCell ⟨w.heap.size + 2, 2, none⟩ (.int .u8 (c.n % 256))) := (Below.refl _ _).setCell (p := ⟨w.heap.size + 2, 2, none⟩) (Nat.le_refl _) _
              have hba : Below wr.heap.size (wr.setCell ⟨w.heap.size + 2, 2, none⟩ (.int .u8 (c.n % 256))) ((wr.setCell ⟨w.heap.size + 2, 2, none⟩ (.int .u8 (c.n % 256))).alloc (.cells #[.int .i64 c.op, .int .i64 c.a, .int .i64 c.b, .int .i64 c.c, .int .i64 c.n] 25)) := (Below.refl _ _).alloc (by simp) _
              exact ⟨1, by omega, rfl, (h50.below hbs (by omega)).below hba kl, (h4.below hbs (by omega)).below hba (by omega), (fun h => by omega), (fun h => (hr0.set2 _).below hba rl), (fun h => by omega), (hB'.out.trans (hbs.mono (by omega))).trans (hba.mono (by omega)), by simp; omega⟩
            case measure => simp [intOf]
          · obtain ⟨kl, ⟨a0, a1, a2, a3, a4⟩, af⟩ := h5
            obtain ⟨rl, ⟨b0, b1, b2, b3⟩, bf⟩ := g1 rfl
            clear g0 g1 g2
            go_wp2
            go_roundw
            case rel =>
              have hr0 : At4 wr (w.heap.size + 2) (r.1, r.2.1, c.n % 256, r.2.2.2) := ⟨rl, ⟨b0, b1, b2, b3⟩, bf⟩
              have h50 : At5 wr w.heap.size c := ⟨kl, ⟨a0, a1, a2, a3, a4⟩, af⟩
              have hbs : Below (w.heap.size + 2) wr (wr.setCell ⟨w.heap.size + 2, 3, none⟩ (.int .u8 (c.n / 256 % 256))) := (Below.refl _ _).setCell (p := ⟨w.heap.size + 2, 3, none⟩) (Nat.le_refl _) _
              have hba : Below wr.heap.size (wr.setCell ⟨w.heap.size + 2, 3, none⟩ (.int .u8 (c.n / 256 % 256))) ((wr.setCell ⟨w.heap.size + 2, 3, none⟩ (.int .u8 (c.n / 256 % 256))).alloc (.cells #[.int .i64 c.op, .int .i64 c.a, .int .i64 c.b, .int .i64 c.c, .int .i64 c.n] 25)) := (Below.refl _ _).alloc (by simp) _
              exact ⟨2, by omega, rfl, (h50.below hbs (by omega)).below hba kl, (h4.below hbs (by omega)).below hba (by omega), (fun h => by omega), (fun h => by omega), (fun h => (hr0.set3 _).below hba rl), (hB'.out.trans (hbs.mono (by omega))).trans (hba.mono (by omega)), by simp; omega⟩
            case measure => simp [intOf]
          · have hr0 := g2 rfl
            rw [← HP'.out] at hr0
            have H5 := Lib.hid h5
            have H4 := Lib.hid h4
            have HR := Lib.hid hr0
            clear h5 h4 hr0 g0 g1 g2
            go_wp2
            go_roundw
            case rel => exact ⟨k + 1, by omega, by go_num, H5.out, H4.out, HR.out, hB'.out, hz⟩
            case measure => simp [intOf]; omega
      · have HPl : Hid (∀ w, Calls Tryd.prog 27 #[.int .i64 6] w fun e w' => e = .returned (.tuple #[.int .i64 2, .int .i64 2]) ∧ w' = w) := fun w => place_any 6 w hl
        have HP' : Hid (pk c s (k + 1) = (r.1, r.2.1, c.n % 256, c.n / 256 % 256)) := by simp only [Hid]; rw [HP.out]; simp [pkW]
        clear HP
        go_wp2_with (first | (go_at_call 27; refine (HPl.out _).mono ?_; rintro e w' ⟨rfl, hw'⟩; rw [hw']; clear hw' w'))
        go_loopw [25] (fun i wr => ∃ j : Nat, j ≤ 2 ∧ i = .int .i64 j ∧ At5 wr w.heap.size c ∧ At4 wr (w.heap.size + 1) (0, 0, 0, 0) ∧ (j = 0 → At4 wr (w.heap.size + 2) (r.1, r.2.1, r.2.2.1, r.2.2.2)) ∧ (j = 1 → At4 wr (w.heap.size + 2) (r.1, r.2.1, c.n % 256, r.2.2.2)) ∧ (j = 2 → At4 wr (w.heap.size + 2) (r.1, r.2.1, c.n % 256, c.n / 256 % 256)) ∧ Below w.heap.size w wr ∧ w.heap.size + 3 ≤ wr.heap.size) (fun i _ => 2 - (intOf i).toNat)
        case atStart => exact ⟨0, by omega, rfl, h5, h4, (fun h => hr), (fun h => by omega), (fun h => by omega), hB, hz⟩
        case round =>
          clear h5 h4 hr hB hz
          obtain ⟨j, hj, rfl, h5, h4, g0, g1, g2, hB, hz⟩ := hrel
          have hB' := Lib.hid hB
          clear hB
          rcases (show j = 0 ∨ j = 1 ∨ j = 2 by omega) with rfl | rfl | rfl
          · obtain ⟨kl, ⟨a0, a1, a2, a3, a4⟩, af⟩ := h5
            obtain ⟨rl, ⟨b0, b1, b2, b3⟩, bf⟩ := g0 rfl
            clear g0 g1 g2
            go_wp2
            go_roundw
            case rel =>
              have hr0 : At4 wr (w.heap.size + 2) (r.1, r.2.1, r.2.2.1, r.2.2.2) := ⟨rl, ⟨b0, b1, b2, b3⟩, bf⟩
              have h50 : At5 wr w.heap.size c := ⟨kl, ⟨a0, a1, a2, a3, a4⟩, af⟩
              have hbs : Below (w.heap.size + 2) wr (wr.setCell ⟨w.heap.size + 2, 2, none⟩ (.int .u8 (c.n % 256))) := (Below.refl _ _).setCell (p := ⟨w.heap.size + 2, 2, none⟩) (Nat.le_refl _) _
              have hba : Below wr.heap.size (wr.setCell ⟨w.heap.size + 2, 2, none⟩ (.int .u8 (c.n % 256))) ((wr.setCell ⟨w.heap.size + 2, 2, none⟩ (.int .u8 (c.n % 256))).alloc (.cells #[.int .i64 c.op, .int .i64 c.a, .int .i64 c.b, .int .i64 c.c, .int .i64 c.n] 25)) := (Below.refl _ _).alloc (by simp) _
              exact ⟨1, by omega, rfl, (h50.below hbs (by omega)).below hba kl, (h4.below hbs (by omega)).below hba (by omega), (fun h => by omega), (fun h => (hr0.set2 _).below hba rl), (fun h => by omega), (hB'.out.trans (hbs.mono (by omega))).trans (hba.mono (by omega)), by simp; omega⟩
            case measure => simp [intOf]
          · obtain ⟨kl, ⟨a0, a1, a2, a3, a4⟩, af⟩ := h5
            obtain ⟨rl, ⟨b0, b1, b2, b3⟩, bf⟩ := g1 rfl
            clear g0 g1 g2
            go_wp2
            go_roundw
            case rel =>
              have hr0 : At4 wr (w.heap.size + 2) (r.1, r.2.1, c.n % 256, r.2.2.2) := ⟨rl, ⟨b0, b1, b2, b3⟩, bf⟩
              have h50 : At5 wr w.heap.size c := ⟨kl, ⟨a0, a1, a2, a3, a4⟩, af⟩
              have hbs : Below (w.heap.size + 2) wr (wr.setCell ⟨w.heap.size + 2, 3, none⟩ (.int .u8 (c.n / 256 % 256))) := (Below.refl _ _).setCell (p := ⟨w.heap.size + 2, 3, none⟩) (Nat.le_refl _) _
              have hba : Below wr.heap.size (wr.setCell ⟨w.heap.size + 2, 3, none⟩ (.int .u8 (c.n / 256 % 256))) ((wr.setCell ⟨w.heap.size + 2, 3, none⟩ (.int .u8 (c.n / 256 % 256))).alloc (.cells #[.int .i64 c.op, .int .i64 c.a, .int .i64 c.b, .int .i64 c.c, .int .i64 c.n] 25)) := (Below.refl _ _).alloc (by simp) _
              exact ⟨2, by omega, rfl, (h50.below hbs (by omega)).below hba kl, (h4.below hbs (by omega)).below hba (by omega), (fun h => by omega), (fun h => by omega), (fun h => (hr0.set3 _).below hba rl), (hB'.out.trans (hbs.mono (by omega))).trans (hba.mono (by omega)), by simp; omega⟩
            case measure => simp [intOf]
          · have hr0 := g2 rfl
            rw [← HP'.out] at hr0
            have H5 := Lib.hid h5
            have H4 := Lib.hid h4
            have HR := Lib.hid hr0
            clear h5 h4 hr0 g0 g1 g2
            go_wp2
            go_roundw
            case rel => exact ⟨k + 1, by omega, by go_num, H5.out, H4.out, HR.out, hB'.out, hz⟩
            case measure => simp [intOf]; omega
    · obtain rfl : k = 3 := by omega
      obtain ⟨_, ⟨a0, a1, a2, a3⟩, _⟩ := h4
      have H5 := Lib.hid h5
      have HR := hr
      obtain ⟨rl, ⟨b0, b1, b2, b3⟩, bf⟩ := hr
      have hf1 := ‹∀ o, wr.frozen? ⟨w.heap.size + 1, o, none⟩ = false›
      clear h5
      go_wp2
      refine bodyPost_ret (v := qv (pk c s 3)) (by simp [results, Tryd.results13, go_sem, qv, a0, a1, a2, a3]) rfl ⟨by rw [HQ.out], ?_⟩
      exact (((hB.setCell (p := ⟨w.heap.size + 1, 0, none⟩) (by simp) _).setCell (p := ⟨w.heap.size + 1, 1, none⟩) (by simp) _).setCell (p := ⟨w.heap.size + 1, 2, none⟩) (by simp) _).setCell (p := ⟨w.heap.size + 1, 3, none⟩) (by simp) _
end Go.Proofs.YtgldkmabhmlijaaDoor
