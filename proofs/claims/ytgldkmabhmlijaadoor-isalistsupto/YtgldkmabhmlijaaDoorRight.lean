/- What Right of package isa answers, for every instruction. -/
import Derived.Test.YtgldkmabhmlijaaDoorShape
namespace Go.Proofs.YtgldkmabhmlijaaDoor
open Go.RowKit
def rst (c : Cod) (s : Nat) : Nat → Cod
  | 0 => c
  | k + 1 => wth (rst c s k) (wd s k) 0
def okW (c : Cod) (s k : Nat) : Bool := decide (lowW (wd s k) ≤ fld c (wd s k)) && decide (fld c (wd s k) ≤ highW (wd s k))
def rightI (c : Cod) : Bool := (decide (0 ≤ c.op) && decide (c.op < 27)) && (okW c (sh c.op) 0 && okW c (sh c.op) 1 && okW c (sh c.op) 2) && decide (rst c (sh c.op) 3 = ⟨c.op, 0, 0, 0, 0⟩)
theorem ret_bool {a b : Bool} (h : a = b) : Ending.returned (.bool a) = .returned (.bool b) := by rw [h]
/-- An instruction that lies in a block of its own. -/
def At5 (W : World) (B : Nat) (c : Cod) : Prop := B < W.heap.size ∧ (W.cell? ⟨B, 0, none⟩ = some (.int .i64 c.op) ∧ W.cell? ⟨B, 1, none⟩ = some (.int .i64 c.a) ∧ W.cell? ⟨B, 2, none⟩ = some (.int .i64 c.b) ∧ W.cell? ⟨B, 3, none⟩ = some (.int .i64 c.c) ∧ W.cell? ⟨B, 4, none⟩ = some (.int .i64 c.n)) ∧ ∀ o, W.frozen? ⟨B, o, none⟩ = false
theorem At5.below {W W' : World} {B n : Nat} {c : Cod} (h : At5 W B c) (hb : Below n W W') (hB : B < n) : At5 W' B c :=
  ⟨Nat.lt_of_lt_of_le h.1 hb.size, ⟨(hb.cell (p := ⟨B, 0, none⟩) hB).trans h.2.1.1, (hb.cell (p := ⟨B, 1, none⟩) hB).trans h.2.1.2.1, (hb.cell (p := ⟨B, 2, none⟩) hB).trans h.2.1.2.2.1, (hb.cell (p := ⟨B, 3, none⟩) hB).trans h.2.1.2.2.2.1, (hb.cell (p := ⟨B, 4, none⟩) hB).trans h.2.1.2.2.2.2⟩, fun o => (hb.frozen (p := ⟨B, o, none⟩) hB).trans (h.2.2 o)⟩
theorem At5.new (W : World) (c : Cod) (t : TypeId) : At5 (W.alloc (.cells #[.int .i64 c.op, .int .i64 c.a, .int .i64 c.b, .int .i64 c.c, .int .i64 c.n] t)) W.heap.size c :=
  ⟨by simp, ⟨by simp [go_sem], by simp [go_sem], by simp [go_sem], by simp [go_sem], by simp [go_sem]⟩, fun o => by simp [go_sem]⟩
def set5 (W : World) (B : Nat) (c : Cod) : World := ((((W.setCell ⟨B, 0, none⟩ (.int .i64 c.op)).setCell ⟨B, 1, none⟩ (.int .i64 c.a)).setCell ⟨B, 2, none⟩ (.int .i64 c.b)).setCell ⟨B, 3, none⟩ (.int .i64 c.c)).setCell ⟨B, 4, none⟩ (.int .i64 c.n)
theorem set5_below {n : Nat} {W : World} {B : Nat} (c : Cod) (h : n ≤ B) : Below n W (set5 W B c) :=
  (((((Below.refl _ _).setCell (p := ⟨B, 0, none⟩) h _).setCell (p := ⟨B, 1, none⟩) h _).setCell (p := ⟨B, 2, none⟩) h _).setCell (p := ⟨B, 3, none⟩) h _).setCell (p := ⟨B, 4, none⟩) h _
theorem cell_set {W : World} {B o : Nat} {u v : Value} (h : W.cell? ⟨B, o, none⟩ = some u) : (W.setCell ⟨B, o, none⟩ v).cell? ⟨B, o, none⟩ = some v := World.cell?_setCell_same' _ _ _ (by rw [h]; rfl)
theorem cell_set_off {W : World} {B o o' : Nat} {u v : Value} (h : W.cell? ⟨B, o, none⟩ = some u) (_hne : o ≠ o') : (W.setCell ⟨B, o', none⟩ v).cell? ⟨B, o, none⟩ = some u := by
  simp [go_sem, h]
theorem At5.set5 {W : World} {B : Nat} {c0 : Cod} (h : At5 W B c0) (c : Cod) : At5 (set5 W B c) B c := by
  obtain ⟨hl, ⟨a0, a1, a2, a3, a4⟩, hf⟩ := h
  refine ⟨by simpa [Proofs.YtgldkmabhmlijaaDoor.set5] using hl, ⟨?_, ?_, ?_, ?_, ?_⟩, fun o => by simp only [Proofs.YtgldkmabhmlijaaDoor.set5, World.frozen?_setCell]; exact hf o⟩
  · exact cell_set_off (cell_set_off (cell_set_off (cell_set_off (cell_set a0) (by decide)) (by decide)) (by decide)) (by decide)
  · exact cell_set_off (cell_set_off (cell_set_off (cell_set (cell_set_off a1 (by decide))) (by decide)) (by decide)) (by decide)
  · exact cell_set_off (cell_set_off (cell_set (cell_set_off (cell_set_off a2 (by decide)) (by decide))) (by decide)) (by decide)
  · exact cell_set_off (cell_set (cell_set_off (cell_set_off (cell_set_off a3 (by decide)) (by decide)) (by decide))) (by decide)
  · exact cell_set (cell_set_off (cell_set_off (cell_set_off (cell_set_off a4 (by decide)) (by decide)) (by decide)) (by decide))
set_option maxRecDepth 100000 in
set_option maxHeartbeats 4000000 in
theorem Right_in (c : Cod) (w : World) (h : 0 ≤ c.op ∧ c.op < 27) : Calls Tryd.prog 12 #[c.v] w fun e w' => e = .returned (.bool (rightI c)) ∧ Below w.heap.size w w' := by
  have h1 : decide (0 ≤ c.op) = true := by simp; omega
  have h2 : decide (c.op < 27) = true := by simp; omega
  obtain ⟨s, hs⟩ : ∃ s, s = sh c.op := ⟨_, rfl⟩
  have HR : Hid (rightI c = ((okW c s 0 && okW c s 1 && okW c s 2) && decide (rst c s 3 = ⟨c.op, 0, 0, 0, 0⟩))) := by simp only [Hid, rightI, h1, h2, Bool.true_and, hs]
  have hS := shapeOf_any c.op
  rw [← hs] at hS
  clear hs
  have HS := Lib.hid hS
  clear hS
  have l0 := wd_lim s 0
  have l1 := wd_lim s 1
  have l2 := wd_lim s 2
  have i0 : ∀ w, (Instr.index 48 (.agg #[.int .i64 (wd s 0), .int .i64 (wd s 1), .int .i64 (wd s 2)]) (.int .i64 0)).run Tryd.prog w = .ok (.int .i64 (wd s 0)) w := fun _ => by kernel_rfl
  have i1 : ∀ w, (Instr.index 48 (.agg #[.int .i64 (wd s 0), .int .i64 (wd s 1), .int .i64 (wd s 2)]) (.int .i64 1)).run Tryd.prog w = .ok (.int .i64 (wd s 1)) w := fun _ => by kernel_rfl
  have i2 : ∀ w, (Instr.index 48 (.agg #[.int .i64 (wd s 0), .int .i64 (wd s 1), .int .i64 (wd s 2)]) (.int .i64 2)).run Tryd.prog w = .ok (.int .i64 (wd s 2)) w := fun _ => by kernel_rfl
  have hv : c.v = .agg #[.int .i64 c.op, .int .i64 c.a, .int .i64 c.b, .int .i64 c.c, .int .i64 c.n] := rfl
  rw [hv]
  go_enter Tryd.func12, Tryd.ntmps12
  go_wp2_with (first | (go_at_call 23; refine (isOp_any _ _).mono ?_; rintro e w' ⟨rfl, rfl⟩) | (go_at_call 14; refine (HS.out _).mono ?_; rintro e w1 ⟨rfl, hb1⟩; refine Hid.out ?_))
  refine Lib.hid ?_
  have hz1 : w.heap.size + 2 ≤ w1.heap.size := by have := hb1.size; simpa using this
  have hB1 : Below w.heap.size w w1 := ((((Below.refl _ w).alloc (Nat.le_refl _) _).alloc (by simp) _)).trans (hb1.mono (by simp; omega))
  have k1 : At5 w1 w.heap.size c := ((At5.new w c _).below ((Below.refl _ _).alloc (Nat.le_refl _) _) (by simp)).below hb1 (by simp; omega)
  have k2 : At5 w1 (w.heap.size + 1) c := by
    have := (At5.new (w.alloc (.cells #[.int .i64 c.op, .int .i64 c.a, .int .i64 c.b, .int .i64 c.c, .int .i64 c.n] 25)) c 25)
    rw [World.size_alloc] at this
    exact this.below hb1 (by simp)
  clear hb1
  go_wp2_with fail
  go_loopw [17] (fun i wr => ∃ k : Nat, k ≤ 3 ∧ i = .int .i64 k ∧ (∀ j, j < k → okW c s j = true) ∧ At5 wr w.heap.size c ∧ At5 wr (w.heap.size + 1) (rst c s k) ∧ Below w.heap.size w wr ∧ w.heap.size + 2 ≤ wr.heap.size) (fun i _ => 3 - (intOf i).toNat)
  case atStart => exact ⟨0, by omega, rfl, fun j hj => by omega, k1, k2, hB1, hz1⟩
  case round =>
    clear k1 k2 hB1 hz1
    obtain ⟨k, hk, rfl, hok, ⟨kl, ⟨a0, a1, a2, a3, a4⟩, af⟩, ⟨rl, ⟨b0, b1, b2, b3, b4⟩, bf⟩, hB, hz⟩ := hrel
    have HO := Lib.hid hok
    clear hok
    rcases (show k = 0 ∨ k = 1 ∨ k = 2 ∨ k = 3 by omega) with rfl | rfl | rfl | rfl
    · by_cases hlo : lowW (wd s 0) ≤ fld c (wd s 0)
      · have hlo' : ¬ fld c (wd s 0) < lowW (wd s 0) := by omega
        by_cases hhi : fld c (wd s 0) ≤ highW (wd s 0)
        · have hhi' : ¬ highW (wd s 0) < fld c (wd s 0) := by omega
          go_wp2_with (first | (go_at_call 24; refine (bounds_any _ _ l0).mono ?_; rintro e w' ⟨rfl, hw'⟩; rw [hw']; clear hw' w') | (go_at_call 25; refine (field_any c _ _ l0).mono ?_; rintro e w2 ⟨rfl, hb2⟩; have bb0 := (hb2.cell (p := ⟨w.heap.size + 1, 0, none⟩) rl).trans b0; have bb1 := (hb2.cell (p := ⟨w.heap.size + 1, 1, none⟩) rl).trans b1; have bb2 := (hb2.cell (p := ⟨w.heap.size + 1, 2, none⟩) rl).trans b2; have bb3 := (hb2.cell (p := ⟨w.heap.size + 1, 3, none⟩) rl).trans b3; have bb4 := (hb2.cell (p := ⟨w.heap.size + 1, 4, none⟩) rl).trans b4) | (go_at_call 26; refine (with_any (rst c s 0) _ _ _ l0).mono ?_; rintro e w3 ⟨rfl, hb3⟩; refine Hid.out ?_))
          refine Lib.hid ?_
          have hz2 := hb2.size
          have hz3 := hb3.size
          have hb23 : Below wr.heap.size wr w3 := hb2.trans (hb3.mono hz2)
          have d0 := (hb23.cell (p := ⟨w.heap.size + 1, 0, none⟩) rl).trans b0
          have d1 := (hb23.cell (p := ⟨w.heap.size + 1, 1, none⟩) rl).trans b1
          have d2 := (hb23.cell (p := ⟨w.heap.size + 1, 2, none⟩) rl).trans b2
          have d3 := (hb23.cell (p := ⟨w.heap.size + 1, 3, none⟩) rl).trans b3
          have d4 := (hb23.cell (p := ⟨w.heap.size + 1, 4, none⟩) rl).trans b4
          have df : ∀ o, w3.frozen? ⟨w.heap.size + 1, o, none⟩ = false := fun o => (hb23.frozen (p := ⟨w.heap.size + 1, o, none⟩) rl).trans (bf o)
          have dl : w.heap.size + 1 < w3.heap.size := by omega
          unfold Cod.v
          go_wp2
          go_roundw
          case rel =>
            have hk0 : okW c s 0 = true := by simp only [okW, Bool.and_eq_true, decide_eq_true_eq]; exact ⟨hlo, hhi⟩
            have hd : At5 w3 (w.heap.size + 1) (rst c s 0) := ⟨dl, ⟨d0, d1, d2, d3, d4⟩, df⟩
            have hc3 : At5 w3 w.heap.size c := At5.below ⟨kl, ⟨a0, a1, a2, a3, a4⟩, af⟩ hb23 (by omega)
            have hbs := set5_below (n := w.heap.size + 1) (W := w3) (B := w.heap.size + 1) (rst c s 1) (Nat.le_refl _)
            exact ⟨1, by omega, rfl, fun j hj => if h : j = 0 then h ▸ hk0 else HO.out j (by omega), hc3.below hbs (by omega), hd.set5 (rst c s 1), (hB.trans (hb23.mono hB.size)).trans (hbs.mono (by omega)), by simp; omega⟩
          case measure => simp [intOf]
        · have hhi' : highW (wd s 0) < fld c (wd s 0) := by omega
          go_wp2_with (first | (go_at_call 24; refine (bounds_any _ _ l0).mono ?_; rintro e w' ⟨rfl, hw'⟩; rw [hw']; clear hw' w') | (go_at_call 25; refine (field_any c _ _ l0).mono ?_; rintro e w2 ⟨rfl, hb2⟩))
          go_ret
          refine ⟨ret_bool ?_, hB.trans (hb2.mono hB.size)⟩
          have hk0 : okW c s 0 = false := by simp only [okW, Bool.and_eq_false_iff, decide_eq_false_iff_not]; omega
          rw [HR.out, hk0]; simp
      · have hlo' : fld c (wd s 0) < lowW (wd s 0) := by omega
        go_wp2_with (first | (go_at_call 24; refine (bounds_any _ _ l0).mono ?_; rintro e w' ⟨rfl, hw'⟩; rw [hw']; clear hw' w') | (go_at_call 25; refine (field_any c _ _ l0).mono ?_; rintro e w2 ⟨rfl, hb2⟩))
        go_ret
        refine ⟨ret_bool ?_, hB.trans (hb2.mono hB.size)⟩
        have hk0 : okW c s 0 = false := by simp only [okW, Bool.and_eq_false_iff, decide_eq_false_iff_not]; omega
        rw [HR.out, hk0]; simp
    · by_cases hlo : lowW (wd s 1) ≤ fld c (wd s 1)
      · have hlo' : ¬ fld c (wd s 1) < lowW (wd s 1) := by omega
        by_cases hhi : fld c (wd s 1) ≤ highW (wd s 1)
        · have hhi' : ¬ highW (wd s 1) < fld c (wd s 1) := by omega
          go_wp2_with (first | (go_at_call 24; refine (bounds_any _ _ l1).mono ?_; rintro e w' ⟨rfl, hw'⟩; rw [hw']; clear hw' w') | (go_at_call 25; refine (field_any c _ _ l1).mono ?_; rintro e w2 ⟨rfl, hb2⟩; have bb0 := (hb2.cell (p := ⟨w.heap.size + 1, 0, none⟩) rl).trans b0; have bb1 := (hb2.cell (p := ⟨w.heap.size + 1, 1, none⟩) rl).trans b1; have bb2 := (hb2.cell (p := ⟨w.heap.size + 1, 2, none⟩) rl).trans b2; have bb3 := (hb2.cell (p := ⟨w.heap.size + 1, 3, none⟩) rl).trans b3; have bb4 := (hb2.cell (p := ⟨w.heap.size + 1, 4, none⟩) rl).trans b4) | (go_at_call 26; refine (with_any (rst c s 1) _ _ _ l1).mono ?_; rintro e w3 ⟨rfl, hb3⟩; refine Hid.out ?_))
          refine Lib.hid ?_
          have hz2 := hb2.size
          have hz3 := hb3.size
          have hb23 : Below wr.heap.size wr w3 := hb2.trans (hb3.mono hz2)
          have d0 := (hb23.cell (p := ⟨w.heap.size + 1, 0, none⟩) rl).trans b0
          have d1 := (hb23.cell (p := ⟨w.heap.size + 1, 1, none⟩) rl).trans b1
          have d2 := (hb23.cell (p := ⟨w.heap.size + 1, 2, none⟩) rl).trans b2
          have d3 := (hb23.cell (p := ⟨w.heap.size + 1, 3, none⟩) rl).trans b3
          have d4 := (hb23.cell (p := ⟨w.heap.size + 1, 4, none⟩) rl).trans b4
          have df : ∀ o, w3.frozen? ⟨w.heap.size + 1, o, none⟩ = false := fun o => (hb23.frozen (p := ⟨w.heap.size + 1, o, none⟩) rl).trans (bf o)
          have dl : w.heap.size + 1 < w3.heap.size := by omega
          unfold Cod.v
          go_wp2
          go_roundw
          case rel =>
            have hk0 : okW c s 1 = true := by simp only [okW, Bool.and_eq_true, decide_eq_true_eq]; exact ⟨hlo, hhi⟩
            have hd : At5 w3 (w.heap.size + 1) (rst c s 1) := ⟨dl, ⟨d0, d1, d2, d3, d4⟩, df⟩
            have hc3 : At5 w3 w.heap.size c := At5.below ⟨kl, ⟨a0, a1, a2, a3, a4⟩, af⟩ hb23 (by omega)
            have hbs := set5_below (n := w.heap.size + 1) (W := w3) (B := w.heap.size + 1) (rst c s 2) (Nat.le_refl _)
            exact ⟨2, by omega, rfl, fun j hj => if h : j = 1 then h ▸ hk0 else HO.out j (by omega), hc3.below hbs (by omega), hd.set5 (rst c s 2), (hB.trans (hb23.mono hB.size)).trans (hbs.mono (by omega)), by simp; omega⟩
          case measure => simp [intOf]
        · have hhi' : highW (wd s 1) < fld c (wd s 1) := by omega
          go_wp2_with (first | (go_at_call 24; refine (bounds_any _ _ l1).mono ?_; rintro e w' ⟨rfl, hw'⟩; rw [hw']; clear hw' w') | (go_at_call 25; refine (field_any c _ _ l1).mono ?_; rintro e w2 ⟨rfl, hb2⟩))
          go_ret
          refine ⟨ret_bool ?_, hB.trans (hb2.mono hB.size)⟩
          have hk0 : okW c s 1 = false := by simp only [okW, Bool.and_eq_false_iff, decide_eq_false_iff_not]; omega
          rw [HR.out, hk0]; simp
      · have hlo' : fld c (wd s 1) < lowW (wd s 1) := by omega
        go_wp2_with (first | (go_at_call 24; refine (bounds_any _ _ l1).mono ?_; rintro e w' ⟨rfl, hw'⟩; rw [hw']; clear hw' w') | (go_at_call 25; refine (field_any c _ _ l1).mono ?_; rintro e w2 ⟨rfl, hb2⟩))
        go_ret
        refine ⟨ret_bool ?_, hB.trans (hb2.mono hB.size)⟩
        have hk0 : okW c s 1 = false := by simp only [okW, Bool.and_eq_false_iff, decide_eq_false_iff_not]; omega
        rw [HR.out, hk0]; simp
    · by_cases hlo : lowW (wd s 2) ≤ fld c (wd s 2)
      · have hlo' : ¬ fld c (wd s 2) < lowW (wd s 2) := by omega
        by_cases hhi : fld c (wd s 2) ≤ highW (wd s 2)
        · have hhi' : ¬ highW (wd s 2) < fld c (wd s 2) := by omega
          go_wp2_with (first | (go_at_call 24; refine (bounds_any _ _ l2).mono ?_; rintro e w' ⟨rfl, hw'⟩; rw [hw']; clear hw' w') | (go_at_call 25; refine (field_any c _ _ l2).mono ?_; rintro e w2 ⟨rfl, hb2⟩; have bb0 := (hb2.cell (p := ⟨w.heap.size + 1, 0, none⟩) rl).trans b0; have bb1 := (hb2.cell (p := ⟨w.heap.size + 1, 1, none⟩) rl).trans b1; have bb2 := (hb2.cell (p := ⟨w.heap.size + 1, 2, none⟩) rl).trans b2; have bb3 := (hb2.cell (p := ⟨w.heap.size + 1, 3, none⟩) rl).trans b3; have bb4 := (hb2.cell (p := ⟨w.heap.size + 1, 4, none⟩) rl).trans b4) | (go_at_call 26; refine (with_any (rst c s 2) _ _ _ l2).mono ?_; rintro e w3 ⟨rfl, hb3⟩; refine Hid.out ?_))
          refine Lib.hid ?_
          have hz2 := hb2.size
          have hz3 := hb3.size
          have hb23 : Below wr.heap.size wr w3 := hb2.trans (hb3.mono hz2)
          have d0 := (hb23.cell (p := ⟨w.heap.size + 1, 0, none⟩) rl).trans b0
          have d1 := (hb23.cell (p := ⟨w.heap.size + 1, 1, none⟩) rl).trans b1
          have d2 := (hb23.cell (p := ⟨w.heap.size + 1, 2, none⟩) rl).trans b2
          have d3 := (hb23.cell (p := ⟨w.heap.size + 1, 3, none⟩) rl).trans b3
          have d4 := (hb23.cell (p := ⟨w.heap.size + 1, 4, none⟩) rl).trans b4
          have df : ∀ o, w3.frozen? ⟨w.heap.size + 1, o, none⟩ = false := fun o => (hb23.frozen (p := ⟨w.heap.size + 1, o, none⟩) rl).trans (bf o)
          have dl : w.heap.size + 1 < w3.heap.size := by omega
          unfold Cod.v
          go_wp2
          go_roundw
          case rel =>
            have hk0 : okW c s 2 = true := by simp only [okW, Bool.and_eq_true, decide_eq_true_eq]; exact ⟨hlo, hhi⟩
            have hd : At5 w3 (w.heap.size + 1) (rst c s 2) := ⟨dl, ⟨d0, d1, d2, d3, d4⟩, df⟩
            have hc3 : At5 w3 w.heap.size c := At5.below ⟨kl, ⟨a0, a1, a2, a3, a4⟩, af⟩ hb23 (by omega)
            have hbs := set5_below (n := w.heap.size + 1) (W := w3) (B := w.heap.size + 1) (rst c s 3) (Nat.le_refl _)
            exact ⟨3, by omega, rfl, fun j hj => if h : j = 2 then h ▸ hk0 else HO.out j (by omega), hc3.below hbs (by omega), hd.set5 (rst c s 3), (hB.trans (hb23.mono hB.size)).trans (hbs.mono (by omega)), by simp; omega⟩
          case measure => simp [intOf]
        · have hhi' : highW (wd s 2) < fld c (wd s 2) := by omega
          go_wp2_with (first | (go_at_call 24; refine (bounds_any _ _ l2).mono ?_; rintro e w' ⟨rfl, hw'⟩; rw [hw']; clear hw' w') | (go_at_call 25; refine (field_any c _ _ l2).mono ?_; rintro e w2 ⟨rfl, hb2⟩))
          go_ret
          refine ⟨ret_bool ?_, hB.trans (hb2.mono hB.size)⟩
          have hk0 : okW c s 2 = false := by simp only [okW, Bool.and_eq_false_iff, decide_eq_false_iff_not]; omega
          rw [HR.out, hk0]; simp
      · have hlo' : fld c (wd s 2) < lowW (wd s 2) := by omega
        go_wp2_with (first | (go_at_call 24; refine (bounds_any _ _ l2).mono ?_; rintro e w' ⟨rfl, hw'⟩; rw [hw']; clear hw' w') | (go_at_call 25; refine (field_any c _ _ l2).mono ?_; rintro e w2 ⟨rfl, hb2⟩))
        go_ret
        refine ⟨ret_bool ?_, hB.trans (hb2.mono hB.size)⟩
        have hk0 : okW c s 2 = false := by simp only [okW, Bool.and_eq_false_iff, decide_eq_false_iff_not]; omega
        rw [HR.out, hk0]; simp
    · obtain ⟨⟨ro, ra, rb, rc, rn⟩, hr⟩ : ∃ r : Cod, rst c s 3 = r := ⟨_, rfl⟩
      have HD : Hid (decide (rst c s 3 = ⟨c.op, 0, 0, 0, 0⟩) = decide (ro = c.op ∧ ra = 0 ∧ rb = 0 ∧ rc = 0 ∧ rn = 0)) := by simp only [Hid, hr, Cod.mk.injEq]
      rw [hr] at b0 b1 b2 b3 b4
      simp only at b0 b1 b2 b3 b4
      clear hr
      go_wp2
      all_goals
        go_ret
        refine ⟨ret_bool ?_, hB⟩
        rw [HR.out, HO.out 0 (by omega), HO.out 1 (by omega), HO.out 2 (by omega), HD.out]
        simp_all

theorem Right_any (c : Cod) (w : World) : Calls Tryd.prog 12 #[c.v] w fun e w' => e = .returned (.bool (rightI c)) ∧ Below w.heap.size w w' := by
  by_cases h : 0 ≤ c.op ∧ c.op < 27
  · exact Right_in c w h
  · have HR : Hid (rightI c = false) := by simp only [Hid, rightI, Bool.and_eq_false_iff, decide_eq_false_iff_not]; omega
    have h1 : (decide (0 ≤ c.op) && decide (c.op < 27)) = false := by simp only [Bool.and_eq_false_iff, decide_eq_false_iff_not]; omega
    have hI := isOp_any c.op
    rw [h1] at hI
    have HI := Lib.hid hI
    clear hI h1
    unfold Cod.v
    go_enter Tryd.func12, Tryd.ntmps12
    go_wp2_with (first | (go_at_call 23; refine (HI.out _).mono ?_; rintro e w' ⟨rfl, hw'⟩; rw [hw']; clear hw' w'))
    go_ret
    exact ⟨by rw [HR.out]; rfl, by go_grown⟩

def reg (n : Int) : Bool := decide (0 ≤ n) && decide (n ≤ 15)
def way (n : Int) : Bool := decide (-32768 ≤ n) && decide (n ≤ 32767)
def zer (n : Int) : Bool := decide (n = 0)
/-- A right instruction, by its shape. -/
def rightC (c : Cod) : Bool := (decide (0 ≤ c.op) && decide (c.op < 27)) &&
  (if sh c.op = 1 then reg c.a && zer c.b && zer c.c && (decide (0 ≤ c.n) && decide (c.n ≤ 65535))
   else if sh c.op = 2 then reg c.a && reg c.b && zer c.c && zer c.n
   else if sh c.op = 3 then reg c.a && reg c.b && reg c.c && zer c.n
   else if sh c.op = 4 then reg c.a && reg c.b && zer c.c && (decide (0 ≤ c.n) && decide (c.n ≤ 255))
   else if sh c.op = 5 then zer c.a && zer c.b && zer c.c && way c.n
   else if sh c.op = 6 then reg c.a && zer c.b && zer c.c && way c.n
   else zer c.a && zer c.b && zer c.c && zer c.n)
theorem rightI_eq (c : Cod) : rightI c = rightC c := by
  obtain ⟨op, a, b, d, n⟩ := c
  rcases sh_cases op with h | h | h | h | h | h | h <;> simp only [rightI, rightC, h] <;> rw [Bool.eq_iff_iff] <;>
    simp [okW, rst, wd, wth, fld, lowW, highW, reg, way, zer] <;> omega
end Go.Proofs.YtgldkmabhmlijaaDoor
