/- LabelTurns answers true, for every label, category and level, whatever the memory. -/
import Derived.Test.YtibnmiigfiofmaaDoorLives
import Derived.Test.YtibnmiigfiofmaaDoorRWith
namespace Go.Proofs.YtibnmiigfiofmaaDoor
open Go.RowKit Go.Sort

theorem Down_any (d : Int) (p : Option Addr) (cap : Nat) (xs : List (Int × Int)) (w : World) (hm : xs.length * 16 ≤ 140737488355328) (hc : CatsAt w p xs) :
    Calls Tryd.prog 32 #[.agg #[.int .i64 d, .slice p xs.length cap]] w fun e w' => ∃ v, e = .returned (.agg #[.int .i64 (ot 5 0 d), v]) ∧
      w'.ownsRow w.heap.size 30 2 v (shortS (ot 5 0 d) (turnS 5 0 xs)).length (flat (shortS (ot 5 0 d) (turnS 5 0 xs))) ∧ Below w.heap.size w w' := by
  have hW : Below w.heap.size w ((w.alloc (.cells #[.int .i64 d, .slice p xs.length cap] 24)).alloc (.cells #[.int .i64 0, .slice none 0 0] 24)) := by go_grown
  have hT := turn_any d 5 0 p cap xs _ hm (hc.below hW)
  go_enter Tryd.func32, Tryd.ntmps32
  go_wp2_with (go_at_call 64; refine hT.mono ?_; rintro e w5 ⟨v, rfl, hown5, hb5⟩; have s0 : w5.cell? ⟨w.heap.size + 1, 0, none⟩ = some (.int .i64 0) := (hb5.cell (p := ⟨w.heap.size + 1, 0, none⟩) (by simp)).trans (by simp [go_sem]); have s1 : w5.cell? ⟨w.heap.size + 1, 1, none⟩ = some (.slice none 0 0) := (hb5.cell (p := ⟨w.heap.size + 1, 1, none⟩) (by simp)).trans (by simp [go_sem]); have sf : ∀ o, w5.frozen? ⟨w.heap.size + 1, o, none⟩ = false := (fun o => (hb5.frozen (p := ⟨w.heap.size + 1, o, none⟩) (by simp)).trans (by simp [go_sem])); obtain ⟨p5, cap5, rfl, hc5, hcap5⟩ := own_out hown5)
  refine bodyPost_ret (by simp [results, Tryd.results32, go_sem, s0, s1]; rfl) rfl ⟨_, rfl, ?_, ?_⟩
  · exact Joins.ownsRow_le (ownsRow_setCell_below (ownsRow_setCell_below hown5 (by simp) _) (by simp) _) (by simp <;> omega)
  · exact ((hW.trans (hb5.mono hW.size)).setCell (p := ⟨w.heap.size + 1, 0, none⟩) (by simp) _).setCell (p := ⟨w.heap.size + 1, 1, none⟩) (by simp) _

theorem same_self (d : Int) (xs : List (Int × Int)) : sameS d d xs xs = true := by simp [sameS]
theorem labs1 {W : World} {b : Nat} {A : Lab} (h : W.heap[b]? = some (.cells #[.int .i64 A.d, .slice A.p A.xs.length A.cap] 24 (0, 0)))
    (ha : CatsAt W A.p A.xs ∧ A.xs.length ≤ maxLen) : LabsAt W b [A] := by
  intro j hj
  simp only [List.length_cons, List.length_nil] at hj
  match j, hj with
  | 0, _ => exact ⟨by simp [World.cell?, h], by simp [World.cell?, h], ha⟩
theorem right_can {d : Int} : ∀ {l : Int} {xs : List (Int × Int)}, rOk d l xs = true → ∀ x ∈ xs, can x = true
  | _, [], _, x, hx => by simp at hx
  | l, y :: ys, h, x, hx => by
    simp only [rOk, Bool.and_eq_true] at h
    rcases List.mem_cons.1 hx with rfl | hx
    · exact h.1.1.1
    · exact right_can h.2 x hx
theorem grow_gx {X w' : World} {n : Nat} {os : Array Obj} (h : Below (gx X n os).heap.size (gx X n os) w') : ∃ p : GrownBy, w' = gx X p.n p.os := below_gx ((gx_below X n os).trans (h.mono (gx_below X n os).size))
theorem turn_le (d f t : Int) (xs : List (Int × Int)) : (shortS d (turnS f t xs)).length ≤ xs.length := Nat.le_trans (short_le _ _) (by rw [turn_len]; exact Nat.le_refl _)

set_option maxRecDepth 100000 in
set_option maxHeartbeats 8000000 in
theorem LabelTurns_any (A : Lab) (cat level : Int) (w : World) (ma : A.xs.length ≤ maxLen) (ha : CatsAt w A.p A.xs) :
    Calls Tryd.prog 6 #[.agg #[.int .i64 A.d, .slice A.p A.xs.length A.cap], .int .i64 cat, .int .i64 level] w fun e w' => e = .returned (.bool true) ∧ Below w.heap.size w w' := by
  obtain ⟨W3, hW3⟩ : ∃ W3, w.alloc (.cells #[.int .i64 A.d, .slice A.p A.xs.length A.cap] 24) = W3 := ⟨_, rfl⟩
  have hB3 : Below w.heap.size w W3 := by rw [← hW3]; go_grown
  have hz3 : W3.heap.size = w.heap.size + 1 := by rw [← hW3]; simp
  have a0 : W3.cell? ⟨w.heap.size, 0, none⟩ = some (.int .i64 A.d) := by rw [← hW3]; simp [go_sem]
  have a1 : W3.cell? ⟨w.heap.size, 1, none⟩ = some (.slice A.p A.xs.length A.cap) := by rw [← hW3]; simp [go_sem]
  have hL := lives_any W3
  go_enter Tryd.func6, Tryd.ntmps6
  go_wp2_with (go_at_call 9; refine hL.mono ?_; rintro e w1 ⟨rfl, hb1⟩; refine Hid.out ?_)
  refine Lib.hid ?_
  clear hL hW3
  have hB1 : Below w.heap.size w w1 := hB3.trans (hb1.mono hB3.size)
  have hz1 : w.heap.size + 1 ≤ w1.heap.size := by have := hb1.size; omega
  have d0 := (hb1.cell (p := ⟨w.heap.size, 0, none⟩) (by simp; omega)).trans a0
  have d1 := (hb1.cell (p := ⟨w.heap.size, 1, none⟩) (by simp; omega)).trans a1
  have hbA : Below w.heap.size w (w1.alloc (.cells #[.int .i64 A.d, .slice A.p A.xs.length A.cap] 24)) := hB1.alloc hB1.size _
  have hR := right_any w1.heap.size [A] _ (by simp) (by simp) (labs1 (World.alloc_heap_new w1 _) ⟨ha.below hbA, ma⟩)
  simp only [List.length_cons, List.length_nil, Nat.zero_add] at hR
  clear a0 a1
  by_cases hr : allRight [A] = true
  · rw [hr] at hR
    simp only [allRight, List.all_cons, List.all_nil, Bool.and_true] at hr
    have RA := right_rise hr
    have hcx : ∀ x ∈ A.xs, can x = true := right_can (d := A.d) (l := 0) (by simp only [rightS, Bool.and_eq_true] at hr; exact hr.2)
    have h16 := RA.2.2.1
    obtain ⟨fd, hfd⟩ : ∃ d, d = wD A cat level := ⟨_, rfl⟩
    obtain ⟨fl, hfl⟩ : ∃ l, l = wL A cat level := ⟨_, rfl⟩
    obtain ⟨fe, hfe⟩ : ∃ e, e = wE A cat level := ⟨_, rfl⟩
    have H28 : Hid (∀ W, CatsAt W A.p A.xs → Calls Tryd.prog 28 #[.agg #[.int .i64 A.d, .slice A.p A.xs.length A.cap], .int .i64 cat, .int .i64 level] W fun e w' => ∃ v, e = .returned (.tuple #[.agg #[.int .i64 fd, v], .int .i64 fe]) ∧ Rw W.heap.size w' v fl ∧ Below W.heap.size W w') := fun W h => by rw [hfd, hfl, hfe]; exact With_any A cat level W hr hcx h
    have H29 : Hid (∀ W, CatsAt W A.p A.xs → Calls Tryd.prog 29 #[.agg #[.int .i64 A.d, .slice A.p A.xs.length A.cap], .int .i64 cat, .int .i64 level] W fun e w' => ∃ v, e = .returned (.tuple #[.agg #[.int .i64 fd, v], .int .i64 fe]) ∧ Rw W.heap.size w' v fl ∧ Below W.heap.size W w') := fun W h => by rw [hfd, hfl, hfe]; exact rWith_any A cat level W (by omega) h
    have hfl16 : fl.length ≤ maxLen := by
      rw [hfl]; unfold wL
      split
      · unfold fitL maxLen; split <;> simp <;> omega
      · simp
    obtain ⟨dU, hdU⟩ : ∃ d, d = ot 0 5 A.d := ⟨_, rfl⟩
    obtain ⟨lU, hlU⟩ : ∃ l, l = shortS (ot 0 5 A.d) (turnS 0 5 A.xs) := ⟨_, rfl⟩
    obtain ⟨dD, hdD⟩ : ∃ d, d = ot 5 0 A.d := ⟨_, rfl⟩
    obtain ⟨lD, hlD⟩ : ∃ l, l = shortS (ot 5 0 A.d) (turnS 5 0 A.xs) := ⟨_, rfl⟩
    have hlU16 : lU.length ≤ maxLen := by rw [hlU]; have := turn_le (ot 0 5 A.d) 0 5 A.xs; unfold maxLen; omega
    have hlD16 : lD.length ≤ maxLen := by rw [hlD]; have := turn_le (ot 5 0 A.d) 5 0 A.xs; unfold maxLen; omega
    have H30 : Hid (∀ W, CatsAt W A.p A.xs → Calls Tryd.prog 30 #[.agg #[.int .i64 A.d, .slice A.p A.xs.length A.cap]] W fun e w' => ∃ p c, e = .returned (.agg #[.int .i64 dU, .slice p lU.length c]) ∧ CatsAt w' p lU ∧ Below W.heap.size W w') := fun W h => by
      rw [hdU, hlU]
      refine (Up_any A.d A.p A.cap A.xs W (by omega) h).mono ?_
      rintro e w' ⟨v, rfl, hown, hb⟩
      obtain ⟨p, c, rfl, hc, _⟩ := own_out hown
      exact ⟨p, c, rfl, hc, hb⟩
    have H31 : Hid (∀ W, CatsAt W A.p A.xs → Calls Tryd.prog 31 #[.agg #[.int .i64 A.d, .slice A.p A.xs.length A.cap]] W fun e w' => ∃ p c, e = .returned (.agg #[.int .i64 dU, .slice p lU.length c]) ∧ CatsAt w' p lU ∧ Below W.heap.size W w') := fun W h => by
      rw [hdU, hlU]
      refine (rUp_any A.d A.p A.cap A.xs W (by omega) h).mono ?_
      rintro e w' ⟨v, rfl, hR, hb⟩
      obtain ⟨p, c, rfl, hc, _⟩ := hR.out
      exact ⟨p, c, rfl, hc, hb⟩
    have H32 : Hid (∀ W, CatsAt W A.p A.xs → Calls Tryd.prog 32 #[.agg #[.int .i64 A.d, .slice A.p A.xs.length A.cap]] W fun e w' => ∃ p c, e = .returned (.agg #[.int .i64 dD, .slice p lD.length c]) ∧ CatsAt w' p lD ∧ Below W.heap.size W w') := fun W h => by
      rw [hdD, hlD]
      refine (Down_any A.d A.p A.cap A.xs W (by omega) h).mono ?_
      rintro e w' ⟨v, rfl, hown, hb⟩
      obtain ⟨p, c, rfl, hc, _⟩ := own_out hown
      exact ⟨p, c, rfl, hc, hb⟩
    have H33 : Hid (∀ W, CatsAt W A.p A.xs → Calls Tryd.prog 33 #[.agg #[.int .i64 A.d, .slice A.p A.xs.length A.cap]] W fun e w' => ∃ p c, e = .returned (.agg #[.int .i64 dD, .slice p lD.length c]) ∧ CatsAt w' p lD ∧ Below W.heap.size W w') := fun W h => by
      rw [hdD, hlD]
      refine (rDown_any A.d A.p A.cap A.xs W (by omega) h).mono ?_
      rintro e w' ⟨v, rfl, hR, hb⟩
      obtain ⟨p, c, rfl, hc, _⟩ := hR.out
      exact ⟨p, c, rfl, hc, hb⟩
    clear RA hcx hfd hfl hfe hdU hlU hdD hlD hr
    go_wp2_with (go_at_call 21; refine hR.mono ?_; rintro e w2 ⟨rfl, hb2⟩; refine Hid.out ?_)
    refine Lib.hid ?_
    clear hR
    have hB2 : Below w.heap.size w w2 := hbA.trans (hb2.mono hbA.size)
    have hb12 : Below w1.heap.size w1 w2 := ((Below.refl _ w1).alloc (Nat.le_refl _) _).trans (hb2.mono (by simp))
    have hz2 : w.heap.size + 1 ≤ w2.heap.size := by have := hb12.size; omega
    have HA : Hid (∀ W, Below w2.heap.size w2 W → CatsAt W A.p A.xs) := fun W h => (ha.below hB2).below h
    have i0 := (hb12.cell (p := ⟨w.heap.size, 0, none⟩) (by simp; omega)).trans d0
    have i1 := (hb12.cell (p := ⟨w.heap.size, 1, none⟩) (by simp; omega)).trans d1
    have HC : Hid (∀ W, Below w2.heap.size w2 W → W.cell? ⟨w.heap.size, 0, none⟩ = some (.int .i64 A.d) ∧ W.cell? ⟨w.heap.size, 1, none⟩ = some (.slice A.p A.xs.length A.cap)) := fun W h => ⟨(h.cell (p := ⟨w.heap.size, 0, none⟩) (by simp; omega)).trans i0, (h.cell (p := ⟨w.heap.size, 1, none⟩) (by simp; omega)).trans i1⟩
    clear ha hb1 hb2 d0 d1 hb12
    go_wp2_with (go_at_call 28; refine Calls.mono (H28.out _ (HA.out _ (Below.refl _ _))) ?_; rintro e w3 ⟨v3, rfl, hR3, hb3⟩; refine Hid.out ?_)
    refine Lib.hid ?_
    have h2w3 : Below w2.heap.size w2 w3 := hb3
    clear i0 i1
    obtain ⟨p3, c3, rfl, hc3, hl3⟩ := hR3.out
    obtain ⟨m30, m31⟩ := HC.out w3 h2w3
    have g3a : w.heap.size < w3.heap.size := by have := h2w3.size; omega
    obtain ⟨X3, hX3⟩ : ∃ X, X = w3.alloc (.cells #[.int .i64 fd, .slice p3 fl.length c3] 24) := ⟨_, rfl⟩
    have hbX3 : Below w3.heap.size w3 X3 := by rw [hX3]; exact (Below.refl _ _).alloc (Nat.le_refl _) _
    have hzX3 : X3.heap.size = w3.heap.size + 1 := by rw [hX3]; simp
    have k30 : X3.cell? ⟨w3.heap.size, 0, none⟩ = some (.int .i64 fd) := by rw [hX3]; simp [go_sem]
    have k31 : X3.cell? ⟨w3.heap.size, 1, none⟩ = some (.slice p3 fl.length c3) := by rw [hX3]; simp [go_sem]
    have h2X3 : Below w2.heap.size w2 X3 := h2w3.trans (hbX3.mono h2w3.size)
    have hcX3 : CatsAt X3 p3 fl := hc3.below hbX3
    clear hR3 hc3
    go_wp2_with (go_at_call 29; rw [← hX3]; refine Calls.mono (H29.out _ (HA.out _ h2X3)) ?_; rintro e w4 ⟨v4, rfl, hR4, hb4⟩; refine Hid.out ?_)
    refine Lib.hid ?_
    have h2w4 : Below w2.heap.size w2 w4 := h2X3.trans (hb4.mono h2X3.size)
    clear m30 m31 hX3 g3a
    obtain ⟨p4, c4, rfl, hc4, hl4⟩ := hR4.out
    obtain ⟨m40, m41⟩ := HC.out w4 h2w4
    have g4a : w.heap.size < w4.heap.size := by have := h2w4.size; omega
    obtain ⟨X4, hX4⟩ : ∃ X, X = w4.alloc (.cells #[.int .i64 fd, .slice p4 fl.length c4] 24) := ⟨_, rfl⟩
    have hbX4 : Below w4.heap.size w4 X4 := by rw [hX4]; exact (Below.refl _ _).alloc (Nat.le_refl _) _
    have hzX4 : X4.heap.size = w4.heap.size + 1 := by rw [hX4]; simp
    have k40 : X4.cell? ⟨w4.heap.size, 0, none⟩ = some (.int .i64 fd) := by rw [hX4]; simp [go_sem]
    have k41 : X4.cell? ⟨w4.heap.size, 1, none⟩ = some (.slice p4 fl.length c4) := by rw [hX4]; simp [go_sem]
    have h2X4 : Below w2.heap.size w2 X4 := h2w4.trans (hbX4.mono h2w4.size)
    have hcX4 : CatsAt X4 p4 fl := hc4.below hbX4
    clear hR4 hc4
    have t3 : Below X3.heap.size X3 X4 := hb4.trans (hbX4.mono hb4.size)
    have y30 := (t3.cell (p := ⟨w3.heap.size, 0, none⟩) (by simp; omega)).trans k30
    have y31 := (t3.cell (p := ⟨w3.heap.size, 1, none⟩) (by simp; omega)).trans k31
    have hy3 : CatsAt X4 p3 fl := hcX3.below t3
    have z3 : w3.heap.size < X4.heap.size := by have := t3.size; omega
    have z4 : w4.heap.size < X4.heap.size := by omega
    obtain ⟨n0, n1⟩ := HC.out X4 h2X4
    have za : w.heap.size < X4.heap.size := by have := h2X4.size; omega
    have s0 : ∀ n os, (gx X4 n os).cell? ⟨w.heap.size, 0, none⟩ = some (.int .i64 A.d) := fun n os => cell_gx (a := ⟨w.heap.size, 0, none⟩) za n0 n os
    have s1 : ∀ n os, (gx X4 n os).cell? ⟨w.heap.size, 1, none⟩ = some (.slice A.p A.xs.length A.cap) := fun n os => cell_gx (a := ⟨w.heap.size, 1, none⟩) za n1 n os
    have f30 : ∀ n os, (gx X4 n os).cell? ⟨w3.heap.size, 0, none⟩ = some (.int .i64 fd) := fun n os => cell_gx (a := ⟨w3.heap.size, 0, none⟩) z3 y30 n os
    have f31 : ∀ n os, (gx X4 n os).cell? ⟨w3.heap.size, 1, none⟩ = some (.slice p3 fl.length c3) := fun n os => cell_gx (a := ⟨w3.heap.size, 1, none⟩) z3 y31 n os
    have f40 : ∀ n os, (gx X4 n os).cell? ⟨w4.heap.size, 0, none⟩ = some (.int .i64 fd) := fun n os => cell_gx (a := ⟨w4.heap.size, 0, none⟩) z4 k40 n os
    have f41 : ∀ n os, (gx X4 n os).cell? ⟨w4.heap.size, 1, none⟩ = some (.slice p4 fl.length c4) := fun n os => cell_gx (a := ⟨w4.heap.size, 1, none⟩) z4 k41 n os
    have G3 : Hid (∀ W, Below X4.heap.size X4 W → CatsAt W p3 fl) := fun W h => hy3.below h
    have G4 : Hid (∀ W, Below X4.heap.size X4 W → CatsAt W p4 fl) := fun W h => hcX4.below h
    have GA : Hid (∀ W, Below X4.heap.size X4 W → CatsAt W A.p A.xs) := fun W h => HA.out _ (h2X4.trans (h.mono h2X4.size))
    have sF := same_self fd fl
    have sU := same_self dU lU
    have sD := same_self dD lD
    have hBX : Below w.heap.size w X4 := hB2.trans (h2X4.mono hB2.size)
    clear t3 hy3 k30 k31 hcX3 hcX4 h2X3 h2X4 h2w3 h2w4 hbX3 hbX4 hb3 hb4 H28 H29 HA HC
    go_wp2
    rw [← hX4]
    clear hX4 m40 m41
    go_region_law (first
      | (go_simp; go_at_call 20; with_reducible refine Calls.mono (calls_bel (W0 := X4) (by first | exact bel_drew0 | exact gx_below _ _ _ | exact bel_drew) (Same_any fd fd p3 p4 c3 c4 fl fl _ hfl16 hfl16 (G3.out _ (by first | exact bel_drew0 | exact gx_below _ _ _ | exact bel_drew)) (G4.out _ (by first | exact bel_drew0 | exact gx_below _ _ _ | exact bel_drew)))) ?_; rintro e w' ⟨rfl, ⟨n2, os2⟩, rfl⟩)
      | (go_simp; go_at_call 20; with_reducible refine Calls.mono (calls_bel (W0 := X4) (gx_below _ _ _) (Same_any dU dU pU pV cU cV lU lU _ hlU16 hlU16 hcU hcV)) ?_; rintro e w' ⟨rfl, ⟨n2, os2⟩, rfl⟩; clear hcU hcV)
      | (go_simp; go_at_call 20; with_reducible refine Calls.mono (calls_bel (W0 := X4) (gx_below _ _ _) (Same_any dD dD pD pE cD cE lD lD _ hlD16 hlD16 hcD hcE)) ?_; rintro e w' ⟨rfl, ⟨n2, os2⟩, rfl⟩)
      | (go_simp; go_at_call 30; refine Calls.mono (H30.out _ (GA.out _ (gx_below _ _ _))) ?_; rintro e w' ⟨pU, cU, rfl, hcU, hb'⟩; replace hcV := hcV.below hb'; obtain ⟨⟨n5, os5⟩, rfl⟩ := grow_gx hb'; clear hb')
      | (go_simp; go_at_call 30; refine Calls.mono (H30.out _ (GA.out _ (gx_below _ _ _))) ?_; rintro e w' ⟨pU, cU, rfl, hcU, hb'⟩; obtain ⟨⟨n5, os5⟩, rfl⟩ := grow_gx hb'; clear hb')
      | (go_simp; go_at_call 31; refine Calls.mono (H31.out _ (GA.out _ (gx_below _ _ _))) ?_; rintro e w' ⟨pV, cV, rfl, hcV, hb'⟩; replace hcU := hcU.below hb'; obtain ⟨⟨n5, os5⟩, rfl⟩ := grow_gx hb'; clear hb')
      | (go_simp; go_at_call 31; refine Calls.mono (H31.out _ (GA.out _ (gx_below _ _ _))) ?_; rintro e w' ⟨pV, cV, rfl, hcV, hb'⟩; obtain ⟨⟨n5, os5⟩, rfl⟩ := grow_gx hb'; clear hb')
      | (go_simp; go_at_call 32; refine Calls.mono (H32.out _ (GA.out _ (gx_below _ _ _))) ?_; rintro e w' ⟨pD, cD, rfl, hcD, hb'⟩; replace hcE := hcE.below hb'; obtain ⟨⟨n5, os5⟩, rfl⟩ := grow_gx hb'; clear hb')
      | (go_simp; go_at_call 32; refine Calls.mono (H32.out _ (GA.out _ (gx_below _ _ _))) ?_; rintro e w' ⟨pD, cD, rfl, hcD, hb'⟩; obtain ⟨⟨n5, os5⟩, rfl⟩ := grow_gx hb'; clear hb')
      | (go_simp; go_at_call 33; refine Calls.mono (H33.out _ (GA.out _ (gx_below _ _ _))) ?_; rintro e w' ⟨pE, cE, rfl, hcE, hb'⟩; replace hcD := hcD.below hb'; obtain ⟨⟨n5, os5⟩, rfl⟩ := grow_gx hb'; clear hb')
      | (go_simp; go_at_call 33; refine Calls.mono (H33.out _ (GA.out _ (gx_below _ _ _))) ?_; rintro e w' ⟨pE, cE, rfl, hcE, hb'⟩; obtain ⟨⟨n5, os5⟩, rfl⟩ := grow_gx hb'; clear hb'))
    all_goals go_wp2
    all_goals go_ret
    all_goals exact ⟨ret_bool (by simp), hBX.trans ((gx_below X4 _ _).mono hBX.size)⟩
  · have hr' : allRight [A] = false := by simpa using hr
    rw [hr'] at hR
    go_wp2_with (go_at_call 21; refine hR.mono ?_; rintro e w2 ⟨rfl, hb2⟩)
    go_ret
    exact ⟨rfl, hbA.trans (hb2.mono hbA.size)⟩
end Go.Proofs.YtibnmiigfiofmaaDoor
