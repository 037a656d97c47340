/- What turn, Up and Down of the reference answer, for every label. -/
import Derived.Test.YtnjmgholoigpkaaPut
namespace Go.Proofs.Ytnjmgholoigpkaa
open Go.RowKit Go.Sort

theorem turn_put (d f t : Int) (xs : List (Int × Int)) (k : Nat) (h : k < xs.length) : shortS d (turnS f t (xs.take (k + 1))) = putS d (shortS d (turnS f t (xs.take k))) xs[k].1 (ot f t xs[k].2) := by
  rw [turn_snoc f t xs k h]
  unfold shortS putS
  rw [List.filter_append]
  by_cases h : (ot f t xs[k].2 != d) = true <;> simp [h]

set_option maxRecDepth 100000 in
set_option maxHeartbeats 1000000 in
theorem rturn_any (d f t : Int) (p : Option Addr) (cap : Nat) (xs : List (Int × Int)) (w : World) (hm : (xs.length + 1) * 16 ≤ 140737488355328) (hc : CatsAt w p xs) :
    Calls Try.prog 63 #[.agg #[.int .i64 d, .slice p xs.length cap], .int .i64 f, .int .i64 t] w fun e w' => ∃ v, e = .returned (.agg #[.int .i64 (ot f t d), v]) ∧
      Rw w.heap.size w' v (shortS (ot f t d) (turnS f t xs)) ∧ Below w.heap.size w w' := by
  obtain ⟨W0, hW0⟩ : ∃ W0, W0 = ((w.alloc (.cells #[.int .i64 d, .slice p xs.length cap] 24)).alloc (.cells #[.int .i64 0, .slice none 0 0] 24)).alloc (.cells #[.int .i64 (ot f t d), .slice none 0 0] 24) := ⟨_, rfl⟩
  have hB0 : Below w.heap.size w W0 := by rw [hW0]; go_grown
  have hs0 : W0.heap.size = w.heap.size + 3 := by rw [hW0]; simp
  have u0 : W0.cell? ⟨w.heap.size + 1, 0, none⟩ = some (.int .i64 0) := by rw [hW0]; simp [go_sem]
  have u1 : W0.cell? ⟨w.heap.size + 1, 1, none⟩ = some (.slice none 0 0) := by rw [hW0]; simp [go_sem]
  have o0 : W0.cell? ⟨w.heap.size + 2, 0, none⟩ = some (.int .i64 (ot f t d)) := by rw [hW0]; simp [go_sem]
  have o1 : W0.cell? ⟨w.heap.size + 2, 1, none⟩ = some (.slice none 0 0) := by rw [hW0]; simp [go_sem]
  have uf : ∀ o, W0.frozen? ⟨w.heap.size + 1, o, none⟩ = false := fun o => by rw [hW0]; simp [go_sem]
  have of : ∀ o, W0.frozen? ⟨w.heap.size + 2, o, none⟩ = false := fun o => by rw [hW0]; simp [go_sem]
  go_enter Try.func63, Try.ntmps63
  by_cases hd : (d == f) = true
  · have e0 : ot f t d = t := by simp only [ot]; rw [if_pos hd]
    rw [e0] at hW0 o0 ⊢
    go_wp2
    rw [← hW0]
    clear hW0
    go_loopw [23] (fun i wr => ∃ (k : Nat) (v : Value), k ≤ xs.length ∧ i = .int .i64 k ∧ Rw (w.heap.size + 3) wr v (shortS t (turnS f t (xs.take k))) ∧ Below w.heap.size w wr ∧ w.heap.size + 3 ≤ wr.heap.size ∧ (wr.cell? ⟨w.heap.size + 1, 0, none⟩ = some (.int .i64 0) ∧ wr.cell? ⟨w.heap.size + 1, 1, none⟩ = some (.slice none 0 0) ∧ wr.cell? ⟨w.heap.size + 2, 0, none⟩ = some (.int .i64 t) ∧ wr.cell? ⟨w.heap.size + 2, 1, none⟩ = some v) ∧ (∀ o, wr.frozen? ⟨w.heap.size + 1, o, none⟩ = false) ∧ (∀ o, wr.frozen? ⟨w.heap.size + 2, o, none⟩ = false)) (fun i _ => xs.length - (intOf i).toNat)
    case atStart => exact ⟨0, .slice none 0 0, Nat.zero_le _, rfl, .inl ⟨rfl, rfl⟩, hB0, by omega, ⟨u0, u1, o0, o1⟩, uf, of⟩
    case round =>
      obtain ⟨k, v, hk, rfl, hR, hB, hz, ⟨r0, r1, l0, l1⟩, rf, lf⟩ := hrel
      clear u0 u1 o0 o1 uf of hs0 hB0
      by_cases hlt : k < xs.length
      · obtain ⟨b, off, rfl, hbl, c0, c1⟩ := hc.get hB (Below.refl _ _) (Nat.le_refl _) k hlt
        clear hc
        have HS : Hid (shortS t (turnS f t (xs.take (k + 1))) = putS t (shortS t (turnS f t (xs.take k))) xs[k].1 (ot f t xs[k].2)) := turn_put t f t xs k hlt
        have hle : (shortS t (turnS f t (xs.take k))).length ≤ k := by
          refine Nat.le_trans (short_le _ _) ?_
          rw [turn_len]; exact List.length_take_le _ _
        have hbA : Below wr.heap.size wr (wr.alloc (.cells #[.int .i64 xs[k].1, .int .i64 xs[k].2] 50)) := by go_grown
        have hz1 : w.heap.size + 1 < wr.heap.size := by omega
        have hz2 : w.heap.size + 2 < wr.heap.size := by omega
        have hP := Put_any (w.heap.size + 3) t xs[k].1 (ot f t xs[k].2) v (shortS t (turnS f t (xs.take k))) (wr.alloc (.cells #[.int .i64 xs[k].1, .int .i64 xs[k].2] 50)) (by omega) (by simp <;> omega) (hR.below hbA)
        by_cases hx : (xs[k].2 == f) = true
        · have e1 : ot f t xs[k].2 = t := by simp only [ot]; rw [if_pos hx]
          rw [e1] at hP HS
          go_wp2_with (go_at_call 50; refine hP.mono ?_; rintro e w5 ⟨v5, rfl, hR5, hb5⟩; refine Hid.out ?_)
          refine Lib.hid ?_
          have hb6 : Below wr.heap.size wr w5 := hbA.trans (hb5.mono hbA.size)
          have hz5 : wr.heap.size ≤ w5.heap.size := hb6.size
          have r0' := (hb6.cell (p := ⟨w.heap.size + 1, 0, none⟩) (by simp <;> omega)).trans r0
          have r1' := (hb6.cell (p := ⟨w.heap.size + 1, 1, none⟩) (by simp <;> omega)).trans r1
          have l0' := (hb6.cell (p := ⟨w.heap.size + 2, 0, none⟩) (by simp <;> omega)).trans l0
          have l1' := (hb6.cell (p := ⟨w.heap.size + 2, 1, none⟩) (by simp <;> omega)).trans l1
          have rf' : ∀ o, w5.frozen? ⟨w.heap.size + 1, o, none⟩ = false := fun o => (hb6.frozen (p := ⟨w.heap.size + 1, o, none⟩) (by simp <;> omega)).trans (rf o)
          have lf' : ∀ o, w5.frozen? ⟨w.heap.size + 2, o, none⟩ = false := fun o => (hb6.frozen (p := ⟨w.heap.size + 2, o, none⟩) (by simp <;> omega)).trans (lf o)
          obtain ⟨p5, cap5, rfl, hc5, hcap5⟩ := hR5.out
          clear r0 r1 l0 l1 rf lf
          go_wp2
          go_roundw
          case rel =>
            refine ⟨k + 1, _, by omega, by go_num, by rw [HS.out]; exact Rw.set (Rw.set hR5 (by simp) _) (by simp) _, ((hB.trans (hb6.mono (by omega))).setCell (p := ⟨w.heap.size + 1 + 1, 0, none⟩) (by simp <;> omega) _).setCell (p := ⟨w.heap.size + 1 + 1, 1, none⟩) (by simp <;> omega) _, by simp; omega, ⟨by simp [go_sem, r0'], by simp [go_sem, r1'], by simp [go_sem, l0'], World.cell?_setCell_same' _ _ _ (by simp [go_sem, l1'])⟩, fun o => by rw [World.frozen?_setCell, World.frozen?_setCell]; exact rf' o, fun o => by rw [World.frozen?_setCell, World.frozen?_setCell]; exact lf' o⟩
          case measure => simp [intOf]; omega
        · have hx' : (xs[k].2 == f) = false := by simpa using hx
          have e1 : ot f t xs[k].2 = xs[k].2 := by simp only [ot]; rw [if_neg hx]
          rw [e1] at hP HS
          go_wp2_with (go_at_call 50; refine hP.mono ?_; rintro e w5 ⟨v5, rfl, hR5, hb5⟩; refine Hid.out ?_)
          refine Lib.hid ?_
          have hb6 : Below wr.heap.size wr w5 := hbA.trans (hb5.mono hbA.size)
          have hz5 : wr.heap.size ≤ w5.heap.size := hb6.size
          have r0' := (hb6.cell (p := ⟨w.heap.size + 1, 0, none⟩) (by simp <;> omega)).trans r0
          have r1' := (hb6.cell (p := ⟨w.heap.size + 1, 1, none⟩) (by simp <;> omega)).trans r1
          have l0' := (hb6.cell (p := ⟨w.heap.size + 2, 0, none⟩) (by simp <;> omega)).trans l0
          have l1' := (hb6.cell (p := ⟨w.heap.size + 2, 1, none⟩) (by simp <;> omega)).trans l1
          have rf' : ∀ o, w5.frozen? ⟨w.heap.size + 1, o, none⟩ = false := fun o => (hb6.frozen (p := ⟨w.heap.size + 1, o, none⟩) (by simp <;> omega)).trans (rf o)
          have lf' : ∀ o, w5.frozen? ⟨w.heap.size + 2, o, none⟩ = false := fun o => (hb6.frozen (p := ⟨w.heap.size + 2, o, none⟩) (by simp <;> omega)).trans (lf o)
          obtain ⟨p5, cap5, rfl, hc5, hcap5⟩ := hR5.out
          clear r0 r1 l0 l1 rf lf
          go_wp2
          go_roundw
          case rel =>
            refine ⟨k + 1, _, by omega, by go_num, by rw [HS.out]; exact Rw.set (Rw.set hR5 (by simp) _) (by simp) _, ((hB.trans (hb6.mono (by omega))).setCell (p := ⟨w.heap.size + 1 + 1, 0, none⟩) (by simp <;> omega) _).setCell (p := ⟨w.heap.size + 1 + 1, 1, none⟩) (by simp <;> omega) _, by simp; omega, ⟨by simp [go_sem, r0'], by simp [go_sem, r1'], by simp [go_sem, l0'], World.cell?_setCell_same' _ _ _ (by simp [go_sem, l1'])⟩, fun o => by rw [World.frozen?_setCell, World.frozen?_setCell]; exact rf' o, fun o => by rw [World.frozen?_setCell, World.frozen?_setCell]; exact lf' o⟩
          case measure => simp [intOf]; omega
      · have hk' : xs.take k = xs := List.take_of_length_le (by omega)
        rw [hk'] at hR
        clear hk' hc
        obtain ⟨p', cap', rfl, hc', hcap'⟩ := hR.out
        go_wp2
        refine bodyPost_ret (by simp [results, Try.results63, go_sem, r0, r1]; rfl) rfl ⟨_, rfl, ?_, ?_⟩
        · exact Rw.mono (Rw.set (Rw.set hR (by simp) _) (by simp) _) (by omega)
        · exact (hB.setCell (p := ⟨w.heap.size + 1, 0, none⟩) (by simp) _).setCell (p := ⟨w.heap.size + 1, 1, none⟩) (by simp) _
  · have hd' : (d == f) = false := by simpa using hd
    have e0 : ot f t d = d := by simp only [ot]; rw [if_neg hd]
    rw [e0] at hW0 o0 ⊢
    go_wp2
    rw [← hW0]
    clear hW0
    go_loopw [23] (fun i wr => ∃ (k : Nat) (v : Value), k ≤ xs.length ∧ i = .int .i64 k ∧ Rw (w.heap.size + 3) wr v (shortS d (turnS f t (xs.take k))) ∧ Below w.heap.size w wr ∧ w.heap.size + 3 ≤ wr.heap.size ∧ (wr.cell? ⟨w.heap.size + 1, 0, none⟩ = some (.int .i64 0) ∧ wr.cell? ⟨w.heap.size + 1, 1, none⟩ = some (.slice none 0 0) ∧ wr.cell? ⟨w.heap.size + 2, 0, none⟩ = some (.int .i64 d) ∧ wr.cell? ⟨w.heap.size + 2, 1, none⟩ = some v) ∧ (∀ o, wr.frozen? ⟨w.heap.size + 1, o, none⟩ = false) ∧ (∀ o, wr.frozen? ⟨w.heap.size + 2, o, none⟩ = false)) (fun i _ => xs.length - (intOf i).toNat)
    case atStart => exact ⟨0, .slice none 0 0, Nat.zero_le _, rfl, .inl ⟨rfl, rfl⟩, hB0, by omega, ⟨u0, u1, o0, o1⟩, uf, of⟩
    case round =>
      obtain ⟨k, v, hk, rfl, hR, hB, hz, ⟨r0, r1, l0, l1⟩, rf, lf⟩ := hrel
      clear u0 u1 o0 o1 uf of hs0 hB0
      by_cases hlt : k < xs.length
      · obtain ⟨b, off, rfl, hbl, c0, c1⟩ := hc.get hB (Below.refl _ _) (Nat.le_refl _) k hlt
        clear hc
        have HS : Hid (shortS d (turnS f t (xs.take (k + 1))) = putS d (shortS d (turnS f t (xs.take k))) xs[k].1 (ot f t xs[k].2)) := turn_put d f t xs k hlt
        have hle : (shortS d (turnS f t (xs.take k))).length ≤ k := by
          refine Nat.le_trans (short_le _ _) ?_
          rw [turn_len]; exact List.length_take_le _ _
        have hbA : Below wr.heap.size wr (wr.alloc (.cells #[.int .i64 xs[k].1, .int .i64 xs[k].2] 50)) := by go_grown
        have hz1 : w.heap.size + 1 < wr.heap.size := by omega
        have hz2 : w.heap.size + 2 < wr.heap.size := by omega
        have hP := Put_any (w.heap.size + 3) d xs[k].1 (ot f t xs[k].2) v (shortS d (turnS f t (xs.take k))) (wr.alloc (.cells #[.int .i64 xs[k].1, .int .i64 xs[k].2] 50)) (by omega) (by simp <;> omega) (hR.below hbA)
        by_cases hx : (xs[k].2 == f) = true
        · have e1 : ot f t xs[k].2 = t := by simp only [ot]; rw [if_pos hx]
          rw [e1] at hP HS
          go_wp2_with (go_at_call 50; refine hP.mono ?_; rintro e w5 ⟨v5, rfl, hR5, hb5⟩; refine Hid.out ?_)
          refine Lib.hid ?_
          have hb6 : Below wr.heap.size wr w5 := hbA.trans (hb5.mono hbA.size)
          have hz5 : wr.heap.size ≤ w5.heap.size := hb6.size
          have r0' := (hb6.cell (p := ⟨w.heap.size + 1, 0, none⟩) (by simp <;> omega)).trans r0
          have r1' := (hb6.cell (p := ⟨w.heap.size + 1, 1, none⟩) (by simp <;> omega)).trans r1
          have l0' := (hb6.cell (p := ⟨w.heap.size + 2, 0, none⟩) (by simp <;> omega)).trans l0
          have l1' := (hb6.cell (p := ⟨w.heap.size + 2, 1, none⟩) (by simp <;> omega)).trans l1
          have rf' : ∀ o, w5.frozen? ⟨w.heap.size + 1, o, none⟩ = false := fun o => (hb6.frozen (p := ⟨w.heap.size + 1, o, none⟩) (by simp <;> omega)).trans (rf o)
          have lf' : ∀ o, w5.frozen? ⟨w.heap.size + 2, o, none⟩ = false := fun o => (hb6.frozen (p := ⟨w.heap.size + 2, o, none⟩) (by simp <;> omega)).trans (lf o)
          obtain ⟨p5, cap5, rfl, hc5, hcap5⟩ := hR5.out
          clear r0 r1 l0 l1 rf lf
          go_wp2
          go_roundw
          case rel =>
            refine ⟨k + 1, _, by omega, by go_num, by rw [HS.out]; exact Rw.set (Rw.set hR5 (by simp) _) (by simp) _, ((hB.trans (hb6.mono (by omega))).setCell (p := ⟨w.heap.size + 1 + 1, 0, none⟩) (by simp <;> omega) _).setCell (p := ⟨w.heap.size + 1 + 1, 1, none⟩) (by simp <;> omega) _, by simp; omega, ⟨by simp [go_sem, r0'], by simp [go_sem, r1'], by simp [go_sem, l0'], World.cell?_setCell_same' _ _ _ (by simp [go_sem, l1'])⟩, fun o => by rw [World.frozen?_setCell, World.frozen?_setCell]; exact rf' o, fun o => by rw [World.frozen?_setCell, World.frozen?_setCell]; exact lf' o⟩
          case measure => simp [intOf]; omega
        · have hx' : (xs[k].2 == f) = false := by simpa using hx
          have e1 : ot f t xs[k].2 = xs[k].2 := by simp only [ot]; rw [if_neg hx]
          rw [e1] at hP HS
          go_wp2_with (go_at_call 50; refine hP.mono ?_; rintro e w5 ⟨v5, rfl, hR5, hb5⟩; refine Hid.out ?_)
          refine Lib.hid ?_
          have hb6 : Below wr.heap.size wr w5 := hbA.trans (hb5.mono hbA.size)
          have hz5 : wr.heap.size ≤ w5.heap.size := hb6.size
          have r0' := (hb6.cell (p := ⟨w.heap.size + 1, 0, none⟩) (by simp <;> omega)).trans r0
          have r1' := (hb6.cell (p := ⟨w.heap.size + 1, 1, none⟩) (by simp <;> omega)).trans r1
          have l0' := (hb6.cell (p := ⟨w.heap.size + 2, 0, none⟩) (by simp <;> omega)).trans l0
          have l1' := (hb6.cell (p := ⟨w.heap.size + 2, 1, none⟩) (by simp <;> omega)).trans l1
          have rf' : ∀ o, w5.frozen? ⟨w.heap.size + 1, o, none⟩ = false := fun o => (hb6.frozen (p := ⟨w.heap.size + 1, o, none⟩) (by simp <;> omega)).trans (rf o)
          have lf' : ∀ o, w5.frozen? ⟨w.heap.size + 2, o, none⟩ = false := fun o => (hb6.frozen (p := ⟨w.heap.size + 2, o, none⟩) (by simp <;> omega)).trans (lf o)
          obtain ⟨p5, cap5, rfl, hc5, hcap5⟩ := hR5.out
          clear r0 r1 l0 l1 rf lf
          go_wp2
          go_roundw
          case rel =>
            refine ⟨k + 1, _, by omega, by go_num, by rw [HS.out]; exact Rw.set (Rw.set hR5 (by simp) _) (by simp) _, ((hB.trans (hb6.mono (by omega))).setCell (p := ⟨w.heap.size + 1 + 1, 0, none⟩) (by simp <;> omega) _).setCell (p := ⟨w.heap.size + 1 + 1, 1, none⟩) (by simp <;> omega) _, by simp; omega, ⟨by simp [go_sem, r0'], by simp [go_sem, r1'], by simp [go_sem, l0'], World.cell?_setCell_same' _ _ _ (by simp [go_sem, l1'])⟩, fun o => by rw [World.frozen?_setCell, World.frozen?_setCell]; exact rf' o, fun o => by rw [World.frozen?_setCell, World.frozen?_setCell]; exact lf' o⟩
          case measure => simp [intOf]; omega
      · have hk' : xs.take k = xs := List.take_of_length_le (by omega)
        rw [hk'] at hR
        clear hk' hc
        obtain ⟨p', cap', rfl, hc', hcap'⟩ := hR.out
        go_wp2
        refine bodyPost_ret (by simp [results, Try.results63, go_sem, r0, r1]; rfl) rfl ⟨_, rfl, ?_, ?_⟩
        · exact Rw.mono (Rw.set (Rw.set hR (by simp) _) (by simp) _) (by omega)
        · exact (hB.setCell (p := ⟨w.heap.size + 1, 0, none⟩) (by simp) _).setCell (p := ⟨w.heap.size + 1, 1, none⟩) (by simp) _

theorem rUp_any (d : Int) (p : Option Addr) (cap : Nat) (xs : List (Int × Int)) (w : World) (hm : (xs.length + 1) * 16 ≤ 140737488355328) (hc : CatsAt w p xs) :
    Calls Try.prog 39 #[.agg #[.int .i64 d, .slice p xs.length cap]] w fun e w' => ∃ v, e = .returned (.agg #[.int .i64 (ot 0 5 d), v]) ∧
      Rw w.heap.size w' v (shortS (ot 0 5 d) (turnS 0 5 xs)) ∧ Below w.heap.size w w' := by
  have hW : Below w.heap.size w ((w.alloc (.cells #[.int .i64 d, .slice p xs.length cap] 24)).alloc (.cells #[.int .i64 0, .slice none 0 0] 24)) := by go_grown
  have hT := rturn_any d 0 5 p cap xs _ hm (hc.below hW)
  go_enter Try.func39, Try.ntmps39
  go_wp2_with (go_at_call 63; refine hT.mono ?_; rintro e w5 ⟨v, rfl, hR5, hb5⟩; have s0 : w5.cell? ⟨w.heap.size + 1, 0, none⟩ = some (.int .i64 0) := (hb5.cell (p := ⟨w.heap.size + 1, 0, none⟩) (by simp)).trans (by simp [go_sem]); have s1 : w5.cell? ⟨w.heap.size + 1, 1, none⟩ = some (.slice none 0 0) := (hb5.cell (p := ⟨w.heap.size + 1, 1, none⟩) (by simp)).trans (by simp [go_sem]); have sf : ∀ o, w5.frozen? ⟨w.heap.size + 1, o, none⟩ = false := (fun o => (hb5.frozen (p := ⟨w.heap.size + 1, o, none⟩) (by simp)).trans (by simp [go_sem])); obtain ⟨p5, cap5, rfl, hc5, hcap5⟩ := hR5.out)
  refine bodyPost_ret (by simp [results, Try.results39, go_sem, s0, s1]; rfl) rfl ⟨_, rfl, ?_, ?_⟩
  · exact Rw.mono (Rw.set (Rw.set hR5 (by simp) _) (by simp) _) (by simp <;> omega)
  · exact ((hW.trans (hb5.mono hW.size)).setCell (p := ⟨w.heap.size + 1, 0, none⟩) (by simp) _).setCell (p := ⟨w.heap.size + 1, 1, none⟩) (by simp) _

end Go.Proofs.Ytnjmgholoigpkaa
