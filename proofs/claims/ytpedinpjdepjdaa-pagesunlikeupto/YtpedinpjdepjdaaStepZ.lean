/- One step on both: Resize. -/
import Derived.Test.YtpedinpjdepjdaaSize
import Derived.Test.YtpedinpjdepjdaaJoined
namespace Go.Proofs.Ytpedinpjdepjdaa
open Go.RowKit Go.Lib
theorem rsz_fit (d : List UInt8) (n : Nat) : rsz d n = fit d n := by
  unfold rsz fit
  apply List.ext_getElem
  · simp; omega
  · intro j h1 h2
    simp only [List.length_map, List.length_range] at h1
    rw [List.getElem_map, List.getElem_range, List.getElem_append]
    split
    · next h => simp only [List.length_take] at h; rw [List.getElem_take, List.getD_eq_getElem?_getD, List.getElem?_eq_getElem (by omega)]; rfl
    · next h => simp only [List.length_take] at h; rw [List.getElem_replicate, List.getD_eq_getElem?_getD, List.getElem?_eq_none (by omega)]; rfl
theorem row_mono {w : World} {b b' e size n : Nat} {v : Value} {xs : List Value} (h : w.ownsRow b e size v n xs) (hb : b' ≤ b) : w.ownsRow b' e size v n xs := by
  refine ⟨h.1, ?_⟩
  rcases h.2 with h | ⟨g, cap, cur, h1, h2, h3⟩
  · exact .inl h
  · exact .inr ⟨g, cap, cur, h1, by omega, h3⟩
theorem row_fz {w w' : World} {b n : Nat} {v : Value} {xs : List Value} (h : w.ownsRow b 5 1 v n xs) (hf : Fz w w') : w'.ownsRow b 5 1 v n xs := by
  refine ⟨h.1, ?_⟩
  rcases h.2 with h | ⟨g, cap, cur, h1, h2, h3, h4⟩
  · exact .inl h
  · exact .inr ⟨g, cap, cur, h1, h2, hf.block h3 (by decide) (by decide) (by decide), h4⟩
/-- The object and the bytes beside it. -/
structure Both (w : World) (b0 Bb : Nat) (v : Value) (d : List UInt8) : Prop where
  obj : ∃ ls, BAt w b0 Bb d ls
  row : w.ownsRow 0 5 1 v d.length (u8s d)
  len : d.length ≤ 4096
set_option maxRecDepth 100000 in
set_option maxHeartbeats 2000000 in
theorem step_resize (b0 Bb : Nat) (v : Value) (d : List UInt8) (a n x : Int) (pv : Value) (w : World) (h : Both w b0 Bb v d) (hb : b0 ≤ w.heap.size) :
    Calls Try.prog 9 #[.pointer (some ⟨Bb, 0, none⟩), v, .agg #[.int .i64 3, .int .i64 a, .int .i64 n, pv, .int .u64 x]] w fun e w' => ∃ v' d', e = .returned (.tuple #[v', .bool true]) ∧ Both w' b0 Bb v' d' ∧ Below b0 w w' ∧ Fz w w' := by
  obtain ⟨⟨ls, hA⟩, hr, hl⟩ := h
  by_cases hs : sizeR n = true
  · obtain ⟨N, rfl, hN⟩ : ∃ N : Nat, n = (N : Int) ∧ N ≤ 4096 := by
      simp only [sizeR, Bool.and_eq_true, decide_eq_true_eq] at hs
      exact ⟨n.toNat, by omega, by omega⟩
    have HR : Hid (∀ W, Below w.heap.size w W → Calls Try.prog 21 #[v, .int .i64 N] W fun e w' => ∃ v', e = .returned (.tuple #[v', .int .i64 0]) ∧ w'.ownsRow W.heap.size 5 1 v' (fit d N).length (u8s (fit d N)) ∧ Below W.heap.size W w') := fun W hW => (refResize_any 0 v d N W hl (row_below hr hW)).mono fun e w' hh => by
      rcases hh with ⟨h0, _⟩ | ⟨_, hh⟩
      · rw [hs] at h0; cases h0
      · rw [Int.toNat_natCast, rsz_fit] at hh; exact hh
    have HZ : Hid (∀ W, Below w.heap.size w W → Calls Try.prog 15 #[.pointer (some ⟨Bb, 0, none⟩), .int .i64 N] W fun e w' => e = .returned (.int .i64 0) ∧ (∃ ls', BAt w' b0 Bb (fit d N) ls') ∧ Below b0 W w' ∧ Fz W w') := fun W hW => Resize_z b0 Bb N d ls W (hA.below hW) hN
    clear hA hr
    go_enter Try.func9, Try.ntmps9
    have hbA : Below w.heap.size w (w.alloc (.cells #[.int .i64 3, .int .i64 a, .int .i64 N, pv, .int .u64 x] 35)) := (Below.refl _ _).alloc (Nat.le_refl _) _
    go_wp2_with (go_at_call 21; refine (HR.out _ hbA).mono ?_; rintro e w1 ⟨v1, rfl, ho1, hb1⟩; refine Hid.out ?_)
    refine Lib.hid ?_
    have cN : w1.cell? ⟨w.heap.size, 2, none⟩ = some (.int .i64 N) := by rw [hb1.cell (p := ⟨w.heap.size, 2, none⟩) (by simp)]; simp [go_sem]
    have hbB : Below w.heap.size w w1 := hbA.trans (hb1.mono (by simp))
    have HZ1 := Lib.hid (HZ.out _ hbB)
    have HO1 := Lib.hid ho1
    clear ho1 hb1
    go_wp2_with (go_at_call 15; refine HZ1.out.mono ?_; rintro e w2 ⟨rfl, hA2, hb2, hf2⟩)
    go_ret2
    refine ⟨_, fit d N, rfl, ⟨hA2, row_fz (row_mono HO1.out (Nat.zero_le _)) hf2, ?_⟩, (hbB.mono hb).trans hb2, (Fr.below hbB).fz.trans hf2⟩
    rw [← rsz_fit]; simp [rsz]; omega
  · have hs' : sizeR n = false := by simpa using hs
    have hn : n < 0 ∨ 4096 < n := by
      simp only [sizeR, Bool.and_eq_false_iff, decide_eq_false_iff_not] at hs'
      omega
    have HR : Hid (∀ W, Below w.heap.size w W → Calls Try.prog 21 #[v, .int .i64 n] W fun e w' => e = .returned (.tuple #[v, .int .i64 1]) ∧ w' = W) := fun W hW => (refResize_any 0 v d n W hl (row_below hr hW)).mono fun e w' hh => by
      rcases hh with ⟨_, hh⟩ | ⟨h0, _⟩
      · exact hh
      · rw [hs'] at h0; cases h0
    have HZ : Hid (∀ W, Calls Try.prog 15 #[.pointer (some ⟨Bb, 0, none⟩), .int .i64 n] W fun e w' => e = .returned (.int .i64 1) ∧ w' = W) := fun W => Resize_no Bb n W hn
    have HA := Lib.hid hA
    have HRow := Lib.hid hr
    clear hA hr
    go_enter Try.func9, Try.ntmps9
    have hbA : Below w.heap.size w (w.alloc (.cells #[.int .i64 3, .int .i64 a, .int .i64 n, pv, .int .u64 x] 35)) := (Below.refl _ _).alloc (Nat.le_refl _) _
    go_wp2_with (go_at_call 21; refine (HR.out _ hbA).mono ?_; rintro e w1 ⟨rfl, hw1⟩; rw [hw1]; clear hw1 w1; refine Hid.out ?_)
    refine Lib.hid ?_
    go_wp2_with (go_at_call 15; refine (HZ.out _).mono ?_; rintro e w2 ⟨rfl, hw2⟩; rw [hw2]; clear hw2 w2)
    go_ret2
    exact ⟨_, d, rfl, ⟨⟨ls, HA.out.below hbA⟩, row_below HRow.out hbA, hl⟩, hbA.mono hb, (Fr.below hbA).fz⟩
end Go.Proofs.Ytpedinpjdepjdaa
