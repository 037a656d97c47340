/- One step on both: Read and Word. -/
import Derived.Test.YtpedinpjdepjdaaUnlikeA
import Derived.Test.YtpedinpjdepjdaaOps3
namespace Go.Proofs.Ytpedinpjdepjdaa
open Go.RowKit Go.Lib
theorem fit_eq (d : Nat) (a n : Int) : fitsB d a n = fitR d a n := by
  unfold fitsB fitR
  rw [Bool.eq_iff_iff]
  simp only [decide_eq_true_eq, Bool.and_eq_true]
  omega
theorem num_eq : ∀ l : List UInt8, numR l = numL l
  | [] => rfl
  | b :: l => by unfold numR numL; rw [num_eq l]
/-- What Read of both answers. -/
theorem reads_both (b0 Bb : Nat) (v : Value) (d : List UInt8) (a n : Int) (w : World) (h : Both w b0 Bb v d) (ha : a ≤ 9223372036854775807) : ∃ (S : ByteArray) (E : Int), S.size ≤ n.toNat ∧
    (∀ W, Below w.heap.size w W → Calls Try.prog 14 #[.pointer (some ⟨Bb, 0, none⟩), .int .i64 a, .int .i64 n] W fun e w' => e = .returned (.tuple #[.string S, .int .i64 E]) ∧ Below W.heap.size W w') ∧
    (∀ W, Below w.heap.size w W → Calls Try.prog 18 #[v, .int .i64 a, .int .i64 n] W fun e w' => e = .returned (.tuple #[.string S, .int .i64 E]) ∧ Below W.heap.size W w') ∧ (fitR d.length a n = true → S = ⟨((d.drop a.toNat).take n.toNat).toArray⟩) := by
  obtain ⟨⟨ls, hA⟩, hr, hl⟩ := h
  cases hf : fitR d.length a n with
  | true =>
    refine ⟨⟨((d.drop a.toNat).take n.toNat).toArray⟩, 0, ?_, fun W hW => ?_, fun W hW => refRead_any 0 v d a n W hl (row_below hr hW) hf, fun _ => rfl⟩
    · show ((d.drop a.toNat).take n.toNat).toArray.size ≤ _
      simp; omega
    · simp only [fitR, Bool.and_eq_true, decide_eq_true_eq] at hf
      obtain ⟨A, rfl⟩ : ∃ A : Nat, a = (A : Int) := ⟨a.toNat, by omega⟩
      obtain ⟨M, rfl⟩ : ∃ M : Nat, n = (M : Int) := ⟨n.toNat, by omega⟩
      have := Read_any b0 Bb A M d ls W (hA.below hW) (by omega)
      simpa using this
  | false =>
    refine ⟨⟨#[]⟩, 9, Nat.zero_le _, fun W hW => Read_no b0 Bb a n d ls W (hA.below hW) ha (by rw [fit_eq]; exact hf), fun W hW => (refRead_no 0 v d a n W hl (row_below hr hW) hf).mono fun e w' ⟨h1, h2⟩ => ⟨h1, by rw [h2]; exact Below.refl _ _⟩, fun h => by cases h⟩
theorem words_both (b0 Bb : Nat) (v : Value) (d : List UInt8) (a : Int) (w : World) (h : Both w b0 Bb v d) (ha : a ≤ 9223372036854775807) : ∃ (z E : Int),
    (∀ W, Below w.heap.size w W → Calls Try.prog 22 #[.pointer (some ⟨Bb, 0, none⟩), .int .i64 a] W fun e w' => e = .returned (.tuple #[.int .u64 z, .int .i64 E]) ∧ Below W.heap.size W w') ∧
    (∀ W, Below w.heap.size w W → Calls Try.prog 23 #[v, .int .i64 a] W fun e w' => e = .returned (.tuple #[.int .u64 z, .int .i64 E]) ∧ Below W.heap.size W w') := by
  obtain ⟨⟨ls, hA⟩, hr, hl⟩ := h
  cases hf : fitR d.length a 8 with
  | true =>
    have hf' := hf
    simp only [fitR, Bool.and_eq_true, decide_eq_true_eq] at hf'
    obtain ⟨A, rfl⟩ : ∃ A : Nat, a = (A : Int) := ⟨a.toNat, by omega⟩
    refine ⟨(numL ((d.drop A).take 8) : Nat), 0, fun W hW => Word_any b0 Bb A d ls W (hA.below hW) (by omega), fun W hW => ?_⟩
    have := Word_of v A ⟨((d.drop A).take 8).toArray⟩ 0 W (by show ((d.drop A).take 8).toArray.size ≤ 8; simp; omega) (by simpa using refRead_any 0 v d A 8 W hl (row_below hr hW) hf)
    rw [num_eq] at this
    simpa using this
  | false =>
    refine ⟨0, 9, fun W hW => Word_no b0 Bb a d ls W (hA.below hW) ha (by rw [fit_eq]; exact hf), fun W hW => ?_⟩
    have := Word_of v a ⟨#[]⟩ 9 W (Nat.zero_le _) ((refRead_no 0 v d a 8 W hl (row_below hr hW) hf).mono fun e w' ⟨h1, h2⟩ => ⟨h1, by rw [h2]; exact Below.refl _ _⟩)
    exact this
set_option maxRecDepth 100000 in
set_option maxHeartbeats 2000000 in
theorem step_read (b0 Bb : Nat) (v : Value) (d : List UInt8) (a n x : Int) (pv : Value) (w : World) (h : Both w b0 Bb v d) (hb : b0 ≤ w.heap.size) (ha : a ≤ 9223372036854775807) :
    Calls Try.prog 9 #[.pointer (some ⟨Bb, 0, none⟩), v, .agg #[.int .i64 1, .int .i64 a, .int .i64 n, pv, .int .u64 x]] w fun e w' => ∃ v' d', e = .returned (.tuple #[v', .bool true]) ∧ Both w' b0 Bb v' d' ∧ Below b0 w w' ∧ Fz w w' := by
  obtain ⟨S, E, _, hR, hF, _⟩ := reads_both b0 Bb v d a n w h ha
  obtain ⟨X, hX⟩ : ∃ X, w.alloc (.cells #[.int .i64 1, .int .i64 a, .int .i64 n, pv, .int .u64 x] 35) = X := ⟨_, rfl⟩
  have hbA : Below w.heap.size w X := by rw [← hX]; exact (Below.refl _ _).alloc (Nat.le_refl _) _
  have hO : X.heap[w.heap.size]? = some (.cells #[.int .i64 1, .int .i64 a, .int .i64 n, pv, .int .u64 x] 35 (0, 0)) := by rw [← hX]; exact heap_new _ _
  have cW : ∀ W, Below X.heap.size X W → W.cell? ⟨w.heap.size, 0, none⟩ = some (.int .i64 1) ∧ W.cell? ⟨w.heap.size, 1, none⟩ = some (.int .i64 a) ∧ W.cell? ⟨w.heap.size, 2, none⟩ = some (.int .i64 n) := fun W hW => by
    have h := (hW.block _ (Array.getElem?_eq_some_iff.1 hO).1).trans hO
    refine ⟨?_, ?_, ?_⟩ <;> simp [World.cell?, h]
  have HH := Lib.hid h
  have HR := Lib.hid (hR X hbA)
  have HF := Lib.hid hF
  have HA := Lib.hid hbA
  obtain ⟨c0, c1, c2⟩ := cW X (Below.refl _ _)
  clear h hR hF hbA hO
  go_enter Try.func9, Try.ntmps9
  go_wp2_with (go_at_call 14; refine HR.out.mono ?_; rintro e w1 ⟨rfl, hb1⟩; refine Hid.out ?_)
  refine Lib.hid ?_
  obtain ⟨e0, e1, e2⟩ := cW w1 hb1
  have hB1 : Below w.heap.size w w1 := HA.out.trans (hb1.mono HA.out.size)
  have HF1 := Lib.hid (HF.out w1 hB1)
  have HB1 := Lib.hid hB1
  clear hb1 hB1
  go_wp2_with (go_at_call 18; refine HF1.out.mono ?_; rintro e w2 ⟨rfl, hb2⟩)
  go_ret2
  have hB2 : Below w.heap.size w w2 := HB1.out.trans (hb2.mono HB1.out.size)
  obtain ⟨⟨ls, hA⟩, hr, hl⟩ := HH.out
  exact ⟨_, d, rfl, ⟨⟨ls, hA.below hB2⟩, row_below hr hB2, hl⟩, hB2.mono hb, (Fr.below hB2).fz⟩
set_option maxRecDepth 100000 in
set_option maxHeartbeats 2000000 in
theorem step_word (b0 Bb : Nat) (v : Value) (d : List UInt8) (a n x : Int) (pv : Value) (w : World) (h : Both w b0 Bb v d) (hb : b0 ≤ w.heap.size) (ha : a ≤ 9223372036854775807) :
    Calls Try.prog 9 #[.pointer (some ⟨Bb, 0, none⟩), v, .agg #[.int .i64 4, .int .i64 a, .int .i64 n, pv, .int .u64 x]] w fun e w' => ∃ v' d', e = .returned (.tuple #[v', .bool true]) ∧ Both w' b0 Bb v' d' ∧ Below b0 w w' ∧ Fz w w' := by
  obtain ⟨z, E, hR, hF⟩ := words_both b0 Bb v d a w h ha
  obtain ⟨X, hX⟩ : ∃ X, w.alloc (.cells #[.int .i64 4, .int .i64 a, .int .i64 n, pv, .int .u64 x] 35) = X := ⟨_, rfl⟩
  have hbA : Below w.heap.size w X := by rw [← hX]; exact (Below.refl _ _).alloc (Nat.le_refl _) _
  have hO : X.heap[w.heap.size]? = some (.cells #[.int .i64 4, .int .i64 a, .int .i64 n, pv, .int .u64 x] 35 (0, 0)) := by rw [← hX]; exact heap_new _ _
  have cW : ∀ W, Below X.heap.size X W → W.cell? ⟨w.heap.size, 0, none⟩ = some (.int .i64 4) ∧ W.cell? ⟨w.heap.size, 1, none⟩ = some (.int .i64 a) := fun W hW => by
    have h := (hW.block _ (Array.getElem?_eq_some_iff.1 hO).1).trans hO
    refine ⟨?_, ?_⟩ <;> simp [World.cell?, h]
  have HH := Lib.hid h
  have HR := Lib.hid (hR X hbA)
  have HF := Lib.hid hF
  have HA := Lib.hid hbA
  obtain ⟨c0, c1⟩ := cW X (Below.refl _ _)
  clear h hR hF hbA hO
  go_enter Try.func9, Try.ntmps9
  go_wp2_with (go_at_call 22; refine HR.out.mono ?_; rintro e w1 ⟨rfl, hb1⟩; refine Hid.out ?_)
  refine Lib.hid ?_
  obtain ⟨e0, e1⟩ := cW w1 hb1
  have hB1 : Below w.heap.size w w1 := HA.out.trans (hb1.mono HA.out.size)
  have HF1 := Lib.hid (HF.out w1 hB1)
  have HB1 := Lib.hid hB1
  clear hb1 hB1
  go_wp2_with (go_at_call 23; refine HF1.out.mono ?_; rintro e w2 ⟨rfl, hb2⟩)
  go_ret2
  have hB2 : Below w.heap.size w w2 := HB1.out.trans (hb2.mono HB1.out.size)
  obtain ⟨⟨ls, hA⟩, hr, hl⟩ := HH.out
  exact ⟨_, d, rfl, ⟨⟨ls, hA.below hB2⟩, row_below hr hB2, hl⟩, hB2.mono hb, (Fr.below hB2).fz⟩
end Go.Proofs.Ytpedinpjdepjdaa
