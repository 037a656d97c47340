/- What short and fit of package label answer, for every row of entries. -/
import Derived.Test.YtfpjeclbilhgdaaDoorTake
import Derived.Lib.SmallJoins
import Derived.RangeFuncBox
namespace Go.Proofs.YtfpjeclbilhgdaaDoor
open Go.RowKit Go.Sort

def flat : List (Int × Int) → List Value
  | [] => []
  | x :: xs => .int .i64 x.1 :: .int .i64 x.2 :: flat xs
theorem flat_length (xs : List (Int × Int)) : (flat xs).length = xs.length * 2 := by
  induction xs with
  | nil => rfl
  | cons x xs ih => simp only [flat, List.length_cons, ih]; omega
theorem flat_append (xs ys : List (Int × Int)) : flat (xs ++ ys) = flat xs ++ flat ys := by
  induction xs with
  | nil => rfl
  | cons x xs ih => simp [flat, ih]
theorem flat_get (xs : List (Int × Int)) (j : Nat) (h : j < xs.length) : (flat xs)[j * 2]? = some (.int .i64 xs[j].1) ∧ (flat xs)[j * 2 + 1]? = some (.int .i64 xs[j].2) := by
  induction xs generalizing j with
  | nil => simp at h
  | cons x xs ih =>
    cases j with
    | zero => simp [flat]
    | succ j =>
      have := ih j (by simpa using h)
      rw [show (j + 1) * 2 = j * 2 + 1 + 1 from by omega]
      simpa [flat] using this
theorem info30 : (Tryd.prog.info? 35).map (fun i => (i.zero, i.size, i.bytes)) = some (some (.agg #[.int .i64 0, .int .i64 0]), 2, 16) := by kernel_rfl

/-- An owned row of entries, read. -/
theorem own_out {w : World} {B : Nat} {v : Value} {zs : List (Int × Int)} (h : w.ownsRow B 35 2 v zs.length (flat zs)) : ∃ p cap, v = .slice p zs.length cap ∧ CatsAt w p zs ∧ zs.length ≤ cap := by
  have h' := h
  obtain ⟨_, h2⟩ := h
  rcases h2 with ⟨rfl, hn⟩ | ⟨g, cap, cur, rfl, hg, hh, hn, hcap, hsz, htake⟩
  · refine ⟨none, 0, by rw [hn], fun j hj => by omega, by omega⟩
  · refine ⟨some ⟨g, 0, none⟩, cap, rfl, fun j hj => ⟨g, 0, rfl, ?_, ?_, ?_⟩, hn⟩
    · exact (h'.lt g rfl).2
    · have := (h'.cellAt (j * 2) (by omega)).trans (flat_get zs j hj).1
      simpa using this
    · have := (h'.cellAt (j * 2 + 1) (by omega)).trans (flat_get zs j hj).2
      simpa using this

def shortS (d : Int) (xs : List (Int × Int)) : List (Int × Int) := xs.filter fun x => x.2 != d
theorem short_le (d : Int) (xs : List (Int × Int)) : (shortS d xs).length ≤ xs.length := List.length_filter_le _ _
theorem short_snoc (d : Int) (xs : List (Int × Int)) (k : Nat) (h : k < xs.length) : shortS d (xs.take (k + 1)) = if (xs[k].2 != d) = true then shortS d (xs.take k) ++ [xs[k]] else shortS d (xs.take k) := by
  unfold shortS
  rw [List.take_succ_eq_append_getElem h, List.filter_append]
  by_cases h : (xs[k].2 != d) = true <;> simp [h]

set_option maxRecDepth 100000 in
set_option maxHeartbeats 1000000 in
theorem short_any (d : Int) (p : Option Addr) (cap : Nat) (xs : List (Int × Int)) (w : World) (hm : xs.length * 16 ≤ 140737488355328) (hc : CatsAt w p xs) :
    Calls Tryd.prog 33 #[.int .i64 d, .slice p xs.length cap] w fun e w' => ∃ v, e = .returned (.agg #[.int .i64 d, v]) ∧ w'.ownsRow w.heap.size 35 2 v (shortS d xs).length (flat (shortS d xs)) ∧ Below w.heap.size w w' := by
  obtain ⟨i0, hi, hz0, hz1, hz2⟩ := info_parts info30
  go_enter Tryd.func33, Tryd.ntmps33
  go_wp2
  go_loopw [12] (fun i wr => ∃ (k : Nat) (v : Value), k ≤ xs.length ∧ i = .int .i64 k ∧ wr.ownsRow (w.heap.size + 2) 35 2 v (shortS d (xs.take k)).length (flat (shortS d (xs.take k))) ∧ Below w.heap.size w wr ∧ w.heap.size + 2 ≤ wr.heap.size ∧ (wr.cell? ⟨w.heap.size, 0, none⟩ = some (.int .i64 0) ∧ wr.cell? ⟨w.heap.size, 1, none⟩ = some (.slice none 0 0) ∧ wr.cell? ⟨w.heap.size + 1, 0, none⟩ = some (.int .i64 d) ∧ wr.cell? ⟨w.heap.size + 1, 1, none⟩ = some v) ∧ (∀ o, wr.frozen? ⟨w.heap.size, o, none⟩ = false) ∧ (∀ o, wr.frozen? ⟨w.heap.size + 1, o, none⟩ = false)) (fun i _ => xs.length - (intOf i).toNat)
  case atStart => exact ⟨0, .slice none 0 0, Nat.zero_le _, rfl, World.ownsRow_nil _ _ _ _, by go_grown, by simp, ⟨by simp [go_sem], by simp [go_sem], by simp [go_sem], by simp [go_sem]⟩, fun o => by simp [go_sem], fun o => by simp [go_sem]⟩
  case round =>
    obtain ⟨k, v, hk, rfl, hown, hB, hz, ⟨r0, r1, l0, l1⟩, rf, lf⟩ := hrel
    by_cases hlt : k < xs.length
    · obtain ⟨b, off, rfl, hbl, c0, c1⟩ := hc.get hB (Below.refl _ _) (Nat.le_refl _) k hlt
      clear hc
      have hs := short_snoc d xs k hlt
      have hle := short_le d (xs.take k)
      have hle2 : (xs.take k).length ≤ k := List.length_take_le _ _
      by_cases h3 : (xs[k].2 != d) = true
      · rw [if_pos h3] at hs
        have HS : Hid (shortS d (xs.take (k + 1)) = shortS d (xs.take k) ++ [xs[k]]) := hs
        clear hs
        have hz0' : w.heap.size < wr.heap.size := by omega
        have hz1' : w.heap.size + 1 < wr.heap.size := by omega
        have hWb : Below (w.heap.size + 2) wr ((wr.alloc (.cells #[.int .i64 xs[k].1, .int .i64 xs[k].2] 35)).alloc (.cells #[.int .i64 xs[k].1, .int .i64 xs[k].2] 35)) := by go_grown
        have hnews : Hid (∀ j u, [Value.int .i64 xs[k].1, Value.int .i64 xs[k].2][j]? = some u → ((wr.alloc (.cells #[.int .i64 xs[k].1, .int .i64 xs[k].2] 35)).alloc (.cells #[.int .i64 xs[k].1, .int .i64 xs[k].2] 35)).cell? ((⟨wr.heap.size + 1, 0, none⟩ : Addr).add j) = some u) := by
          have := cell_two_new (wr.alloc (.cells #[.int .i64 xs[k].1, .int .i64 xs[k].2] 35)) (.int .i64 xs[k].1) (.int .i64 xs[k].2) 35
          rw [World.size_alloc] at this
          exact this
        have hownA := (hown.alloc (.cells #[.int .i64 xs[k].1, .int .i64 xs[k].2] 35)).alloc (.cells #[.int .i64 xs[k].1, .int .i64 xs[k].2] 35)
        have hlen : (shortS d (xs.take k)).length + 1 ≤ maxLen := by unfold maxLen; omega
        have hlen16 : ((shortS d (xs.take k)).length + 1) * 16 ≤ 140737488355328 := by omega
        have hone : Hid (∀ u ∈ [Value.int .i64 xs[k].1, Value.int .i64 xs[k].2], u.oneCell' = true) := fun x hx => by simp at hx; rcases hx with rfl | rfl <;> rfl
        go_wp2_with (at_builtin; refine wpList_append_own _ rfl _ _ 22 rfl (w.heap.size + 2) 35 i0 (.agg #[.int .i64 0, .int .i64 0]) 2 16 Tryd.underlying22 hi hz0 hz1 hz2 rfl (by decide) _ _ _ rfl hownA ⟨wr.heap.size + 1, 0, none⟩ 1 1 [.int .i64 xs[k].1, .int .i64 xs[k].2] rfl rfl hnews.out hone.out hlen hlen16 (by simp; omega) ?_; intro v' w3 hown' hgrow3 hnil3; obtain ⟨g', cap', rfl⟩ := ownsRow_succ hown'; have hb3 : Below (w.heap.size + 2) wr w3 := Below.grown hWb hgrow3 (by simp; omega) (fun j hj => (hown.lt _ hj).1); have r0' := (hb3.cell (p := ⟨w.heap.size, 0, none⟩) (by simp)).trans r0; have r1' := (hb3.cell (p := ⟨w.heap.size, 1, none⟩) (by simp)).trans r1; have l0' := (hb3.cell (p := ⟨w.heap.size + 1, 0, none⟩) (by simp)).trans l0; have l1' := (hb3.cell (p := ⟨w.heap.size + 1, 1, none⟩) (by simp)).trans l1; have rf' : ∀ o, w3.frozen? ⟨w.heap.size, o, none⟩ = false := (fun o => (hb3.frozen (p := ⟨w.heap.size, o, none⟩) (by simp)).trans (rf o)); have lf' : ∀ o, w3.frozen? ⟨w.heap.size + 1, o, none⟩ = false := (fun o => (hb3.frozen (p := ⟨w.heap.size + 1, o, none⟩) (by simp)).trans (lf o)))
        have hz3 : wr.heap.size ≤ w3.heap.size := hb3.size
        have hBf : Below (w.heap.size + 1) w3 (w3.setCell ⟨w.heap.size + 1, 1, none⟩ (.slice (some ⟨g', 0, none⟩) ((shortS d (xs.take k)).length + 1) cap')) := (Below.refl _ _).setCell (p := ⟨w.heap.size + 1, 1, none⟩) (Nat.le_refl _) _
        go_roundw
        case rel =>
          refine ⟨k + 1, .slice (some ⟨g', 0, none⟩) ((shortS d (xs.take k)).length + 1) cap', by omega, by go_num, ?_, (hB.trans (hb3.mono (by omega))).trans (hBf.mono (by omega)), by simp; omega, ⟨(hBf.cell (p := ⟨w.heap.size, 0, none⟩) (by simp)).trans r0', (hBf.cell (p := ⟨w.heap.size, 1, none⟩) (by simp)).trans r1', by simp [go_sem, l0'], World.cell?_setCell_same' _ _ _ (by rw [l1']; rfl)⟩, fun o => by rw [World.frozen?_setCell]; exact rf' o, fun o => by rw [World.frozen?_setCell]; exact lf' o⟩
          rw [HS.out, List.length_append, flat_append]
          exact ownsRow_setCell_below hown' (by simp) _
        case measure => simp [intOf]; omega
      · have h3' : (xs[k].2 != d) = false := by simpa using h3
        rw [if_neg h3] at hs
        have HS : Hid (shortS d (xs.take (k + 1)) = shortS d (xs.take k)) := hs
        clear hs
        have hWb : Below wr.heap.size wr (wr.alloc (.cells #[.int .i64 xs[k].1, .int .i64 xs[k].2] 35)) := by go_grown
        go_wp2
        go_roundw
        case rel =>
          exact ⟨k + 1, v, by omega, by go_num, by rw [HS.out]; exact hown.alloc _, hB.trans (hWb.mono (by omega)), by simp; omega, ⟨(hWb.cell (p := ⟨w.heap.size, 0, none⟩) (by simp; omega)).trans r0, (hWb.cell (p := ⟨w.heap.size, 1, none⟩) (by simp; omega)).trans r1, (hWb.cell (p := ⟨w.heap.size + 1, 0, none⟩) (by simp; omega)).trans l0, (hWb.cell (p := ⟨w.heap.size + 1, 1, none⟩) (by simp; omega)).trans l1⟩, fun o => (hWb.frozen (p := ⟨w.heap.size, o, none⟩) (by simp; omega)).trans (rf o), fun o => (hWb.frozen (p := ⟨w.heap.size + 1, o, none⟩) (by simp; omega)).trans (lf o)⟩
        case measure => simp [intOf]; omega
    · have hk' : xs.take k = xs := List.take_of_length_le (by omega)
      rw [hk'] at hown
      clear hk' hc
      have hle := short_le d xs
      rcases Joins.ownsRow_forms hown with ⟨rfl, hn⟩ | ⟨g, cap', rfl⟩
      all_goals
        go_wp2
        refine bodyPost_ret (by simp [results, Tryd.results33, go_sem, r0, r1]; rfl) rfl ⟨_, rfl, ?_, ?_⟩
        · exact Joins.ownsRow_le (ownsRow_setCell_below (ownsRow_setCell_below hown (by simp) _) (by simp) _) (by omega)
        · exact (hB.setCell (p := ⟨w.heap.size, 0, none⟩) (Nat.le_refl _) _).setCell (p := ⟨w.heap.size, 1, none⟩) (Nat.le_refl _) _

set_option maxHeartbeats 400000 in
theorem fit_any (d : Int) (v : Value) (B : Nat) (zs : List (Int × Int)) (w : World) (h : w.ownsRow B 35 2 v zs.length (flat zs)) (hle : zs.length ≤ 16) :
    Calls Tryd.prog 32 #[.agg #[.int .i64 d, v]] w fun e w' => e = .returned (.tuple #[.agg #[.int .i64 d, v], .int .i64 0]) ∧ Below w.heap.size w w' := by
  have hl : ¬ (16 : Int) < (zs.length : Int) := by omega
  obtain ⟨p, cap, rfl, _, _⟩ := own_out h
  clear h
  go_enter Tryd.func32, Tryd.ntmps32
  go_wp2
  refine bodyPost_ret (by simp [results, Tryd.results32, go_sem]) rfl ⟨rfl, by go_grown⟩
theorem fit_full (d : Int) (v : Value) (B : Nat) (zs : List (Int × Int)) (w : World) (h : w.ownsRow B 35 2 v zs.length (flat zs)) (hle : 16 < zs.length) :
    Calls Tryd.prog 32 #[.agg #[.int .i64 d, v]] w fun e w' => e = .returned (.tuple #[.agg #[.int .i64 0, .slice none 0 0], .int .i64 7]) ∧ Below w.heap.size w w' := by
  have hl : (16 : Int) < (zs.length : Int) := by omega
  obtain ⟨p, cap, rfl, _, _⟩ := own_out h
  clear h
  go_enter Tryd.func32, Tryd.ntmps32
  go_wp2
  refine bodyPost_ret (by simp [results, Tryd.results32, go_sem]) rfl ⟨rfl, by go_grown⟩
end Go.Proofs.YtfpjeclbilhgdaaDoor
