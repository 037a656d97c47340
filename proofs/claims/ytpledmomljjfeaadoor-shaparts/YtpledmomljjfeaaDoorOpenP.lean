/- How rows of texts and of truths that are handed in are read in memory. -/
import Derived.Test.YtpledmomljjfeaaDoorOpenS
import Derived.Test.YtpledmomljjfeaaDoorPartsL
namespace Go.Proofs.YtpledmomljjfeaaDoor
open Go.ChangeShapes Go.WideShapes Go.ChangeAt Go.RowKit
theorem cellsBool : Tryd.prog.cellsOf 4 = 1 := by kernel_rfl
theorem bytesStr : Tryd.prog.bytesOf 9 = 16 := by kernel_rfl
section
variable {H : Type} {enc : TypeId × Value → H}
theorem all_wok {e : TypeId} : ∀ {ds : List (DataW H)}, (DataW.weightsAll Tryd.prog e ds).all (· ≤ reachBytes) = true → ∀ d ∈ ds, (DataW.weights Tryd.prog e d).all (· ≤ reachBytes) = true
  | [], _, d, hd => by cases hd
  | b :: ds, h, d, hd => by
    rw [DataW.weightsAll, List.all_append, Bool.and_eq_true] at h
    rcases List.mem_cons.1 hd with rfl | hd
    · exact h.1
    · exact all_wok h.2 d hd
set_option maxRecDepth 100000 in
/-- A row of texts that is handed in. -/
theorem texts_openW {W : World} {r : Reach} {b0 : Nat} {v : Value} {d : DataW H} {ps : List MemPlace} (hv : Value.okWide Tryd.prog W r b0 25 v) (h : DataW.Trod enc Tryd.prog W 0 (fun _ => true) true 25 v d ps)
    (hw : (DataW.weights Tryd.prog 25 d).all (· ≤ reachBytes) = true) :
    ∃ (p : Option Addr) (cap : Nat) (xs : List ByteArray), v = .slice p xs.length cap ∧ TsAt W p xs ∧ (∀ x ∈ xs, x.size ≤ 9223372036854770000) ∧ xs.length ≤ 9223372036854770000 := by
  obtain ⟨a0, len0, cap0, rfl⟩ := okWide_slice Tryd.underlying25 hv
  obtain ⟨fuel, hf⟩ := h
  have hcs0 : (Value.slice a0 len0 cap0).cells.toList = [.slice a0 len0 cap0] := by simp [Value.cells]
  rw [hcs0] at hf
  rcases Deep.open_strs Tryd.underlying25 Tryd.underlying9 cellsStr hf with ⟨hcs, _⟩ | ⟨a, len, cap, mm, Sx, hcs, hb, hle, hm, hmm, hxx, hcl⟩
  · simp only [List.cons.injEq, and_true] at hcs
    exact ⟨none, 0, [], hcs, (fun j hj => by simp at hj), (fun x hx => by cases hx), by simp⟩
  · simp only [List.cons.injEq, and_true] at hcs
    rw [if_pos rfl] at hmm
    subst hmm
    rw [Prod.mk.injEq] at hxx
    obtain ⟨rfl, -⟩ := hxx
    rw [DataW.weights, Tryd.underlying25] at hw
    simp only [List.all_cons, List.all_append, Bool.and_eq_true, decide_eq_true_eq] at hw
    obtain ⟨hw1, hw2, _⟩ := hw
    rw [bytesStr, List.length_map, List.length_range] at hw1
    unfold reachBytes at hw1
    refine ⟨some a, mm, (List.range len).map Sx, by simpa using hcs, fun j hj => ?_, fun x hx => ?_, by rw [List.length_map, List.length_range]; omega⟩
    · have hj' : j < len := by simpa using hj
      have ha : a = ⟨a.block, a.off, none⟩ := by
        have hs := spot_none (hcl 0 (by omega)).1
        simpa [Addr.add] using hs
      have hc := (hcl j (by omega)).1
      rw [ha, addr_at] at hc
      exact ⟨a.block, a.off, by rw [← ha], World.block_lt_of_cell? W ⟨a.block, a.off + j, none⟩ hc, by rw [hc]; simp⟩
    · obtain ⟨i, hi, rfl⟩ := List.mem_map.1 hx
      have := all_wok hw2 (.lit (.string (Sx i).data.toList)) (List.mem_map.2 ⟨i, hi, rfl⟩)
      simp only [DataW.weights, List.all_cons, List.all_nil, Bool.and_true, decide_eq_true_eq] at this
      unfold reachBytes at this
      have h2 : (Sx i).data.toList.length = (Sx i).size := by simp
      omega
set_option maxRecDepth 100000 in
/-- A row of truths that is handed in. -/
theorem bools_open {W : World} {r : Reach} {b0 : Nat} {v : Value} {d : DataW H} {ps : List MemPlace} (hv : Value.okWide Tryd.prog W r b0 26 v) (h : DataW.Trod enc Tryd.prog W 0 (fun _ => true) true 26 v d ps) :
    ∃ (p : Option Addr) (cap : Nat) (xs : List Bool), v = .slice p xs.length cap ∧ BsAt W p xs := by
  obtain ⟨a0, len0, cap0, rfl⟩ := okWide_slice Tryd.underlying26 hv
  obtain ⟨fuel, hf⟩ := h
  have hcs0 : (Value.slice a0 len0 cap0).cells.toList = [.slice a0 len0 cap0] := by simp [Value.cells]
  rw [hcs0] at hf
  rcases Deep.open_slice1 Tryd.underlying26 cellsBool hf with ⟨hcs, _⟩ | ⟨a, len, cap, mm, n, V, D, Pl, hcs, hb, hle, hm, hmm, hxx, hcl⟩
  · simp only [List.cons.injEq, and_true] at hcs
    exact ⟨none, 0, [], hcs, fun j hj => by simp at hj⟩
  · simp only [List.cons.injEq, and_true] at hcs
    rw [if_pos rfl] at hmm
    subst hmm
    have hB : ∀ i, i < len → ∃ b : Bool, W.cell? (a.add i) = some (.bool b) := fun i hi => by
      obtain ⟨h1, h2⟩ := hcl i (by omega)
      obtain ⟨b, e, _⟩ := DataW.trod_bool Tryd.underlying4 h2
      have : V i = .bool b := by simpa using e
      exact ⟨b, by rw [h1, this]⟩
    obtain ⟨f, hf'⟩ := Deep.choose_lt hB
    refine ⟨some a, mm, (List.range len).map f, by simpa using hcs, fun j hj => ?_⟩
    have hj' : j < len := by simpa using hj
    have ha : a = ⟨a.block, a.off, none⟩ := by
      have hs := spot_none (hf' 0 (by omega))
      simpa [Addr.add] using hs
    have hc := hf' j hj'
    rw [ha, addr_at] at hc
    exact ⟨a.block, a.off, by rw [← ha], World.block_lt_of_cell? W ⟨a.block, a.off + j, none⟩ hc, by rw [hc]; simp⟩
end
end Go.Proofs.YtpledmomljjfeaaDoor
