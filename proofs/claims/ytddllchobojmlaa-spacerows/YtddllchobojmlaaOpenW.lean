/- A row of mappings that is handed in, and that memory bears it. -/
import Derived.Test.YtddllchobojmlaaOpenS
namespace Go.Proofs.Ytddllchobojmlaa
open Go.ChangeShapes Go.WideShapes Go.ChangeAt Go.RowKit
section
variable {H : Type} {enc : TypeId × Value → H}
theorem bytesMap : Try.prog.bytesOf 24 = 48 := by kernel_rfl
set_option maxRecDepth 100000 in
theorem maps_openW {W : World} {r : Reach} {b0 : Nat} {v : Value} {d : DataW H} {ps : List MemPlace} (hv : Value.okWide Try.prog W r b0 22 v) (h : DataW.Trod enc Try.prog W 0 (fun _ => true) true 22 v d ps)
    (hw : (DataW.weights Try.prog 22 d).all (· ≤ reachBytes) = true) :
    ∃ (p : Option Addr) (cap : Nat) (xs : List Mp), v = .slice p xs.length cap ∧ RAt W p cap xs ∧ xs.length * 48 ≤ 140737488351232 := by
  obtain ⟨p, cap, xs, rfl, hR⟩ := maps_open hv h
  refine ⟨p, cap, xs, rfl, hR, ?_⟩
  obtain ⟨fuel, hf⟩ := h
  have hcs0 : (Value.slice p xs.length cap).cells.toList = [.slice p xs.length cap] := by simp [Value.cells]
  rw [hcs0] at hf
  rcases Deep.open_slice Try.underlying22 hf with ⟨hcs, _⟩ | ⟨a', len', cap', m, k, D, Pl, hcs, hb, hl', hm, hmm, hx, _⟩
  · simp only [List.cons.injEq, Value.slice.injEq, and_true] at hcs
    omega
  · simp only [List.cons.injEq, Value.slice.injEq, and_true] at hcs
    rw [Prod.mk.injEq] at hx
    rw [hx.1] at hw
    simp only [DataW.weights, Try.underlying22, bytesMap, List.all_cons, Bool.and_eq_true, decide_eq_true_eq, List.length_map, List.length_range] at hw
    have h1 := hw.1
    unfold reachBytes at h1
    omega
end
end Go.Proofs.Ytddllchobojmlaa
