/- A row of entries that is handed in: what is read of it, and that memory bears it. -/
import Derived.Test.YtibnmiigfiofmaaDoorOpen
namespace Go.Proofs.YtibnmiigfiofmaaDoor
open Go.ChangeShapes Go.WideShapes Go.ChangeAt Go.RowKit
section
variable {H : Type} {enc : TypeId × Value → H}

theorem bytes30 : Tryd.prog.bytesOf 30 = 16 := by kernel_rfl
set_option maxRecDepth 100000 in
theorem row_open {W : World} {r : Reach} {b0 : Nat} {v : Value} {d : DataW H} {ps : List MemPlace} (hv : Value.okWide Tryd.prog W r b0 22 v) (h : DataW.Trod enc Tryd.prog W 0 (fun _ => true) true 22 v d ps)
    (hw : (DataW.weights Tryd.prog 22 d).all (· ≤ reachBytes) = true) :
    ∃ (p : Option Addr) (cap : Nat) (xs : List (Int × Int)), v = .slice p xs.length cap ∧ CatsAt W p xs ∧ xs.length ≤ cap ∧ (p = none → cap = 0) ∧ xs.length ≤ 8796093021952 := by
  obtain ⟨a, len, cap, rfl⟩ := okWide_slice Tryd.underlying22 hv
  obtain ⟨fuel, hf⟩ := h
  have hcs : (Value.slice a len cap).cells.toList = [.slice a len cap] := by simp [Value.cells]
  rw [hcs] at hf
  obtain ⟨p, c, xs, e, hc, hl, _⟩ := slice_open hf
  refine ⟨p, c, xs, e, hc, hl, ?_, ?_⟩
  all_goals
    rw [Value.slice.injEq] at e
    obtain ⟨rfl, rfl, rfl⟩ := e
    rcases Deep.open_slice Tryd.underlying22 hf with ⟨hcs, _⟩ | ⟨a', len', cap', m, k, D, Pl, hcs, hb, hl', hm, hmm, hx, _⟩
  · simp only [List.cons.injEq, Value.slice.injEq, and_true] at hcs
    exact fun _ => hcs.2.2
  · simp only [List.cons.injEq, Value.slice.injEq, and_true] at hcs
    intro hp; rw [hp] at hcs; cases hcs.1
  · simp only [List.cons.injEq, Value.slice.injEq, and_true] at hcs
    omega
  · simp only [List.cons.injEq, Value.slice.injEq, and_true] at hcs
    rw [Prod.mk.injEq] at hx
    rw [hx.1] at hw
    simp only [DataW.weights, Tryd.underlying22, bytes30, List.all_cons, Bool.and_eq_true, decide_eq_true_eq, List.length_map, List.length_range] at hw
    have h1 := hw.1
    unfold reachBytes at h1
    omega
end
end Go.Proofs.YtibnmiigfiofmaaDoor
