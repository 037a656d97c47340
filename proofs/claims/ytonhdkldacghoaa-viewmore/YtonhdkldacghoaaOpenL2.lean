/- Two labels in an array that is handed in. -/
import Derived.Test.YtonhdkldacghoaaOpenW
namespace Go.Proofs.Ytonhdkldacghoaa
open Go.ChangeShapes Go.WideShapes Go.ChangeAt Go.RowKit
section
variable {H : Type} {enc : TypeId × Value → H}
theorem cellsL2 : Try.prog.cellsOf 51 = 4 := by kernel_rfl
set_option maxRecDepth 100000 in
theorem labs2_open {W : World} {r : Go.Reach} {b0 : Nat} {v : Value} {d : DataW H} {ps : List MemPlace} (hv : Value.okWide Try.prog W r b0 51 v) (h : DataW.Trod enc Try.prog W 0 (fun _ => true) true 51 v d ps) :
    ∃ A B : Lab, v = .agg #[.int .i64 A.d, .slice A.p A.xs.length A.cap, .int .i64 B.d, .slice B.p B.xs.length B.cap] ∧ (CatsAt W A.p A.xs ∧ A.xs.length ≤ maxLen) ∧ (CatsAt W B.p B.xs ∧ B.xs.length ≤ maxLen) := by
  obtain ⟨cs, rfl, hsz⟩ : ∃ cs, v = .agg cs ∧ cs.size = 4 := by
    simp only [Value.okWide, Try.underlying51] at hv
    obtain ⟨cs, h1, h2, _⟩ := hv
    exact ⟨cs, h1, by rw [← cellsL2]; exact h2⟩
  obtain ⟨fuel, hf⟩ := h
  have hcs : (Value.agg cs).cells.toList = cs.toList := by simp [Value.cells]
  rw [hcs] at hf
  obtain ⟨ys, m, _, _, _, hyl, hally⟩ := DataW.trod_array Try.underlying51 hf
  have g0 := hally 0 (by decide)
  rw [List.getElem?_eq_getElem (by rw [hyl]; decide)] at g0
  have g1 := hally 1 (by decide)
  rw [List.getElem?_eq_getElem (by rw [hyl]; decide)] at g1
  rw [cells24] at g0 g1
  obtain ⟨A, eA, hA, _, hAm, _⟩ := label_seg g0
  obtain ⟨B, eB, hB, _, hBm, _⟩ := label_seg g1
  refine ⟨A, B, ?_, ⟨hA, hAm⟩, ⟨hB, hBm⟩⟩
  have hl : cs.toList.length = 4 := by simpa using hsz
  have e : cs.toList = [.int .i64 A.d, .slice A.p A.xs.length A.cap] ++ [.int .i64 B.d, .slice B.p B.xs.length B.cap] := by
    rw [← eA, ← eB]
    match h4 : cs.toList, hl with
    | [a, b, c, e], _ => rfl
  rw [show cs = #[.int .i64 A.d, .slice A.p A.xs.length A.cap, .int .i64 B.d, .slice B.p B.xs.length B.cap] from Array.toList_inj.1 (by rw [e]; rfl)]
end
end Go.Proofs.Ytonhdkldacghoaa
