/- How states and instructions that are handed in lie. -/
import Derived.Test.YtblhikmhmnkclaaOpenP
import Derived.Test.YtblhikmhmnkclaaReach
import Derived.Test.YtblhikmhmnkclaaCodes
namespace Go.Proofs.Ytblhikmhmnkclaa
open Go.ChangeShapes Go.WideShapes Go.ChangeAt Go.RowKit
theorem u64_range {n : Int} (h : (Lit.int .u64 n).wf = true) : u64ok n := by
  simp [Lit.wf] at h
  exact ⟨Int.le_trans (by decide : (0 : Int) ≤ IntKind.min .u64) h.1, Int.lt_of_le_of_lt h.2 (by decide)⟩
def numOf (v : Option Value) : Int := match v with
  | some (.int _ n) => n
  | _ => 0
section
variable {H : Type} {enc : TypeId × Value → H}
set_option maxRecDepth 100000 in
theorem st_open {W : World} {r : Reach} {b0 : Nat} {v : Value} {d : DataW H} {ps : List MemPlace} (hv : Value.okWide Try.prog W r b0 25 v) (h : DataW.Trod enc Try.prog W 0 (fun _ => true) true 25 v d ps) :
    ∃ (x : List Int) (pc : Int), v = .agg (stC x pc).toArray ∧ okR x pc := by
  obtain ⟨cs, rfl, hsz⟩ := okWide_struct Try.underlying25 hv
  rw [show Try.prog.cellsOf 25 = 17 from by kernel_rfl] at hsz
  obtain ⟨fuel, hf⟩ := h
  obtain ⟨xs, n, rfl, _, _, hxl, hall⟩ := DataW.trod_struct Try.underlying25 hf
  obtain ⟨l, rfl⟩ : ∃ l : List Value, cs = l.toArray := ⟨cs.toList, by simp⟩
  have hl : l.length = 17 := by simpa using hsz
  have kA : Try.prog.cellsOf 23 = 16 := by kernel_rfl
  have kU : Try.prog.cellsOf 22 = 1 := by kernel_rfl
  have h0 := hall 0 _ rfl
  rw [List.getElem?_eq_getElem (by rw [hxl]; decide)] at h0
  obtain ⟨ys, m, _, _, _, hyl, hally⟩ := DataW.trod_array Try.underlying23 h0
  have hreg : ∀ i, i < 16 → ∃ k, l[i]? = some (.int .u64 k) ∧ u64ok k := by
    intro i hi
    have h1 := hally i hi
    rw [List.getElem?_eq_getElem (by rw [hyl]; exact hi)] at h1
    obtain ⟨k, e0, _, hw⟩ := DataW.trod_int Try.underlying22 h1
    change List.take (Try.prog.cellsOf 22) (List.drop (i * Try.prog.cellsOf 22) (List.take (Try.prog.cellsOf 23) (List.drop 0 l))) = _ at e0
    rw [kU, kA, List.drop_zero, Nat.mul_one] at e0
    refine ⟨k, ?_, u64_range hw⟩
    have : (List.take 1 (List.drop i (List.take 16 l)))[0]? = some (.int .u64 k) := by rw [e0]; rfl
    rw [List.getElem?_take_of_lt (by omega), List.getElem?_drop, List.getElem?_take_of_lt (by omega)] at this
    simpa using this
  have h1 := hall 1 _ rfl
  rw [List.getElem?_eq_getElem (by rw [hxl]; decide)] at h1
  obtain ⟨pc, e1, _, hw1⟩ := DataW.trod_int Try.underlying22 h1
  change List.take (Try.prog.cellsOf 22) (List.drop 16 l) = _ at e1
  rw [kU] at e1
  have hpc : l[16]? = some (.int .u64 pc) := by
    have : (List.take 1 (List.drop 16 l))[0]? = some (.int .u64 pc) := by rw [e1]; rfl
    rw [List.getElem?_take_of_lt (by omega), List.getElem?_drop] at this
    simpa using this
  refine ⟨(List.range 16).map fun i => numOf l[i]?, pc, ?_, by simp, ?_, u64_range hw1⟩
  · congr 2
    apply List.ext_getElem?
    intro j
    by_cases hj : j < 16
    · obtain ⟨k, hk, _⟩ := hreg j hj
      rw [hk]
      unfold stC
      rw [List.getElem?_append_left (by simp [hj])]
      simp [hj, hk, numOf]
    · by_cases hj2 : j = 16
      · subst hj2
        rw [hpc]
        simp [stC]
      · rw [List.getElem?_eq_none (by omega), List.getElem?_eq_none (by simp [stC]; omega)]
  · intro x hx
    obtain ⟨i, hi, rfl⟩ := List.mem_map.1 hx
    obtain ⟨k, hk, hu⟩ := hreg i (List.mem_range.1 hi)
    rw [hk]; exact hu
set_option maxRecDepth 100000 in
/-- An instruction that is handed in. -/
theorem code_open {W : World} {r : Reach} {b0 : Nat} {v : Value} {d : DataW H} {ps : List MemPlace} (hv : Value.okWide Try.prog W r b0 57 v) (h : DataW.Trod enc Try.prog W 0 (fun _ => true) true 57 v d ps) :
    ∃ c : Cod, v = c.v := by
  obtain ⟨cs, rfl, hsz⟩ := okWide_struct Try.underlying57 hv
  rw [show Try.prog.cellsOf 57 = 5 from by kernel_rfl] at hsz
  obtain ⟨fuel, hf⟩ := h
  obtain ⟨xs, n, rfl, _, _, hxl, hall⟩ := DataW.trod_struct Try.underlying57 hf
  obtain ⟨l, rfl⟩ : ∃ l : List Value, cs = l.toArray := ⟨cs.toList, by simp⟩
  match l, hsz with
  | [v0, v1, v2, v3, v4], _ =>
    have k3 : Try.prog.cellsOf 3 = 1 := by kernel_rfl
    have h0 := hall 0 _ rfl
    rw [List.getElem?_eq_getElem (by rw [hxl]; decide)] at h0
    obtain ⟨x0, e0, _, _⟩ := DataW.trod_int Try.underlying3 h0
    change List.take (Try.prog.cellsOf 3) (List.drop 0 [v0, v1, v2, v3, v4]) = _ at e0
    rw [k3] at e0
    have f0 : v0 = .int .i64 x0 := by simpa using e0
    have h1 := hall 1 _ rfl
    rw [List.getElem?_eq_getElem (by rw [hxl]; decide)] at h1
    obtain ⟨x1, e1, _, _⟩ := DataW.trod_int Try.underlying3 h1
    change List.take (Try.prog.cellsOf 3) (List.drop 1 [v0, v1, v2, v3, v4]) = _ at e1
    rw [k3] at e1
    have f1 : v1 = .int .i64 x1 := by simpa using e1
    have h2 := hall 2 _ rfl
    rw [List.getElem?_eq_getElem (by rw [hxl]; decide)] at h2
    obtain ⟨x2, e2, _, _⟩ := DataW.trod_int Try.underlying3 h2
    change List.take (Try.prog.cellsOf 3) (List.drop 2 [v0, v1, v2, v3, v4]) = _ at e2
    rw [k3] at e2
    have f2 : v2 = .int .i64 x2 := by simpa using e2
    have h3 := hall 3 _ rfl
    rw [List.getElem?_eq_getElem (by rw [hxl]; decide)] at h3
    obtain ⟨x3, e3, _, _⟩ := DataW.trod_int Try.underlying3 h3
    change List.take (Try.prog.cellsOf 3) (List.drop 3 [v0, v1, v2, v3, v4]) = _ at e3
    rw [k3] at e3
    have f3 : v3 = .int .i64 x3 := by simpa using e3
    have h4 := hall 4 _ rfl
    rw [List.getElem?_eq_getElem (by rw [hxl]; decide)] at h4
    obtain ⟨x4, e4, _, _⟩ := DataW.trod_int Try.underlying3 h4
    change List.take (Try.prog.cellsOf 3) (List.drop 4 [v0, v1, v2, v3, v4]) = _ at e4
    rw [k3] at e4
    have f4 : v4 = .int .i64 x4 := by simpa using e4
    exact ⟨⟨x0, x1, x2, x3, x4⟩, by rw [f0, f1, f2, f3, f4]; rfl⟩
end
end Go.Proofs.Ytblhikmhmnkclaa
