/- How rows of instructions that are handed in are read in memory. -/
import Derived.Test.YtgldkmabhmlijaaDoorOpenI
import Derived.Test.YtgldkmabhmlijaaDoorCodeRow
import Derived.Deep.Slices
import Derived.ChangeMaps5
namespace Go.Proofs.YtgldkmabhmlijaaDoor
open Go.ChangeShapes Go.WideShapes Go.ChangeAt Go.RowKit
section
variable {H : Type} {enc : TypeId × Value → H}
def cdC (c : Cod) : List Value := [.int .i64 c.op, .int .i64 c.a, .int .i64 c.b, .int .i64 c.c, .int .i64 c.n]
instance : Inhabited Cod := ⟨⟨0, 0, 0, 0, 0⟩⟩
theorem addr_at (b o j : Nat) : (⟨b, o, none⟩ : Addr).add j = ⟨b, o + j, none⟩ := by
  by_cases h : j = 0 <;> simp [Addr.add, h]
theorem spot_none {W : World} {a : Addr} {v : Value} (h : W.cell? a = some v) : a = ⟨a.block, a.off, none⟩ := by
  obtain ⟨b, o, s⟩ := a
  cases s with
  | none => rfl
  | some s => simp only [World.cell?] at h; split at h <;> simp at h
set_option maxRecDepth 100000 in
theorem code_cells {W : World} {n : Nat} {cs : List Value} {x : DataW H × List MemPlace} (hf : DataW.trod enc Tryd.prog W 0 (fun _ => true) true n 25 cs = some x) : ∃ m : Cod, cs = cdC m := by
  obtain ⟨xs, n', rfl, _, hcl, hxl, hall⟩ := DataW.trod_struct Tryd.underlying25 hf
  rw [show Tryd.prog.cellsOf 25 = 5 from by kernel_rfl] at hcl
  match cs, hcl with
  | [v0, v1, v2, v3, v4], _ =>
    have k3 : Tryd.prog.cellsOf 3 = 1 := by kernel_rfl
    have h0 := hall 0 _ rfl
    rw [List.getElem?_eq_getElem (by rw [hxl]; decide)] at h0
    obtain ⟨x0, e0, _, _⟩ := DataW.trod_int Tryd.underlying3 h0
    change List.take (Tryd.prog.cellsOf 3) (List.drop 0 [v0, v1, v2, v3, v4]) = _ at e0
    rw [k3] at e0
    have f0 : v0 = .int .i64 x0 := by simpa using e0
    have h1 := hall 1 _ rfl
    rw [List.getElem?_eq_getElem (by rw [hxl]; decide)] at h1
    obtain ⟨x1, e1, _, _⟩ := DataW.trod_int Tryd.underlying3 h1
    change List.take (Tryd.prog.cellsOf 3) (List.drop 1 [v0, v1, v2, v3, v4]) = _ at e1
    rw [k3] at e1
    have f1 : v1 = .int .i64 x1 := by simpa using e1
    have h2 := hall 2 _ rfl
    rw [List.getElem?_eq_getElem (by rw [hxl]; decide)] at h2
    obtain ⟨x2, e2, _, _⟩ := DataW.trod_int Tryd.underlying3 h2
    change List.take (Tryd.prog.cellsOf 3) (List.drop 2 [v0, v1, v2, v3, v4]) = _ at e2
    rw [k3] at e2
    have f2 : v2 = .int .i64 x2 := by simpa using e2
    have h3 := hall 3 _ rfl
    rw [List.getElem?_eq_getElem (by rw [hxl]; decide)] at h3
    obtain ⟨x3, e3, _, _⟩ := DataW.trod_int Tryd.underlying3 h3
    change List.take (Tryd.prog.cellsOf 3) (List.drop 3 [v0, v1, v2, v3, v4]) = _ at e3
    rw [k3] at e3
    have f3 : v3 = .int .i64 x3 := by simpa using e3
    have h4 := hall 4 _ rfl
    rw [List.getElem?_eq_getElem (by rw [hxl]; decide)] at h4
    obtain ⟨x4, e4, _, _⟩ := DataW.trod_int Tryd.underlying3 h4
    change List.take (Tryd.prog.cellsOf 3) (List.drop 4 [v0, v1, v2, v3, v4]) = _ at e4
    rw [k3] at e4
    have f4 : v4 = .int .i64 x4 := by simpa using e4
    exact ⟨⟨x0, x1, x2, x3, x4⟩, by rw [f0, f1, f2, f3, f4]; rfl⟩
theorem cellsCode : Tryd.prog.cellsOf 25 = 5 := by kernel_rfl
set_option maxRecDepth 100000 in
/-- A row of instructions that is handed in. -/
theorem codes_open {W : World} {r : Reach} {b0 : Nat} {v : Value} {d : DataW H} {ps : List MemPlace} (hv : Value.okWide Tryd.prog W r b0 22 v) (h : DataW.Trod enc Tryd.prog W 0 (fun _ => true) true 22 v d ps) :
    ∃ (p : Option Addr) (cap : Nat) (xs : List Cod), v = .slice p xs.length cap ∧ CdsAt W p xs ∧ xs.length ≤ maxLen := by
  obtain ⟨a0, len0, cap0, rfl⟩ := okWide_slice Tryd.underlying22 hv
  obtain ⟨fuel, hf⟩ := h
  have hcs0 : (Value.slice a0 len0 cap0).cells.toList = [.slice a0 len0 cap0] := by simp [Value.cells]
  rw [hcs0] at hf
  rcases Deep.open_slice Tryd.underlying22 hf with ⟨hcs, _⟩ | ⟨a, len, cap, m, k, D, Pl, hcs, hb, hl, hm, hmm, _, hx⟩
  · simp only [List.cons.injEq, and_true] at hcs
    exact ⟨none, 0, [], hcs, fun j hj => by simp at hj, by simp⟩
  · simp only [List.cons.injEq, and_true] at hcs
    rw [if_pos rfl] at hmm
    subst hmm
    rw [cellsCode] at hx
    have hcell : ∀ i, i < len → ∃ y : Cod, ∀ r u, (cdC y)[r]? = some u → W.cell? ((a.add (i * 5)).add r) = some u := fun i hi => by
      obtain ⟨cs', h1, h2⟩ := hx i (by omega)
      obtain ⟨y, rfl⟩ := code_cells h2
      obtain ⟨_, hlen, hcell⟩ := World.cells?_some h1
      refine ⟨y, fun r u hu => ?_⟩
      have hr := (List.getElem?_eq_some_iff.1 hu).1
      rw [hcell r hr]; exact hu
    obtain ⟨f, hf'⟩ := Deep.choose_lt hcell
    refine ⟨some a, m, (List.range len).map f, by simpa using hcs, ?_, by simp; omega⟩
    intro j hj
    have hj' : j < len := by simpa using hj
    have ha : a = ⟨a.block, a.off, none⟩ := by
      have hs := spot_none (hf' 0 (by omega) 0 _ rfl)
      simpa [Addr.add] using hs
    have e0 := hf' j hj'
    rw [ha] at e0
    have hc : ∀ r u, (cdC (f j))[r]? = some u → W.cell? ⟨a.block, a.off + j * 5 + r, none⟩ = some u := fun r u hu => by
      have := e0 r u hu
      rwa [addr_at, addr_at] at this
    have hat : CdAt W a.block (a.off + j * 5) (f j) := ⟨hc 0 _ rfl, hc 1 _ rfl, hc 2 _ rfl, hc 3 _ rfl, hc 4 _ rfl⟩
    exact ⟨a.block, a.off, by rw [← ha], World.block_lt_of_cell? W ⟨a.block, a.off + j * 5, none⟩ hat.c0, by simpa using hat⟩
end
end Go.Proofs.YtgldkmabhmlijaaDoor
