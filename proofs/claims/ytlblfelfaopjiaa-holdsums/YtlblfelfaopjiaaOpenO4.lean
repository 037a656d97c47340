/- Rows of calls that are handed in, with their labels. -/
import Derived.Test.YtlblfelfaopjiaaOpenH
import Derived.Test.YtlblfelfaopjiaaRefused
namespace Go.Proofs.Ytlblfelfaopjiaa
open Go.ChangeShapes Go.WideShapes Go.ChangeAt Go.RowKit
theorem cellsOp : Try.prog.cellsOf 32 = 7 := by kernel_rfl
section
variable {H : Type} {enc : TypeId × Value → H}
set_option maxRecDepth 100000 in
theorem op_cells {W : World} {n : Nat} {x : DataW H × List MemPlace} {cs : List Value} (h : DataW.trod enc Try.prog W 0 (fun _ => true) true n 32 cs = some x) : ∃ y : OpR, OpOk W y ∧ cs = (opC y).toList := by
  obtain ⟨xs, m, _, hxe, hl, hxl, hall⟩ := DataW.trod_struct Try.underlying32 h
  rw [cellsOp] at hl
  match cs, hl with
  | [v0, v1, v2, v3, v4, v5, v6], _ =>
    have h0 := hall 0 _ rfl
    rw [List.getElem?_eq_getElem (by rw [hxl]; decide)] at h0
    obtain ⟨x0, e0, _, g0⟩ := DataW.trod_int Try.underlying3 h0
    change List.take (Try.prog.cellsOf 3) (List.drop 0 [v0, v1, v2, v3, v4, v5, v6]) = _ at e0
    rw [cells3] at e0
    have f0 : v0 = .int .i64 x0 := by simpa using e0
    have h1 := hall 1 _ rfl
    rw [List.getElem?_eq_getElem (by rw [hxl]; decide)] at h1
    obtain ⟨x1, e1, _, g1⟩ := DataW.trod_int Try.underlying3 h1
    change List.take (Try.prog.cellsOf 3) (List.drop 1 [v0, v1, v2, v3, v4, v5, v6]) = _ at e1
    rw [cells3] at e1
    have f1 : v1 = .int .i64 x1 := by simpa using e1
    have h2 := hall 2 _ rfl
    rw [List.getElem?_eq_getElem (by rw [hxl]; decide)] at h2
    obtain ⟨x2, e2, _, g2⟩ := DataW.trod_int Try.underlying3 h2
    change List.take (Try.prog.cellsOf 3) (List.drop 2 [v0, v1, v2, v3, v4, v5, v6]) = _ at e2
    rw [cells3] at e2
    have f2 : v2 = .int .i64 x2 := by simpa using e2
    have h3 := hall 3 _ rfl
    rw [List.getElem?_eq_getElem (by rw [hxl]; decide)] at h3
    obtain ⟨x3, e3, _, g3⟩ := DataW.trod_int Try.underlying3 h3
    change List.take (Try.prog.cellsOf 3) (List.drop 3 [v0, v1, v2, v3, v4, v5, v6]) = _ at e3
    rw [cells3] at e3
    have f3 : v3 = .int .i64 x3 := by simpa using e3
    have h4 := hall 4 _ rfl
    rw [List.getElem?_eq_getElem (by rw [hxl]; decide)] at h4
    obtain ⟨x4, e4, _, g4⟩ := DataW.trod_int Try.underlying3 h4
    change List.take (Try.prog.cellsOf 3) (List.drop 4 [v0, v1, v2, v3, v4, v5, v6]) = _ at e4
    rw [cells3] at e4
    have f4 : v4 = .int .i64 x4 := by simpa using e4
    have h5 := hall 5 _ rfl
    rw [List.getElem?_eq_getElem (by rw [hxl]; decide)] at h5
    obtain ⟨y0, y1, m', _, _, q0, q1⟩ := trod_struct2 Try.underlying24 h5
    change DataW.trod enc Try.prog W 0 (fun _ => true) true m' 3 (List.take (Try.prog.cellsOf 3) (List.take (Try.prog.cellsOf 24) (List.drop 5 [v0, v1, v2, v3, v4, v5, v6]))) = some y0 at q0
    rw [cells3, cells24] at q0
    change DataW.trod enc Try.prog W 0 (fun _ => true) true m' 3 [v5] = some y0 at q0
    obtain ⟨x5, e5, _, _⟩ := DataW.trod_int Try.underlying3 q0
    have f5 : v5 = .int .i64 x5 := by simpa using e5
    change DataW.trod enc Try.prog W 0 (fun _ => true) true m' 22 (List.take (Try.prog.cellsOf 22) (List.drop 1 (List.take (Try.prog.cellsOf 24) (List.drop 5 [v0, v1, v2, v3, v4, v5, v6])))) = some y1 at q1
    rw [cells22, cells24] at q1
    change DataW.trod enc Try.prog W 0 (fun _ => true) true m' 22 [v6] = some y1 at q1
    obtain ⟨p, cap, ys, f6, hc, hle, hmx⟩ := slice_open q1
    refine ⟨⟨x0, x1, x2, x3, x4, x5, p, cap, ys⟩, ⟨int_range g1, int_range g2, hc, Nat.le_trans hle hmx⟩, ?_⟩
    rw [f0, f1, f2, f3, f4, f5, f6]; rfl
set_option maxRecDepth 100000 in
theorem opsL_open {W : World} {r : Reach} {b0 : Nat} {v : Value} {d : DataW H} {ps : List MemPlace} (hv : Value.okWide Try.prog W r b0 25 v) (h : DataW.Trod enc Try.prog W 0 (fun _ => true) true 25 v d ps) :
    ∃ (p : Option Addr) (cap : Nat) (xs : List OpR), v = .slice p xs.length cap ∧ OpsAt W p xs := by
  obtain ⟨a0, len0, cap0, rfl⟩ := okWide_slice Try.underlying25 hv
  obtain ⟨fuel, hf⟩ := h
  have hcs0 : (Value.slice a0 len0 cap0).cells.toList = [.slice a0 len0 cap0] := by simp [Value.cells]
  rw [hcs0] at hf
  rcases Deep.open_slice Try.underlying25 hf with ⟨hcs, _⟩ | ⟨a, len, cap, m, k, D, Pl, hcs, hb, hl, hm, hmm, _, hx⟩
  · simp only [List.cons.injEq, and_true] at hcs
    exact ⟨none, 0, [], hcs, fun j hj => by simp at hj⟩
  · simp only [List.cons.injEq, and_true] at hcs
    rw [if_pos rfl] at hmm
    subst hmm
    rw [cellsOp] at hx
    have hcell : ∀ i, i < len → ∃ y : OpR, OpOk W y ∧ ∀ f u, (opC y)[f]? = some u → W.cell? ((a.add (i * 7)).add f) = some u := fun i hi => by
      obtain ⟨cs', h1, h2⟩ := hx i (by omega)
      obtain ⟨y, hy, e⟩ := op_cells h2
      obtain ⟨_, hlen, hcell⟩ := World.cells?_some h1
      refine ⟨y, hy, fun f u hu => ?_⟩
      have hf7 : f < 7 := by
        have := (Array.getElem?_eq_some_iff.1 hu).1
        simpa [opC] using this
      have hc := hcell f hf7
      rw [hc, e, Array.getElem?_toList]
      exact hu
    have hinh : Inhabited OpR := ⟨⟨0, 0, 0, 0, 0, 0, none, 0, []⟩⟩
    obtain ⟨f, hf'⟩ := Deep.choose_lt hcell
    refine ⟨some a, m, (List.range len).map f, by simpa using hcs, fun j hj => ?_⟩
    have hj' : j < len := by simpa using hj
    obtain ⟨hok, hc⟩ := hf' j hj'
    have ha : a = ⟨a.block, a.off, none⟩ := by
      have hs := spot_none ((hf' 0 (by omega)).2 0 _ rfl)
      simpa [Addr.add] using hs
    have hblk : a.block < W.heap.size := by
      obtain ⟨cs', h1, _⟩ := hx j (by omega)
      have := World.cells?_block h1 (by decide)
      obtain ⟨b, o, s⟩ := a
      simp only [Addr.add] at this
      split at this <;> simpa using this
    refine ⟨a.block, a.off, by rw [← ha], hblk, fun q u hu => ?_, ?_⟩
    · have := hc q u (by simpa using hu)
      rw [ha, addr_at, addr_at] at this
      exact this
    · simpa using hok
set_option maxRecDepth 100000 in
theorem opL_open {W : World} {r : Reach} {b0 : Nat} {v : Value} {d : DataW H} {ps : List MemPlace} (hv : Value.okWide Try.prog W r b0 32 v) (h : DataW.Trod enc Try.prog W 0 (fun _ => true) true 32 v d ps) :
    ∃ y : OpR, v = .agg (opC y) ∧ OpOk W y := by
  obtain ⟨cs, rfl, hsz⟩ := okWide_struct Try.underlying32 hv
  obtain ⟨fuel, hf⟩ := h
  have hcs : (Value.agg cs).cells.toList = cs.toList := by simp [Value.cells]
  rw [hcs] at hf
  obtain ⟨y, hy, e⟩ := op_cells hf
  exact ⟨y, by rw [show cs = opC y from Array.toList_inj.1 e], hy⟩
end
end Go.Proofs.Ytlblfelfaopjiaa
