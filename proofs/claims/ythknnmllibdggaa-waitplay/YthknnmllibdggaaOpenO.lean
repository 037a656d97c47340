/- A row of calls that is handed in. -/
import Derived.Test.YthknnmllibdggaaOpenI
namespace Go.Proofs.Ythknnmllibdggaa
open Go.ChangeShapes Go.WideShapes Go.ChangeAt Go.RowKit
/-- A call: its kind, and its numbers. -/
structure Opv where
  kind : Int
  th : Int
  seg : Int
  off : Int
  code : Int
instance : Inhabited Opv := ⟨⟨0, 0, 0, 0, 0⟩⟩
def Opv.good (x : Opv) : Prop := i64 x.th ∧ i64 x.seg ∧ i64 x.off ∧ i64 x.code
def OpsAt (w : World) (p : Option Addr) (l : List Opv) : Prop := ∀ k (h : k < l.length), ∃ b off, p = some ⟨b, off, none⟩ ∧ b < w.heap.size ∧ w.cell? ⟨b, off + k * 5, none⟩ = some (.int .i64 l[k].kind) ∧ w.cell? ⟨b, off + k * 5 + 1, none⟩ = some (.int .i64 l[k].th) ∧ w.cell? ⟨b, off + k * 5 + 2, none⟩ = some (.int .i64 l[k].seg) ∧ w.cell? ⟨b, off + k * 5 + 3, none⟩ = some (.int .i64 l[k].off) ∧ w.cell? ⟨b, off + k * 5 + 4, none⟩ = some (.int .i64 l[k].code)
theorem OpsAt.at_ {w w' : World} {p : Option Addr} {l : List Opv} (h : OpsAt w p l) (hb : Below w.heap.size w w') {k : Nat} (hk : k < l.length) : ∃ b off, p = some ⟨b, off, none⟩ ∧ b < w.heap.size ∧ w'.cell? ⟨b, off + k * 5, none⟩ = some (.int .i64 l[k].kind) ∧ w'.cell? ⟨b, off + k * 5 + 1, none⟩ = some (.int .i64 l[k].th) ∧ w'.cell? ⟨b, off + k * 5 + 2, none⟩ = some (.int .i64 l[k].seg) ∧ w'.cell? ⟨b, off + k * 5 + 3, none⟩ = some (.int .i64 l[k].off) ∧ w'.cell? ⟨b, off + k * 5 + 4, none⟩ = some (.int .i64 l[k].code) := by
  obtain ⟨b, off, h1, h2, h3, h4, h5, h6, h7⟩ := h k hk
  have e : ∀ o, w'.cell? ⟨b, o, none⟩ = w.cell? ⟨b, o, none⟩ := fun o => hb.cell (p := ⟨b, o, none⟩) h2
  exact ⟨b, off, h1, h2, (e _).trans h3, (e _).trans h4, (e _).trans h5, (e _).trans h6, (e _).trans h7⟩
section
variable {H : Type} {enc : TypeId × Value → H}
theorem cellsOp : Try.prog.cellsOf 33 = 5 := by kernel_rfl
def opC (y : Opv) : List Value := [.int .i64 y.kind, .int .i64 y.th, .int .i64 y.seg, .int .i64 y.off, .int .i64 y.code]
set_option maxRecDepth 100000 in
theorem op_cells {W : World} {n : Nat} {x : DataW H × List MemPlace} {cs : List Value} (h : DataW.trod enc Try.prog W 0 (fun _ => true) true n 33 cs = some x) : ∃ y : Opv, y.good ∧ cs = opC y := by
  obtain ⟨xs, m, _, _, hl, hxl, hall⟩ := DataW.trod_struct Try.underlying33 h
  rw [cellsOp] at hl
  match cs, hl with
  | [v0, v1, v2, v3, v4], _ =>
    have h0 := hall 0 _ rfl
    rw [List.getElem?_eq_getElem (by rw [hxl]; decide)] at h0
    obtain ⟨x0, e0, _, g0⟩ := DataW.trod_int Try.underlying3 h0
    change List.take (Try.prog.cellsOf 3) (List.drop 0 [v0, v1, v2, v3, v4]) = _ at e0
    rw [cellsInt] at e0
    have f0 : v0 = .int .i64 x0 := by simpa using e0
    have h1 := hall 1 _ rfl
    rw [List.getElem?_eq_getElem (by rw [hxl]; decide)] at h1
    obtain ⟨x1, e1, _, g1⟩ := DataW.trod_int Try.underlying3 h1
    change List.take (Try.prog.cellsOf 3) (List.drop 1 [v0, v1, v2, v3, v4]) = _ at e1
    rw [cellsInt] at e1
    have f1 : v1 = .int .i64 x1 := by simpa using e1
    have h2 := hall 2 _ rfl
    rw [List.getElem?_eq_getElem (by rw [hxl]; decide)] at h2
    obtain ⟨x2, e2, _, g2⟩ := DataW.trod_int Try.underlying3 h2
    change List.take (Try.prog.cellsOf 3) (List.drop 2 [v0, v1, v2, v3, v4]) = _ at e2
    rw [cellsInt] at e2
    have f2 : v2 = .int .i64 x2 := by simpa using e2
    have h3 := hall 3 _ rfl
    rw [List.getElem?_eq_getElem (by rw [hxl]; decide)] at h3
    obtain ⟨x3, e3, _, g3⟩ := DataW.trod_int Try.underlying3 h3
    change List.take (Try.prog.cellsOf 3) (List.drop 3 [v0, v1, v2, v3, v4]) = _ at e3
    rw [cellsInt] at e3
    have f3 : v3 = .int .i64 x3 := by simpa using e3
    have h4 := hall 4 _ rfl
    rw [List.getElem?_eq_getElem (by rw [hxl]; decide)] at h4
    obtain ⟨x4, e4, _, g4⟩ := DataW.trod_int Try.underlying3 h4
    change List.take (Try.prog.cellsOf 3) (List.drop 4 [v0, v1, v2, v3, v4]) = _ at e4
    rw [cellsInt] at e4
    have f4 : v4 = .int .i64 x4 := by simpa using e4
    exact ⟨⟨x0, x1, x2, x3, x4⟩, ⟨int_range g1, int_range g2, int_range g3, int_range g4⟩, by rw [f0, f1, f2, f3, f4]; rfl⟩
set_option maxRecDepth 100000 in
theorem ops_open {W : World} {r : Reach} {b0 : Nat} {v : Value} {d : DataW H} {ps : List MemPlace} (hv : Value.okWide Try.prog W r b0 22 v) (h : DataW.Trod enc Try.prog W 0 (fun _ => true) true 22 v d ps) :
    ∃ (p : Option Addr) (cap : Nat) (xs : List Opv), v = .slice p xs.length cap ∧ OpsAt W p xs ∧ (∀ x ∈ xs, x.good) ∧ xs.length ≤ cap ∧ cap ≤ maxLen := by
  obtain ⟨a0, len0, cap0, rfl⟩ := okWide_slice Try.underlying22 hv
  obtain ⟨fuel, hf⟩ := h
  have hcs0 : (Value.slice a0 len0 cap0).cells.toList = [.slice a0 len0 cap0] := by simp [Value.cells]
  rw [hcs0] at hf
  rcases Deep.open_slice Try.underlying22 hf with ⟨hcs, _⟩ | ⟨a, len, cap, m, k, D, Pl, hcs, hb, hl, hm, hmm, _, hx⟩
  · simp only [List.cons.injEq, and_true] at hcs
    exact ⟨none, 0, [], hcs, (fun j hj => by simp at hj), (fun x hx => by cases hx), Nat.le_refl _, Nat.zero_le _⟩
  · simp only [List.cons.injEq, and_true] at hcs
    rw [if_pos rfl] at hmm
    subst hmm
    rw [cellsOp] at hx
    have hcell : ∀ i, i < len → ∃ y : Opv, y.good ∧ ∀ r u, (opC y)[r]? = some u → W.cell? ((a.add (i * 5)).add r) = some u := fun i hi => by
      obtain ⟨cs', h1, h2⟩ := hx i (by omega)
      obtain ⟨y, hg, rfl⟩ := op_cells h2
      obtain ⟨_, hlen, hcell⟩ := World.cells?_some h1
      refine ⟨y, hg, fun r u hu => ?_⟩
      have hr := (List.getElem?_eq_some_iff.1 hu).1
      rw [hcell r hr]; exact hu
    obtain ⟨f, hf'⟩ := Deep.choose_lt hcell
    refine ⟨some a, m, (List.range len).map f, by simpa using hcs, ?_, ?_, by simpa using hl, hm⟩
    · intro j hj
      have hj' : j < len := by simpa using hj
      have ha : a = ⟨a.block, a.off, none⟩ := by
        have hs := spot_none ((hf' 0 (by omega)).2 0 _ rfl)
        simpa [Addr.add] using hs
      have e0 := (hf' j hj').2
      rw [ha] at e0
      have hat : ∀ r u, (opC (f j))[r]? = some u → W.cell? ⟨a.block, a.off + j * 5 + r, none⟩ = some u := fun r u hu => by
        have := e0 r u hu
        rwa [addr_at, addr_at] at this
      have h0 := hat 0 _ rfl
      refine ⟨a.block, a.off, by rw [← ha], World.block_lt_of_cell? W ⟨a.block, a.off + j * 5 + 0, none⟩ h0, ?_⟩
      simp only [List.getElem_map, List.getElem_range]
      exact ⟨h0, hat 1 _ rfl, hat 2 _ rfl, hat 3 _ rfl, hat 4 _ rfl⟩
    · intro x hx'
      obtain ⟨i, hi, rfl⟩ := List.mem_map.1 hx'
      exact (hf' i (List.mem_range.1 hi)).1
end
end Go.Proofs.Ythknnmllibdggaa
