/- Rows of calls that are handed in, with their strings. -/
import Derived.Test.YtpedinpjdepjdaaOpenP
import Derived.Test.YtpedinpjdepjdaaWhole
import Derived.Deep.Strs
namespace Go.Proofs.Ytpedinpjdepjdaa
open Go.ChangeShapes Go.WideShapes Go.ChangeAt Go.RowKit
theorem spot_none {W : World} {a : Addr} {v : Value} (h : W.cell? a = some v) : a = ⟨a.block, a.off, none⟩ := by
  obtain ⟨b, o, s⟩ := a
  cases s with
  | none => rfl
  | some s => simp only [World.cell?] at h; split at h <;> simp at h
theorem addr_at (b off j : Nat) : (⟨b, off, none⟩ : Addr).add j = ⟨b, off + j, none⟩ := by unfold Addr.add; split <;> simp_all
theorem cellsI : Try.prog.cellsOf 3 = 1 := by kernel_rfl
theorem cellsU : Try.prog.cellsOf 33 = 1 := by kernel_rfl
theorem cellsS : Try.prog.cellsOf 9 = 1 := by kernel_rfl
theorem cellsSs : Try.prog.cellsOf 32 = 1 := by kernel_rfl
theorem cellsOp : Try.prog.cellsOf 35 = 5 := by kernel_rfl
/-- A call: its kind, its numbers, its strings. -/
structure Op3 where
  kind : Int
  at' : Int
  n : Int
  p : Option Addr
  cap : Nat
  l : List ByteArray
  x : Nat
instance : Inhabited Op3 := ⟨⟨0, 0, 0, none, 0, [], 0⟩⟩
def op3C (y : Op3) : List Value := [.int .i64 y.kind, .int .i64 y.at', .int .i64 y.n, .slice y.p y.l.length y.cap, .int .u64 (y.x : Int)]
structure Op3.good (W : World) (y : Op3) : Prop where
  a : y.at' ≤ 9223372036854775807
  x : y.x < 18446744073709551616
  cs : CsAt W y.p y.l
  nil : y.l = [] → y.p = none → y.cap = 0
theorem Op3.good.lt {W : World} {y : Op3} (h : y.good W) : y.l ≠ [] → ∀ ad, y.p = some ad → ad.block < W.heap.size := fun hl ad hp => by
  obtain ⟨b, off, h1, h2⟩ := h.cs 0 (List.length_pos_iff.2 hl)
  rw [h1] at hp
  cases hp
  exact World.block_lt_of_cell? W ⟨b, off + 0, none⟩ h2
theorem bulk_part {H : Type} {d : DataW H} {l : List (DataW H)} (h : d ∈ l) : Rows.uptoBulk d ≤ Rows.uptoBulkAll l := by
  induction l with
  | nil => cases h
  | cons x r ih =>
    simp only [Rows.uptoBulkAll]
    cases List.mem_cons.1 h with
    | inl e => subst e; omega
    | inr e => have := ih e; omega
theorem bulk_strs {H : Type} (l : List ByteArray) : Rows.uptoBulkAll (l.map fun s => (DataW.lit (.string s.data.toList) : DataW H)) = sumL l + l.length := by
  induction l with
  | nil => rfl
  | cons s l ih =>
    simp only [List.map_cons, Rows.uptoBulkAll, Rows.uptoBulk, ih]
    unfold sumL
    simp
    omega
theorem u64_nat {n : Int} (h : (Lit.int .u64 n).wf = true) : ∃ x : Nat, n = (x : Int) ∧ x < 18446744073709551616 := by
  simp [Lit.wf] at h
  have h1 : (0 : Int) ≤ n := Int.le_trans (by decide) h.1
  have h2 : n ≤ 18446744073709551615 := Int.le_trans h.2 (by decide)
  exact ⟨n.toNat, by omega, by omega⟩
section
variable {H : Type} {enc : TypeId × Value → H}
set_option maxRecDepth 100000 in
theorem op3_cells {W : World} {n : Nat} {x : DataW H × List MemPlace} {cs : List Value} (h : DataW.trod enc Try.prog W 0 (fun _ => true) true n 35 cs = some x) : ∃ y : Op3, y.good W ∧ cs = op3C y ∧ sumL y.l + y.l.length ≤ Rows.uptoBulk x.1 := by
  obtain ⟨xs, m, _, hxe, hl, hxl, hall⟩ := DataW.trod_struct Try.underlying35 h
  rw [cellsOp] at hl
  match cs, hl with
  | [v0, v1, v2, v3, v4], _ =>
    have h0 := hall 0 _ rfl
    rw [List.getElem?_eq_getElem (by rw [hxl]; decide)] at h0
    obtain ⟨x0, e0, _, g0⟩ := DataW.trod_int Try.underlying3 h0
    change List.take (Try.prog.cellsOf 3) (List.drop 0 [v0, v1, v2, v3, v4]) = _ at e0
    rw [cellsI] at e0
    have f0 : v0 = .int .i64 x0 := by simpa using e0
    have h1 := hall 1 _ rfl
    rw [List.getElem?_eq_getElem (by rw [hxl]; decide)] at h1
    obtain ⟨x1, e1, _, g1⟩ := DataW.trod_int Try.underlying3 h1
    change List.take (Try.prog.cellsOf 3) (List.drop 1 [v0, v1, v2, v3, v4]) = _ at e1
    rw [cellsI] at e1
    have f1 : v1 = .int .i64 x1 := by simpa using e1
    have h2 := hall 2 _ rfl
    rw [List.getElem?_eq_getElem (by rw [hxl]; decide)] at h2
    obtain ⟨x2, e2, _, g2⟩ := DataW.trod_int Try.underlying3 h2
    change List.take (Try.prog.cellsOf 3) (List.drop 2 [v0, v1, v2, v3, v4]) = _ at e2
    rw [cellsI] at e2
    have f2 : v2 = .int .i64 x2 := by simpa using e2
    have h4 := hall 4 _ rfl
    rw [List.getElem?_eq_getElem (by rw [hxl]; decide)] at h4
    obtain ⟨x4, e4, _, g4⟩ := DataW.trod_int Try.underlying33 h4
    change List.take (Try.prog.cellsOf 33) (List.drop 4 [v0, v1, v2, v3, v4]) = _ at e4
    rw [cellsU] at e4
    have f4 : v4 = .int .u64 x4 := by simpa using e4
    obtain ⟨z4, rfl, hz4⟩ := u64_nat g4
    have h3 := hall 3 _ rfl
    have hk3 : 3 < xs.length := by rw [hxl]; decide
    rw [List.getElem?_eq_getElem hk3] at h3
    have hmem : (xs[3]).1 ∈ xs.map (·.1) := List.mem_map_of_mem (List.getElem_mem hk3)
    have hbk : Rows.uptoBulk (xs[3]).1 ≤ Rows.uptoBulk x.1 := by
      have := bulk_part hmem
      rw [hxe]
      simp only [Rows.uptoBulk]
      omega
    rcases Deep.open_strs Try.underlying32 Try.underlying9 cellsS h3 with ⟨hcs, _⟩ | ⟨a, len, cap, mm, Sx, hcs, hb, hle, hm, hmm, hxx, hcl⟩
    · change List.take (Try.prog.cellsOf 32) (List.drop 3 [v0, v1, v2, v3, v4]) = _ at hcs
      rw [cellsSs] at hcs
      have f3 : v3 = .slice none 0 0 := by simpa using hcs
      exact ⟨⟨x0, x1, x2, none, 0, [], z4⟩, ⟨(int_range g1).2, hz4, fun j hj => by simp at hj, fun _ _ => rfl⟩, by rw [f0, f1, f2, f3, f4]; rfl, by show sumL [] + 0 ≤ _; unfold sumL; simp⟩
    · change List.take (Try.prog.cellsOf 32) (List.drop 3 [v0, v1, v2, v3, v4]) = _ at hcs
      rw [cellsSs] at hcs
      have f3 : v3 = .slice (some a) len cap := by simpa using hcs
      rw [if_pos rfl] at hmm
      subst hmm
      refine ⟨⟨x0, x1, x2, some a, mm, (List.range len).map Sx, z4⟩, ⟨(int_range g1).2, hz4, ?_, fun _ h => by cases h⟩, by rw [f0, f1, f2, f3, f4]; simp [op3C], ?_⟩
      · intro j hj
        have hj' : j < len := by simpa using hj
        have ha : a = ⟨a.block, a.off, none⟩ := by
          have hs := spot_none (hcl 0 (by omega)).1
          simpa [Addr.add] using hs
        have hc := (hcl j (by omega)).1
        rw [ha, addr_at] at hc
        exact ⟨a.block, a.off, by rw [← ha], by rw [hc]; simp⟩
      · refine Nat.le_trans ?_ hbk
        have hx1 : (xs[3]).1 = _ := congrArg Prod.fst hxx
        rw [hx1]
        simp only [Rows.uptoBulk]
        have := bulk_strs (H := H) ((List.range len).map Sx)
        rw [List.map_map] at this
        have h2 : (fun s => (DataW.lit (.string s.data.toList) : DataW H)) ∘ Sx = fun i => .lit (.string (Sx i).data.toList) := rfl
        rw [h2] at this
        rw [this]
        omega
/-- A row of calls in memory. -/
def Ops3At (w : World) (p : Option Addr) (l : List Op3) : Prop := ∀ k (h : k < l.length), ∃ b off, p = some ⟨b, off, none⟩ ∧ b < w.heap.size ∧ ∀ r u, (op3C l[k])[r]? = some u → w.cell? ⟨b, off + k * 5 + r, none⟩ = some u
theorem Ops3At.at_ {w w' : World} {p : Option Addr} {l : List Op3} (h : Ops3At w p l) (hb : Below w.heap.size w w') {k : Nat} (hk : k < l.length) : ∃ b off, p = some ⟨b, off, none⟩ ∧ b < w.heap.size ∧ w'.cell? ⟨b, off + k * 5, none⟩ = some (.int .i64 l[k].kind) ∧ w'.cell? ⟨b, off + k * 5 + 1, none⟩ = some (.int .i64 l[k].at') ∧ w'.cell? ⟨b, off + k * 5 + 2, none⟩ = some (.int .i64 l[k].n) ∧ w'.cell? ⟨b, off + k * 5 + 3, none⟩ = some (.slice l[k].p l[k].l.length l[k].cap) ∧ w'.cell? ⟨b, off + k * 5 + 4, none⟩ = some (.int .u64 (l[k].x : Int)) := by
  obtain ⟨b, off, h1, h2, h3⟩ := h k hk
  have e : ∀ o, w'.cell? ⟨b, o, none⟩ = w.cell? ⟨b, o, none⟩ := fun o => hb.cell (p := ⟨b, o, none⟩) h2
  exact ⟨b, off, h1, h2, (e _).trans (h3 0 _ rfl), (e _).trans (h3 1 _ rfl), (e _).trans (h3 2 _ rfl), (e _).trans (h3 3 _ rfl), (e _).trans (h3 4 _ rfl)⟩
set_option maxRecDepth 100000 in
theorem ops3_open {W : World} {r : Reach} {b0 : Nat} {v : Value} {d : DataW H} {ps : List MemPlace} (hv : Value.okWide Try.prog W r b0 22 v) (h : DataW.Trod enc Try.prog W 0 (fun _ => true) true 22 v d ps) :
    ∃ (p : Option Addr) (cap : Nat) (xs : List Op3), v = .slice p xs.length cap ∧ Ops3At W p xs ∧ (∀ x ∈ xs, x.good W ∧ sumL x.l + x.l.length ≤ Rows.uptoBulk d) := by
  obtain ⟨a0, len0, cap0, rfl⟩ := okWide_slice Try.underlying22 hv
  obtain ⟨fuel, hf⟩ := h
  have hcs0 : (Value.slice a0 len0 cap0).cells.toList = [.slice a0 len0 cap0] := by simp [Value.cells]
  rw [hcs0] at hf
  rcases Deep.open_slice Try.underlying22 hf with ⟨hcs, _⟩ | ⟨a, len, cap, m, k, D, Pl, hcs, hb, hl, hm, hmm, hd, hx⟩
  · simp only [List.cons.injEq, and_true] at hcs
    exact ⟨none, 0, [], hcs, (fun j hj => by simp at hj), (fun x hx => by cases hx)⟩
  · simp only [List.cons.injEq, and_true] at hcs
    rw [if_pos rfl] at hmm
    subst hmm
    rw [cellsOp] at hx
    have hd1 : d = _ := congrArg Prod.fst hd
    have hcell : ∀ i, i < len → ∃ y : Op3, (y.good W ∧ sumL y.l + y.l.length ≤ Rows.uptoBulk d) ∧ ∀ r u, (op3C y)[r]? = some u → W.cell? ((a.add (i * 5)).add r) = some u := fun i hi => by
      obtain ⟨cs', h1, h2⟩ := hx i (by omega)
      obtain ⟨y, hg, rfl, hbk⟩ := op3_cells h2
      obtain ⟨_, hlen, hcell⟩ := World.cells?_some h1
      refine ⟨y, ⟨hg, Nat.le_trans hbk ?_⟩, fun r u hu => ?_⟩
      · have := bulk_part (d := D i) (l := (List.range len).map D) (List.mem_map_of_mem (List.mem_range.2 hi))
        rw [hd1]
        simp only [Rows.uptoBulk]
        omega
      · have hr := (List.getElem?_eq_some_iff.1 hu).1
        rw [hcell r hr]; exact hu
    obtain ⟨f, hf'⟩ := Deep.choose_lt hcell
    refine ⟨some a, m, (List.range len).map f, by simpa using hcs, ?_, ?_⟩
    · intro j hj
      have hj' : j < len := by simpa using hj
      have ha : a = ⟨a.block, a.off, none⟩ := by
        have hs := spot_none ((hf' 0 (by omega)).2 0 _ rfl)
        simpa [Addr.add] using hs
      have e0 := (hf' j hj').2
      rw [ha] at e0
      have hat : ∀ r u, (op3C (f j))[r]? = some u → W.cell? ⟨a.block, a.off + j * 5 + r, none⟩ = some u := fun r u hu => by
        have := e0 r u hu
        rwa [addr_at, addr_at] at this
      have h0 := hat 0 _ rfl
      refine ⟨a.block, a.off, by rw [← ha], World.block_lt_of_cell? W ⟨a.block, a.off + j * 5 + 0, none⟩ h0, ?_⟩
      simp only [List.getElem_map, List.getElem_range]
      exact hat
    · intro x hx'
      obtain ⟨i, hi, rfl⟩ := List.mem_map.1 hx'
      exact (hf' i (List.mem_range.1 hi)).1
end
end Go.Proofs.Ytpedinpjdepjdaa
