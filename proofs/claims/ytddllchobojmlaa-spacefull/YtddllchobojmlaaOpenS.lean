/- How what is handed in is read in memory, and what a law owes. -/
import Derived.Test.YtddllchobojmlaaRows
import Derived.Test.YtddllchobojmlaaPInv
import Derived.WalkKit
import Derived.ProofKit
import Derived.OpenShut
import Derived.Deep.DeepHandedRow
import Derived.ChangeMaps5
import Derived.Lib.SmallJoins
import Derived.Deep.Slices
namespace Go.Proofs.Ytddllchobojmlaa
open Go.ChangeShapes Go.WideShapes Go.ChangeAt Go.RowKit

theorem int_range {n : Int} (h : (Lit.int .i64 n).wf = true) : -9223372036854775808 ≤ n ∧ n ≤ 9223372036854775807 := by
  simp [Lit.wf] at h
  exact ⟨Int.le_trans (by decide : (-9223372036854775808 : Int) ≤ IntKind.min .i64) h.1, Int.le_trans h.2 (by decide)⟩
theorem u64_range {n : Int} (h : (Lit.int .u64 n).wf = true) : 0 ≤ n ∧ n < 18446744073709551616 := by
  simp [Lit.wf] at h
  exact ⟨Int.le_trans (by decide : (0 : Int) ≤ IntKind.min .u64) h.1, Int.lt_of_le_of_lt h.2 (by decide)⟩
theorem own : ownKnob Try.prog.godebug = none := by kernel_rfl
theorem laidOut : laidOutB Try.prog = true := by kernel_rfl
section
variable {H : Type} {enc : TypeId × Value → H}

/-- What is handed in reads as it did, wherever nothing old has turned. -/
theorem all_stay {W W' : World} (hb : Below W.heap.size W W') : ∀ {ts : List TypeId} {vs : List Value} {ds : List (DataW H)} {ps : List MemPlace} {sp : Nat → Bool}, (∀ t ∈ ts, Try.prog.readableRec t = true ∧ t < Try.prog.types.size) →
    DataW.TrodAll enc Try.prog W 0 (fun _ => true) true ts vs ds ps → (∀ x ∈ ps, x.block < W.heap.size) → (∀ x ∈ ps, sp x.block = true) → DataW.TrodAll enc Try.prog W' 0 sp true ts vs ds ps
  | [], _, _, _, _, _, h, _, _ => by
    obtain ⟨rfl, rfl, rfl⟩ := trodAll_nil h
    exact trodAll_mk0
  | t :: ts, _, _, _, _, hr, h, hlt, hsp => by
    obtain ⟨v, vs', d, ds', p, q, rfl, rfl, rfl, h0, h1⟩ := trodAll_cons h
    exact trodAll_cons_mk (WideElems.Trod_stays laidOut (hr t (List.mem_cons_self ..)).1 (hr t (List.mem_cons_self ..)).2 h0 (fun x hx => hb.same (hlt x (List.mem_append.2 (.inl hx)))) (fun x hx => hsp x (List.mem_append.2 (.inl hx))))
      (all_stay hb (fun u hu => hr u (List.mem_cons_of_mem _ hu)) h1 (fun x hx => hlt x (List.mem_append.2 (.inr hx))) (fun x hx => hsp x (List.mem_append.2 (.inr hx))))
theorem addr_at (b o j : Nat) : (⟨b, o, none⟩ : Addr).add j = ⟨b, o + j, none⟩ := by
  by_cases h : j = 0 <;> simp [Addr.add, h]
theorem spot_none {W : World} {a : Addr} {v : Value} (h : W.cell? a = some v) : a = ⟨a.block, a.off, none⟩ := by
  obtain ⟨b, o, s⟩ := a
  cases s with
  | none => rfl
  | some s => simp only [World.cell?] at h; split at h <;> simp at h

instance : Inhabited Mp := ⟨⟨0, 0, 0, 0, 0, false, false⟩⟩
/-- The cells of a mapping that is read. -/
theorem map_cells {W : World} {n : Nat} {cs : List Value} {x : DataW H × List MemPlace} (hf : DataW.trod enc Try.prog W 0 (fun _ => true) true n 24 cs = some x) : ∃ m : Mp, cs = mpC m := by
  obtain ⟨xs, n', rfl, _, hcl, hxl, hall⟩ := DataW.trod_struct Try.underlying24 hf
  rw [show Try.prog.cellsOf 24 = 7 from by kernel_rfl] at hcl
  match cs, hcl with
  | [v0, v1, v2, v3, v4, v5, v6], _ =>
    have k3 : Try.prog.cellsOf 3 = 1 := by kernel_rfl
    have k4 : Try.prog.cellsOf 4 = 1 := by kernel_rfl
    have h0 := hall 0 _ rfl
    rw [List.getElem?_eq_getElem (by rw [hxl]; decide)] at h0
    obtain ⟨x0, e0, _, _⟩ := DataW.trod_int Try.underlying3 h0
    change List.take (Try.prog.cellsOf 3) (List.drop 0 [v0, v1, v2, v3, v4, v5, v6]) = _ at e0
    rw [k3] at e0
    have f0 : v0 = .int .i64 x0 := by simpa using e0
    have h1 := hall 1 _ rfl
    rw [List.getElem?_eq_getElem (by rw [hxl]; decide)] at h1
    obtain ⟨x1, e1, _, _⟩ := DataW.trod_int Try.underlying3 h1
    change List.take (Try.prog.cellsOf 3) (List.drop 1 [v0, v1, v2, v3, v4, v5, v6]) = _ at e1
    rw [k3] at e1
    have f1 : v1 = .int .i64 x1 := by simpa using e1
    have h2 := hall 2 _ rfl
    rw [List.getElem?_eq_getElem (by rw [hxl]; decide)] at h2
    obtain ⟨x2, e2, _, _⟩ := DataW.trod_int Try.underlying3 h2
    change List.take (Try.prog.cellsOf 3) (List.drop 2 [v0, v1, v2, v3, v4, v5, v6]) = _ at e2
    rw [k3] at e2
    have f2 : v2 = .int .i64 x2 := by simpa using e2
    have h3 := hall 3 _ rfl
    rw [List.getElem?_eq_getElem (by rw [hxl]; decide)] at h3
    obtain ⟨x3, e3, _, _⟩ := DataW.trod_int Try.underlying3 h3
    change List.take (Try.prog.cellsOf 3) (List.drop 3 [v0, v1, v2, v3, v4, v5, v6]) = _ at e3
    rw [k3] at e3
    have f3 : v3 = .int .i64 x3 := by simpa using e3
    have h4 := hall 4 _ rfl
    rw [List.getElem?_eq_getElem (by rw [hxl]; decide)] at h4
    obtain ⟨x4, e4, _, _⟩ := DataW.trod_int Try.underlying3 h4
    change List.take (Try.prog.cellsOf 3) (List.drop 4 [v0, v1, v2, v3, v4, v5, v6]) = _ at e4
    rw [k3] at e4
    have f4 : v4 = .int .i64 x4 := by simpa using e4
    have h5 := hall 5 _ rfl
    rw [List.getElem?_eq_getElem (by rw [hxl]; decide)] at h5
    obtain ⟨x5, e5, _⟩ := DataW.trod_bool Try.underlying4 h5
    change List.take (Try.prog.cellsOf 4) (List.drop 5 [v0, v1, v2, v3, v4, v5, v6]) = _ at e5
    rw [k4] at e5
    have f5 : v5 = .bool x5 := by simpa using e5
    have h6 := hall 6 _ rfl
    rw [List.getElem?_eq_getElem (by rw [hxl]; decide)] at h6
    obtain ⟨x6, e6, _⟩ := DataW.trod_bool Try.underlying4 h6
    change List.take (Try.prog.cellsOf 4) (List.drop 6 [v0, v1, v2, v3, v4, v5, v6]) = _ at e6
    rw [k4] at e6
    have f6 : v6 = .bool x6 := by simpa using e6
    exact ⟨⟨x0, x1, x2, x3, x4, x5, x6⟩, by rw [f0, f1, f2, f3, f4, f5, f6]; rfl⟩
/-- A mapping that is handed in. -/
theorem map_open {W : World} {r : Reach} {b0 : Nat} {v : Value} {d : DataW H} {ps : List MemPlace} (hv : Value.okWide Try.prog W r b0 24 v) (h : DataW.Trod enc Try.prog W 0 (fun _ => true) true 24 v d ps) :
    ∃ m : Mp, v = mpV m := by
  obtain ⟨cs, rfl, hsz⟩ := okWide_struct Try.underlying24 hv
  obtain ⟨fuel, hf⟩ := h
  obtain ⟨m, hm⟩ := map_cells hf
  refine ⟨m, ?_⟩
  have e : cs = (mpC m).toArray := by
    have : (Value.agg cs).cells.toList = cs.toList := by simp [Value.cells]
    rw [this] at hm
    rw [← hm]
  rw [e]; rfl
theorem cellsMap : Try.prog.cellsOf 24 = 7 := by kernel_rfl
set_option maxRecDepth 100000 in
/-- A row of mappings that is handed in. -/
theorem maps_open {W : World} {r : Reach} {b0 : Nat} {v : Value} {d : DataW H} {ps : List MemPlace} (hv : Value.okWide Try.prog W r b0 22 v) (h : DataW.Trod enc Try.prog W 0 (fun _ => true) true 22 v d ps) :
    ∃ (p : Option Addr) (cap : Nat) (xs : List Mp), v = .slice p xs.length cap ∧ RAt W p cap xs := by
  obtain ⟨a0, len0, cap0, rfl⟩ := okWide_slice Try.underlying22 hv
  obtain ⟨fuel, hf⟩ := h
  have hcs0 : (Value.slice a0 len0 cap0).cells.toList = [.slice a0 len0 cap0] := by simp [Value.cells]
  rw [hcs0] at hf
  rcases Deep.open_slice Try.underlying22 hf with ⟨hcs, _⟩ | ⟨a, len, cap, m, k, D, Pl, hcs, hb, hl, hm, hmm, _, hx⟩
  · simp only [List.cons.injEq, and_true] at hcs
    exact ⟨none, 0, [], hcs, fun j hj => by simp at hj, by simp, by simp, fun _ => rfl⟩
  · simp only [List.cons.injEq, and_true] at hcs
    rw [if_pos rfl] at hmm
    subst hmm
    rw [cellsMap] at hx
    have hcell : ∀ i, i < len → ∃ y : Mp, ∀ r u, (mpC y)[r]? = some u → W.cell? ((a.add (i * 7)).add r) = some u := fun i hi => by
      obtain ⟨cs', h1, h2⟩ := hx i (by omega)
      obtain ⟨y, rfl⟩ := map_cells h2
      obtain ⟨_, hlen, hcell⟩ := World.cells?_some h1
      refine ⟨y, fun r u hu => ?_⟩
      have hr := (List.getElem?_eq_some_iff.1 hu).1
      rw [hcell r hr]; exact hu
    obtain ⟨f, hf'⟩ := Deep.choose_lt hcell
    refine ⟨some a, m, (List.range len).map f, by simpa using hcs, ?_, by simpa using hl, hm, fun h => by cases h⟩
    intro j hj
    have hj' : j < len := by simpa using hj
    have ha : a = ⟨a.block, a.off, none⟩ := by
      have hs := spot_none (hf' 0 (by omega) 0 _ rfl)
      simpa [Addr.add] using hs
    have e0 := hf' j hj'
    rw [ha] at e0
    have hat : MpAt W a.block (a.off + j * 7) (f j) := MpAt.of fun r u hu => by
      have := e0 r u hu
      rwa [addr_at, addr_at] at this
    exact ⟨a.block, a.off, by rw [← ha], World.block_lt_of_cell? W ⟨a.block, a.off + j * 7, none⟩ hat.c0, by simpa using hat⟩
def IntsAt (w : World) (p : Option Addr) (xs : List Int) : Prop :=
  ∀ j, (h : j < xs.length) → ∃ b off, p = some ⟨b, off, none⟩ ∧ b < w.heap.size ∧ w.cell? ⟨b, off + j, none⟩ = some (.int .i64 xs[j])
theorem IntsAt.below {w w' : World} {p : Option Addr} {xs : List Int} (h : IntsAt w p xs) (hb : Below w.heap.size w w') : IntsAt w' p xs := fun j hj => by
  obtain ⟨b, off, hp, hbl, c0⟩ := h j hj
  exact ⟨b, off, hp, Nat.lt_of_lt_of_le hbl hb.size, (hb.cell (p := ⟨b, off + j, none⟩) hbl).trans c0⟩
theorem cellsInt : Try.prog.cellsOf 3 = 1 := by kernel_rfl
set_option maxRecDepth 100000 in
theorem ints_open {W : World} {r : Reach} {b0 : Nat} {v : Value} {d : DataW H} {ps : List MemPlace} (hv : Value.okWide Try.prog W r b0 43 v) (h : DataW.Trod enc Try.prog W 0 (fun _ => true) true 43 v d ps) :
    ∃ (p : Option Addr) (cap : Nat) (xs : List Int), v = .slice p xs.length cap ∧ IntsAt W p xs ∧ ∀ x ∈ xs, -9223372036854775808 ≤ x ∧ x ≤ 9223372036854775807 := by
  obtain ⟨a0, len0, cap0, rfl⟩ := okWide_slice Try.underlying43 hv
  obtain ⟨fuel, hf⟩ := h
  have hcs0 : (Value.slice a0 len0 cap0).cells.toList = [.slice a0 len0 cap0] := by simp [Value.cells]
  rw [hcs0] at hf
  rcases Deep.open_slice Try.underlying43 hf with ⟨hcs, _⟩ | ⟨a, len, cap, m, k, D, Pl, hcs, hb, hl, hm, hmm, _, hx⟩
  · simp only [List.cons.injEq, and_true] at hcs
    exact ⟨none, 0, [], hcs, fun j hj => by simp at hj, fun x hx => by cases hx⟩
  · simp only [List.cons.injEq, and_true] at hcs
    rw [if_pos rfl] at hmm
    subst hmm
    rw [cellsInt] at hx
    have hcell : ∀ i, i < len → ∃ y : Int, W.cell? (a.add (i * 1)) = some (.int .i64 y) ∧ (-9223372036854775808 ≤ y ∧ y ≤ 9223372036854775807) := fun i hi => by
      obtain ⟨cs', h1, h2⟩ := hx i (by omega)
      obtain ⟨c, e0, _, hw⟩ := DataW.trod_int Try.underlying3 h2
      subst e0
      obtain ⟨_, _, hcell⟩ := World.cells?_some h1
      have k0 := hcell 0 (by decide)
      exact ⟨c, by simpa [Addr.add] using k0, int_range hw⟩
    obtain ⟨f, hf'⟩ := Deep.choose_lt hcell
    refine ⟨some a, m, (List.range len).map f, by simpa using hcs, ?_, ?_⟩
    · intro j hj
      have hj' : j < len := by simpa using hj
      obtain ⟨e0, _⟩ := hf' j hj'
      have ha : a = ⟨a.block, a.off, none⟩ := by
        have hs := spot_none (hf' 0 (by omega)).1
        simpa [Addr.add] using hs
      have hblk : a.block < W.heap.size := by
        obtain ⟨cs', h1, _⟩ := hx j (by omega)
        have := World.cells?_block h1 (by decide)
        obtain ⟨b, o, s⟩ := a
        simp only [Addr.add] at this
        split at this <;> simpa using this
      rw [ha, addr_at, Nat.mul_one] at e0
      exact ⟨a.block, a.off, by rw [← ha], hblk, by simpa using e0⟩
    · intro x hx'
      obtain ⟨i, hi, rfl⟩ := List.mem_map.1 hx'
      exact (hf' i (List.mem_range.1 hi)).2
end
/-- What a law owes: it answered true, and nothing old has turned. -/
theorem law_post {H : Type} {enc : TypeId × Value → H} {f : Func} {s : ChangeSpec} {W W' : World} {args : Array Value} {ds : List (DataW H)} {before : List MemPlace} (hres : f.resultTypes = #[4]) (hr : ∀ t ∈ f.params.toList, Try.prog.readableRec t = true ∧ t < Try.prog.types.size)
    (hv : s.vars = []) (hW : DataW.Whole enc Try.prog f.params.toList s.vars false W args.toList ds [] before) (hfr : (s.fn H (ds ++ [])).results = [.lit (.bool true)]) (hfa : (s.fn H (ds ++ [])).args = ds) (hfv : (s.fn H (ds ++ [])).vars = []) (hb : Below W.heap.size W W') :
    s.post enc Try.prog f false true false false W args (.bool true) W' := by
  have hlt := hW.lt
  have hW' := hW
  obtain ⟨p, q, hA, hV, rfl, _, _⟩ := hW
  have hq : q = [] := by rw [hv] at hV; exact (trodVars_none hV).2
  subst hq
  rw [List.append_nil] at hW' hlt
  have hold : ∀ x ∈ p, (fun b => decide (b < W.heap.size)) x.block = true := fun x hx => by simpa using hlt x hx
  refine ⟨ds, [], p, [], p, [], hW', ?_, ?_, ?_, hb.frame _, fun h => by cases h⟩
  · rw [hres, hfr]; exact trodAll_mk1 (shut_bool Try.underlying4 _)
  · rw [hfa]; exact all_stay hb hr hA hlt hold
  · rw [hfv, hv]; exact rfl
end Go.Proofs.Ytddllchobojmlaa
