/- The law HoldPlay answers true for every root, label and row of calls; no condition. -/
import Derived.Test.YtebcnlhgkpaghaaRows
import Derived.Test.YtebcnlhgkpaghaaFits
import Derived.WalkKit
import Derived.ProofKit
import Derived.OpenShut
import Derived.Deep.DeepHandedRow
import Derived.ChangeMaps5
import Derived.Lib.SmallJoins
import Derived.Deep.Slices
import Derived.Test.YtebcnlhgkpaghaaOpsH
import Derived.Test.YtebcnlhgkpaghaaLives
import Derived.Test.YtebcnlhgkpaghaaChecked
import Derived.LaidLaws
/- How what is handed in is read in memory, and what a law owes. -/
namespace Go.Proofs.Ytebcnlhgkpaghaa
open Go.ChangeShapes Go.WideShapes Go.ChangeAt Go.RowKit

theorem int_range {n : Int} (h : (Lit.int .i64 n).wf = true) : -9223372036854775808 ≤ n ∧ n ≤ 9223372036854775807 := by
  simp [Lit.wf] at h
  exact ⟨Int.le_trans (by decide : (-9223372036854775808 : Int) ≤ IntKind.min .i64) h.1, Int.le_trans h.2 (by decide)⟩
theorem own : ownKnob Try.prog.godebug = none := by kernel_rfl
theorem cells24 : Try.prog.cellsOf 24 = 2 := by kernel_rfl
theorem cells30 : Try.prog.cellsOf 84 = 2 := by kernel_rfl
theorem cells22 : Try.prog.cellsOf 22 = 1 := by kernel_rfl
theorem cells3 : Try.prog.cellsOf 3 = 1 := by kernel_rfl
theorem laidOut : laidOutB Try.prog = true := by kernel_rfl
section
variable {H : Type} {enc : TypeId × Value → H}

/-- What is handed in reads as it did, wherever nothing old has turned. -/
theorem all_stay {W W' : World} (hb : Below W.heap.size W W') : ∀ {ts : List TypeId} {vs : List Value} {ds : List (DataW H)} {ps : List MemPlace} {sp : Nat → Bool}, (∀ t ∈ ts, Try.prog.readableRec t = true ∧ t < Try.prog.types.size) →
    DataW.TrodAll enc Try.prog W 0 (fun _ => true) true ts vs ds ps → (∀ x ∈ ps, x.block < W.heap.size) → (∀ x ∈ ps, sp x.block = true) → DataW.TrodAll enc Try.prog W' 0 sp true ts vs ds ps
  | [], _, _, _, _, _, h, _, _ => by
    obtain ⟨rfl, rfl, rfl⟩ := trodAll_nil h
    exact trodAll_mk0
  | t :: ts, _, _, _, _, hr, h, hlt, hsp => by
    obtain ⟨v, vs', d, ds', p, q, rfl, rfl, rfl, h0, h1⟩ := trodAll_cons h
    exact trodAll_cons_mk (WideElems.Trod_stays laidOut (hr t (List.mem_cons_self ..)).1 (hr t (List.mem_cons_self ..)).2 h0 (fun x hx => hb.same (hlt x (List.mem_append.2 (.inl hx)))) (fun x hx => hsp x (List.mem_append.2 (.inl hx))))
      (all_stay hb (fun u hu => hr u (List.mem_cons_of_mem _ hu)) h1 (fun x hx => hlt x (List.mem_append.2 (.inr hx))) (fun x hx => hsp x (List.mem_append.2 (.inr hx))))
theorem entry_open {W : World} {a : Addr} {n : Nat} {x : DataW H × List MemPlace} {cs : List Value} (hc : W.cells? 0 a 2 = some cs) (h : DataW.trod enc Try.prog W 0 (fun _ => true) true n 84 cs = some x) :
    ∃ c l : Int, W.cell? a = some (.int .i64 c) ∧ W.cell? (a.add 1) = some (.int .i64 l) := by
  obtain ⟨y0, y1, m, _, _, h0, h1⟩ := trod_struct2 Try.underlying84 h
  rw [cells3] at h0 h1
  obtain ⟨c, e0, _, _⟩ := DataW.trod_int Try.underlying3 h0
  obtain ⟨l, e1, _, _⟩ := DataW.trod_int Try.underlying3 h1
  obtain ⟨_, hlen, hcell⟩ := World.cells?_some hc
  match cs, hlen with
  | [c0, c1], _ =>
    simp at e0 e1
    subst e0 e1
    have k0 := hcell 0 (by decide)
    have k1 := hcell 1 (by decide)
    refine ⟨c, l, ?_, k1⟩
    simpa [Addr.add] using k0

theorem addr_at (b o j : Nat) : (⟨b, o, none⟩ : Addr).add j = ⟨b, o + j, none⟩ := by
  by_cases h : j = 0 <;> simp [Addr.add, h]
theorem spot_none {W : World} {a : Addr} {v : Value} (h : W.cell? a = some v) : a = ⟨a.block, a.off, none⟩ := by
  obtain ⟨b, o, s⟩ := a
  cases s with
  | none => rfl
  | some s => simp only [World.cell?] at h; split at h <;> simp at h

theorem slice_open {W : World} {n : Nat} {v : Value} {x : DataW H × List MemPlace} (h : DataW.trod enc Try.prog W 0 (fun _ => true) true n 22 [v] = some x) :
    ∃ (p : Option Addr) (cap : Nat) (xs : List (Int × Int)), v = .slice p xs.length cap ∧ CatsAt W p xs ∧ xs.length ≤ cap ∧ cap ≤ maxLen := by
  rcases Deep.open_slice Try.underlying22 h with ⟨hcs, _⟩ | ⟨a, len, cap, m, k, D, Pl, hcs, hb, hl, hm, hmm, _, hx⟩
  · simp only [List.cons.injEq, and_true] at hcs
    exact ⟨none, 0, [], hcs, fun j hj => by simp at hj, by simp, by unfold maxLen; omega⟩
  · simp only [List.cons.injEq, and_true] at hcs
    rw [if_pos rfl] at hmm
    subst hmm
    rw [cells30] at hx
    have hcell : ∀ i, i < len → ∃ y : Int × Int, W.cell? (a.add (i * 2)) = some (.int .i64 y.1) ∧ W.cell? ((a.add (i * 2)).add 1) = some (.int .i64 y.2) := fun i hi => by
      obtain ⟨cs', h1, h2⟩ := hx i (by omega)
      obtain ⟨c, l, e0, e1⟩ := entry_open h1 h2
      exact ⟨(c, l), e0, e1⟩
    obtain ⟨f, hf⟩ := Deep.choose_lt hcell
    refine ⟨some a, m, (List.range len).map f, by simpa using hcs, ?_, by simpa using hl, hm⟩
    intro j hj
    have hj' : j < len := by simpa using hj
    obtain ⟨e0, e1⟩ := hf j hj'
    have ha : a = ⟨a.block, a.off, none⟩ := by
      have hs := spot_none (hf 0 (by omega)).1
      simpa [Addr.add] using hs
    have hblk : a.block < W.heap.size := by
      obtain ⟨cs', h1, _⟩ := hx j (by omega)
      have := World.cells?_block h1 (by decide)
      obtain ⟨b, o, s⟩ := a
      simp only [Addr.add] at this
      split at this <;> simpa using this
    rw [ha] at e0 e1
    rw [addr_at, addr_at] at e1
    rw [addr_at] at e0
    refine ⟨a.block, a.off, by rw [← ha], hblk, ?_, ?_⟩
    · simpa using e0
    · simpa using e1

set_option maxRecDepth 100000 in
/-- A label that is handed in. -/
theorem label_open {W : World} {r : Reach} {b0 : Nat} {v : Value} {d : DataW H} {ps : List MemPlace} (hv : Value.okWide Try.prog W r b0 24 v) (h : DataW.Trod enc Try.prog W 0 (fun _ => true) true 24 v d ps) :
    ∃ (e : Int) (p : Option Addr) (cap : Nat) (xs : List (Int × Int)), v = .agg #[.int .i64 e, .slice p xs.length cap] ∧ CatsAt W p xs ∧ xs.length ≤ cap ∧ cap ≤ maxLen := by
  obtain ⟨c0, c1, y0, y1, n, rfl, _, _, h0, h1⟩ := Joins.open_agg2 Try.underlying24 (by kernel_rfl) cells24 hv h
  obtain ⟨e, he, _, _⟩ := DataW.trod_int Try.underlying3 h0
  simp only [List.cons.injEq, and_true] at he
  obtain ⟨p, cap, xs, rfl, hc, hl, hm⟩ := slice_open h1
  exact ⟨e, p, cap, xs, by rw [he], hc, hl, hm⟩
end
/-- What a law owes: it answered true, and nothing old has turned. -/
theorem law_post {H : Type} {enc : TypeId × Value → H} {f : Func} {s : ChangeSpec} {W W' : World} {args : Array Value} {ds : List (DataW H)} {before : List MemPlace} (hres : f.resultTypes = #[4]) (hr : ∀ t ∈ f.params.toList, Try.prog.readableRec t = true ∧ t < Try.prog.types.size)
    (hv : s.vars = []) (hW : DataW.Whole enc Try.prog f.params.toList s.vars false W args.toList ds [] before) (hfr : (s.fn H (ds ++ [])).results = [.lit (.bool true)]) (hfa : (s.fn H (ds ++ [])).args = ds) (hfv : (s.fn H (ds ++ [])).vars = []) (hb : Below W.heap.size W W') :
    s.post enc Try.prog f false true false false W args (.bool true) W' := by
  have hlt := hW.lt
  have hW' := hW
  obtain ⟨p, q, hA, hV, rfl, _, _⟩ := hW
  have hq : q = [] := by rw [hv] at hV; exact (trodVars_none hV).2
  subst hq
  rw [List.append_nil] at hW' hlt
  have hold : ∀ x ∈ p, (fun b => decide (b < W.heap.size)) x.block = true := fun x hx => by simpa using hlt x hx
  refine ⟨ds, [], p, [], p, [], hW', ?_, ?_, ?_, hb.frame _, fun h => by cases h⟩
  · rw [hres, hfr]; exact trodAll_mk1 (shut_bool Try.underlying4 _)
  · rw [hfa]; exact all_stay hb hr hA hlt hold
  · rw [hfv, hv]; exact rfl
end Go.Proofs.Ytebcnlhgkpaghaa
/- Rows of calls that are handed in, with their labels. -/
namespace Go.Proofs.Ytebcnlhgkpaghaa
open Go.ChangeShapes Go.WideShapes Go.ChangeAt Go.RowKit
theorem cellsOp : Try.prog.cellsOf 32 = 7 := by kernel_rfl
section
variable {H : Type} {enc : TypeId × Value → H}
set_option maxRecDepth 100000 in
theorem op_cellsO {W : World} {n : Nat} {x : DataW H × List MemPlace} {cs : List Value} (h : DataW.trod enc Try.prog W 0 (fun _ => true) true n 32 cs = some x) : ∃ y : OpR, OpOk W y ∧ cs = (opC y).toList := by
  obtain ⟨xs, m, _, hxe, hl, hxl, hall⟩ := DataW.trod_struct Try.underlying32 h
  rw [cellsOp] at hl
  match cs, hl with
  | [v0, v1, v2, v3, v4, v5, v6], _ =>
    have h0 := hall 0 _ rfl
    rw [List.getElem?_eq_getElem (by rw [hxl]; decide)] at h0
    obtain ⟨x0, e0, _, g0⟩ := DataW.trod_int Try.underlying3 h0
    change List.take (Try.prog.cellsOf 3) (List.drop 0 [v0, v1, v2, v3, v4, v5, v6]) = _ at e0
    rw [cells3] at e0
    have f0 : v0 = .int .i64 x0 := by simpa using e0
    have h1 := hall 1 _ rfl
    rw [List.getElem?_eq_getElem (by rw [hxl]; decide)] at h1
    obtain ⟨x1, e1, _, g1⟩ := DataW.trod_int Try.underlying3 h1
    change List.take (Try.prog.cellsOf 3) (List.drop 1 [v0, v1, v2, v3, v4, v5, v6]) = _ at e1
    rw [cells3] at e1
    have f1 : v1 = .int .i64 x1 := by simpa using e1
    have h2 := hall 2 _ rfl
    rw [List.getElem?_eq_getElem (by rw [hxl]; decide)] at h2
    obtain ⟨x2, e2, _, g2⟩ := DataW.trod_int Try.underlying3 h2
    change List.take (Try.prog.cellsOf 3) (List.drop 2 [v0, v1, v2, v3, v4, v5, v6]) = _ at e2
    rw [cells3] at e2
    have f2 : v2 = .int .i64 x2 := by simpa using e2
    have h3 := hall 3 _ rfl
    rw [List.getElem?_eq_getElem (by rw [hxl]; decide)] at h3
    obtain ⟨x3, e3, _, g3⟩ := DataW.trod_int Try.underlying3 h3
    change List.take (Try.prog.cellsOf 3) (List.drop 3 [v0, v1, v2, v3, v4, v5, v6]) = _ at e3
    rw [cells3] at e3
    have f3 : v3 = .int .i64 x3 := by simpa using e3
    have h4 := hall 4 _ rfl
    rw [List.getElem?_eq_getElem (by rw [hxl]; decide)] at h4
    obtain ⟨x4, e4, _, g4⟩ := DataW.trod_int Try.underlying3 h4
    change List.take (Try.prog.cellsOf 3) (List.drop 4 [v0, v1, v2, v3, v4, v5, v6]) = _ at e4
    rw [cells3] at e4
    have f4 : v4 = .int .i64 x4 := by simpa using e4
    have h5 := hall 5 _ rfl
    rw [List.getElem?_eq_getElem (by rw [hxl]; decide)] at h5
    obtain ⟨y0, y1, m', _, _, q0, q1⟩ := trod_struct2 Try.underlying24 h5
    change DataW.trod enc Try.prog W 0 (fun _ => true) true m' 3 (List.take (Try.prog.cellsOf 3) (List.take (Try.prog.cellsOf 24) (List.drop 5 [v0, v1, v2, v3, v4, v5, v6]))) = some y0 at q0
    rw [cells3, cells24] at q0
    change DataW.trod enc Try.prog W 0 (fun _ => true) true m' 3 [v5] = some y0 at q0
    obtain ⟨x5, e5, _, _⟩ := DataW.trod_int Try.underlying3 q0
    have f5 : v5 = .int .i64 x5 := by simpa using e5
    change DataW.trod enc Try.prog W 0 (fun _ => true) true m' 22 (List.take (Try.prog.cellsOf 22) (List.drop 1 (List.take (Try.prog.cellsOf 24) (List.drop 5 [v0, v1, v2, v3, v4, v5, v6])))) = some y1 at q1
    rw [cells22, cells24] at q1
    change DataW.trod enc Try.prog W 0 (fun _ => true) true m' 22 [v6] = some y1 at q1
    obtain ⟨p, cap, ys, f6, hc, hle, hmx⟩ := slice_open q1
    refine ⟨⟨x0, x1, x2, x3, x4, x5, p, cap, ys⟩, ⟨int_range g1, int_range g2, hc, Nat.le_trans hle hmx⟩, ?_⟩
    rw [f0, f1, f2, f3, f4, f5, f6]; rfl
set_option maxRecDepth 100000 in
theorem opsL_open {W : World} {r : Reach} {b0 : Nat} {v : Value} {d : DataW H} {ps : List MemPlace} (hv : Value.okWide Try.prog W r b0 25 v) (h : DataW.Trod enc Try.prog W 0 (fun _ => true) true 25 v d ps) :
    ∃ (p : Option Addr) (cap : Nat) (xs : List OpR), v = .slice p xs.length cap ∧ OpsAt W p xs := by
  obtain ⟨a0, len0, cap0, rfl⟩ := okWide_slice Try.underlying25 hv
  obtain ⟨fuel, hf⟩ := h
  have hcs0 : (Value.slice a0 len0 cap0).cells.toList = [.slice a0 len0 cap0] := by simp [Value.cells]
  rw [hcs0] at hf
  rcases Deep.open_slice Try.underlying25 hf with ⟨hcs, _⟩ | ⟨a, len, cap, m, k, D, Pl, hcs, hb, hl, hm, hmm, _, hx⟩
  · simp only [List.cons.injEq, and_true] at hcs
    exact ⟨none, 0, [], hcs, fun j hj => by simp at hj⟩
  · simp only [List.cons.injEq, and_true] at hcs
    rw [if_pos rfl] at hmm
    subst hmm
    rw [cellsOp] at hx
    have hcell : ∀ i, i < len → ∃ y : OpR, OpOk W y ∧ ∀ f u, (opC y)[f]? = some u → W.cell? ((a.add (i * 7)).add f) = some u := fun i hi => by
      obtain ⟨cs', h1, h2⟩ := hx i (by omega)
      obtain ⟨y, hy, e⟩ := op_cellsO h2
      obtain ⟨_, hlen, hcell⟩ := World.cells?_some h1
      refine ⟨y, hy, fun f u hu => ?_⟩
      have hf7 : f < 7 := by
        have := (Array.getElem?_eq_some_iff.1 hu).1
        simpa [opC] using this
      have hc := hcell f hf7
      rw [hc, e, Array.getElem?_toList]
      exact hu
    have hinh : Inhabited OpR := ⟨⟨0, 0, 0, 0, 0, 0, none, 0, []⟩⟩
    obtain ⟨f, hf'⟩ := Deep.choose_lt hcell
    refine ⟨some a, m, (List.range len).map f, by simpa using hcs, fun j hj => ?_⟩
    have hj' : j < len := by simpa using hj
    obtain ⟨hok, hc⟩ := hf' j hj'
    have ha : a = ⟨a.block, a.off, none⟩ := by
      have hs := spot_none ((hf' 0 (by omega)).2 0 _ rfl)
      simpa [Addr.add] using hs
    have hblk : a.block < W.heap.size := by
      obtain ⟨cs', h1, _⟩ := hx j (by omega)
      have := World.cells?_block h1 (by decide)
      obtain ⟨b, o, s⟩ := a
      simp only [Addr.add] at this
      split at this <;> simpa using this
    refine ⟨a.block, a.off, by rw [← ha], hblk, fun q u hu => ?_, ?_⟩
    · have := hc q u (by simpa using hu)
      rw [ha, addr_at, addr_at] at this
      exact this
    · simpa using hok
set_option maxRecDepth 100000 in
theorem opL_open {W : World} {r : Reach} {b0 : Nat} {v : Value} {d : DataW H} {ps : List MemPlace} (hv : Value.okWide Try.prog W r b0 32 v) (h : DataW.Trod enc Try.prog W 0 (fun _ => true) true 32 v d ps) :
    ∃ y : OpR, v = .agg (opC y) ∧ OpOk W y := by
  obtain ⟨cs, rfl, hsz⟩ := okWide_struct Try.underlying32 hv
  obtain ⟨fuel, hf⟩ := h
  have hcs : (Value.agg cs).cells.toList = cs.toList := by simp [Value.cells]
  rw [hcs] at hf
  obtain ⟨y, hy, e⟩ := op_cellsO hf
  exact ⟨y, by rw [show cs = opC y from Array.toList_inj.1 e], hy⟩
end
end Go.Proofs.Ytebcnlhgkpaghaa
/- Both tables newly made, as values. -/
namespace Go.Proofs.Ytebcnlhgkpaghaa
open Go.RowKit Go.Sort
theorem BoX.below {w w' : World} {b0 tb rb : Nat} {root : Int} (h : BoX w b0 tb rb root) (hb : Below w.heap.size w w') : BoX w' b0 tb rb root := by
  obtain ⟨base, mb, F, S, g, cap, cs, L, h⟩ := h
  exact ⟨base, mb, F, S, g, cap, cs, L, h.below hb⟩
theorem BoX.bw {w : World} {b0 tb rb : Nat} {root : Int} (h : BoX w b0 tb rb root) : b0 ≤ w.heap.size := by
  obtain ⟨base, mb, F, S, g, cap, cs, L, h⟩ := h
  exact h.bw
theorem told_x {w : World} {b0 tb rb : Nat} {root : Int} (h : BoX w b0 tb rb root) : Calls Try.prog 8 #[.pointer (some ⟨tb, 0, none⟩), .pointer (some ⟨rb, 0, none⟩)] w fun e w' => e = .returned (.bool true) ∧ Below w.heap.size w w' := by
  obtain ⟨base, mb, F, S, g, cap, cs, L, h⟩ := h
  exact told_both h
def HN (root d : Int) (xs : List (Int × Int)) (b0 : Nat) (v : Value) (X : World) : Prop := ∃ base tb mb F, v = .pointer (some ⟨tb, 0, none⟩) ∧ HX root X base tb mb F (updS (fun _ => none) root (root0 root d xs)) ∧ b0 ≤ base
def RN (root d : Int) (p : Option Addr) (cc : Nat) (xs : List (Int × Int)) (b0 : Nat) (v : Value) (X : World) : Prop := ∃ rb g, v = .pointer (some ⟨rb, 0, none⟩) ∧ b0 ≤ rb ∧ b0 ≤ g ∧ X.heap[rb]? = some (.cells #[.int .i64 root, .slice (some ⟨g, 0, none⟩) 1 1] 63 (0, 0)) ∧ X.heap[g]? = some (.cells (thC ⟨root, 1, 1099511627776, d, p, cc, xs, none, 0, []⟩).toArray 60 (0, 0))
theorem HN.below {root d : Int} {xs : List (Int × Int)} {b0 : Nat} {v : Value} {X Y : World} (h : HN root d xs b0 v X) (hb : Below X.heap.size X Y) : HN root d xs b0 v Y := by
  obtain ⟨base, tb, mb, F, a, b, c⟩ := h
  exact ⟨base, tb, mb, F, a, b.below hb, c⟩
theorem RN.below {root d : Int} {p : Option Addr} {cc : Nat} {xs : List (Int × Int)} {b0 : Nat} {v : Value} {X Y : World} (h : RN root d p cc xs b0 v X) (hb : Below X.heap.size X Y) : RN root d p cc xs b0 v Y := by
  obtain ⟨rb, g, a, b, c, d1, d2⟩ := h
  exact ⟨rb, g, a, b, c, (hb.block _ (Array.getElem?_eq_some_iff.1 d1).1).trans d1, (hb.block _ (Array.getElem?_eq_some_iff.1 d2).1).trans d2⟩
theorem both_new {root d : Int} {p : Option Addr} {cc : Nat} {xs : List (Int × Int)} {b0 : Nat} {u v : Value} {X : World} (h1 : HN root d xs b0 u X) (h2 : RN root d p cc xs b0 v X) (hm : xs.length < 1000000) (hc : CatsAt X p xs) (hp : 0 < xs.length → ∀ a, p = some a → a.block < b0) (hbx : b0 ≤ X.heap.size) :
    ∃ tb rb, u = .pointer (some ⟨tb, 0, none⟩) ∧ v = .pointer (some ⟨rb, 0, none⟩) ∧ BoX X b0 tb rb root := by
  obtain ⟨base, tb, mb, F, rfl, hx, hb⟩ := h1
  obtain ⟨rb, g, rfl, c1, c2, d1, d2⟩ := h2
  obtain ⟨r1, r2⟩ := start_rs (b0 := b0) (F := F) d1 d2 hc hp c1 c2 (fun k hk => ⟨Nat.le_trans hb (hx.lt hk).1, (hx.lt hk).2, fun e => hx.apart d1 (by decide) (by decide) (by decide) (by decide) (e ▸ hk), fun e => hx.apart d2 (by decide) (by decide) (by decide) (by decide) (e ▸ hk)⟩) hm
  exact ⟨tb, rb, rfl, rfl, base, mb, F, _, g, 1, _, _, hx, r1, r2, hb, c1, c2, hbx⟩
theorem cats_low {w : World} {p : Option Addr} {xs : List (Int × Int)} (h : CatsAt w p xs) : 0 < xs.length → ∀ a, p = some a → a.block < w.heap.size := fun hn a ha => by
  obtain ⟨b, off, e, hb, _⟩ := h 0 hn
  rw [e] at ha; cases ha; exact hb
end Go.Proofs.Ytebcnlhgkpaghaa
/- The law HoldPlay. -/
namespace Go.Proofs.Ytebcnlhgkpaghaa
open Go.RowKit Go.Sort
set_option maxRecDepth 100000 in
set_option maxHeartbeats 8000000 in
theorem HoldPlay_any (root d : Int) (p : Option Addr) (cc : Nat) (xs : List (Int × Int)) (sp : Option Addr) (scap : Nat) (l : List OpR) (w : World) (hm : xs.length ≤ maxLen) (hc : CatsAt w p xs) (hl : OpsAt w sp l) :
    Calls Try.prog 3 #[.int .i64 root, .agg #[.int .i64 d, .slice p xs.length cc], .slice sp l.length scap] w fun e w' => e = .returned (.bool true) ∧ Below w.heap.size w w' := by
  obtain ⟨W0, hW0⟩ : ∃ W0, w.alloc (.cells #[.int .i64 d, .slice p xs.length cc] 24) = W0 := ⟨_, rfl⟩
  have hb0 : Below w.heap.size w W0 := by rw [← hW0]; exact (Below.refl _ _).alloc (Nat.le_refl _) _
  have hbk : W0.heap[w.heap.size]? = some (.cells #[.int .i64 d, .slice p xs.length cc] 24 (0, 0)) := by rw [← hW0]; exact heap_new _ _
  have hz0 : w.heap.size < W0.heap.size := by rw [← hW0]; simp
  have HLv := Lib.hid lives_any
  have HL := Lib.hid hl
  have HC := Lib.hid hc
  have HB0 := Lib.hid hb0
  clear hl hc hb0
  go_enter Try.func3, Try.ntmps3
  go_upto_region 3 with (go_at_call 4; with_reducible refine Calls.mono (HLv.out _) ?_; rintro e w1 ⟨rfl, hb1⟩; have HB1 := Lib.hid hb1; clear hb1)
  have b1 : Below w.heap.size w w1 := HB0.out.trans (HB1.out.mono HB0.out.size)
  have hbk1 := (HB1.out.block _ hz0).trans hbk
  have hz1 : w.heap.size < w1.heap.size := Nat.lt_of_lt_of_le hz0 HB1.out.size
  have cW : ∀ X, Below w1.heap.size w1 X → X.cell? ⟨w.heap.size, 0, none⟩ = some (.int .i64 d) ∧ X.cell? ⟨w.heap.size, 1, none⟩ = some (.slice p xs.length cc) := fun X hX => by
    have := (hX.block _ hz1).trans hbk1
    exact ⟨by simp [World.cell?, this], by simp [World.cell?, this]⟩
  have HC1 := Lib.hid (HC.out.below b1)
  have HBW := Lib.hid b1
  clear b1 hbk hbk1
  by_cases hf : (isCt root && fitsS d 1 xs) = true
  · obtain ⟨hf1, hf2⟩ : isCt root = true ∧ fitsS d 1 xs = true := by simpa using hf
    have hx16 : xs.length < 1000000 := by unfold fitsS at hf2; simp at hf2; omega
    clear hf
    refine wp_region_monoT 6 6 (fun kq uq Xq => match kq with | 15 => uq = .int .i64 root | 16 => uq = .agg #[.int .i64 d, .slice p xs.length cc] | 17 => HN root d xs w.heap.size (uq) Xq | 18 => uq = .int .i64 root | 19 => uq = .agg #[.int .i64 d, .slice p xs.length cc] | 20 => RN root d p cc xs w.heap.size (uq) Xq | _ => True) (by kernel_rfl) (by kernel_rfl) (by kernel_rfl) (by kernel_rfl) (by simp) (by kernel_rfl) ?_ ?_ ?_
    · intro kq v W W' h hb
      revert h
      try dsimp only
      split
      · intro h; exact h
      · intro h; exact h
      · intro h; exact HN.below h hb
      · intro h; exact h
      · intro h; exact h
      · intro h; exact RN.below h hb
      · intro h; trivial
    · intro a' X hB hs hk i o d ho hd hG
      match i, ho with
      | 0, ho =>
        obtain rfl : _ = o := Option.some.inj ho
        obtain rfl : 15 = d := Option.some.inj hd
        have g0 : a'.eval (.tmp 0) = .int .i64 root := hk 0 (by kernel_rfl)
        obtain ⟨ev, hev⟩ : ∃ ev, a'.eval = ev := ⟨_, rfl⟩
        rw [hev] at g0 ⊢
        clear hev hG hk
        obtain ⟨c0, c1⟩ := cW X hB
        exact .inr ⟨rfl, .inl ⟨.int .i64 root, X, by clear hs; go_simp, Below.refl _ _, rfl⟩⟩
      | 1, ho =>
        obtain rfl : _ = o := Option.some.inj ho
        obtain rfl : 16 = d := Option.some.inj hd
        have g4 : a'.eval (.tmp 4) = .pointer (some ⟨w.heap.size, 0, none⟩) := hk 4 (by kernel_rfl)
        obtain ⟨ev, hev⟩ : ∃ ev, a'.eval = ev := ⟨_, rfl⟩
        rw [hev] at g4 ⊢
        clear hev hG hk
        obtain ⟨c0, c1⟩ := cW X hB
        exact .inr ⟨rfl, .inl ⟨.agg #[.int .i64 d, .slice p xs.length cc], X, by clear hs; go_simp, Below.refl _ _, rfl⟩⟩
      | 2, ho =>
        obtain rfl : _ = o := Option.some.inj ho
        obtain rfl : 17 = d := Option.some.inj hd
        have g15 : a'.eval (.tmp 15) = .int .i64 root := hG ⟨0, .data⟩ (by simp) rfl 15 rfl
        have g16 : a'.eval (.tmp 16) = .agg #[.int .i64 d, .slice p xs.length cc] := hG ⟨1, .data⟩ (by simp) rfl 16 rfl
        refine .inr ⟨rfl, .inr ⟨5, #[.int .i64 root, .agg #[.int .i64 d, .slice p xs.length cc]], ?_, ?_⟩⟩
        · have gF : a'.eval (.func 5) = .func (.func 5) #[] #[] := rfl
          obtain ⟨ev, hev⟩ : ∃ ev, a'.eval = ev := ⟨_, rfl⟩
          rw [hev] at gF g15 g16 ⊢
          exact exec_call2 rfl gF g15 g16 (enters_of Try.func5 (by kernel_rfl) rfl)
        · exact (new_x root d p cc xs X hx16 (HC1.out.below hB) hf1 hf2).mono fun e W' ⟨tb, mb, F, he, hh, hb⟩ => ⟨_, he, hb, _, tb, mb, F, rfl, hh, Nat.le_trans HBW.out.size hB.size⟩
      | 3, ho =>
        obtain rfl : _ = o := Option.some.inj ho
        obtain rfl : 18 = d := Option.some.inj hd
        have g0 : a'.eval (.tmp 0) = .int .i64 root := hk 0 (by kernel_rfl)
        obtain ⟨ev, hev⟩ : ∃ ev, a'.eval = ev := ⟨_, rfl⟩
        rw [hev] at g0 ⊢
        clear hev hG hk
        obtain ⟨c0, c1⟩ := cW X hB
        exact .inr ⟨rfl, .inl ⟨.int .i64 root, X, by clear hs; go_simp, Below.refl _ _, rfl⟩⟩
      | 4, ho =>
        obtain rfl : _ = o := Option.some.inj ho
        obtain rfl : 19 = d := Option.some.inj hd
        have g4 : a'.eval (.tmp 4) = .pointer (some ⟨w.heap.size, 0, none⟩) := hk 4 (by kernel_rfl)
        obtain ⟨ev, hev⟩ : ∃ ev, a'.eval = ev := ⟨_, rfl⟩
        rw [hev] at g4 ⊢
        clear hev hG hk
        obtain ⟨c0, c1⟩ := cW X hB
        exact .inr ⟨rfl, .inl ⟨.agg #[.int .i64 d, .slice p xs.length cc], X, by clear hs; go_simp, Below.refl _ _, rfl⟩⟩
      | 5, ho =>
        obtain rfl : _ = o := Option.some.inj ho
        obtain rfl : 20 = d := Option.some.inj hd
        have g18 : a'.eval (.tmp 18) = .int .i64 root := hG ⟨3, .data⟩ (by simp) rfl 18 rfl
        have g19 : a'.eval (.tmp 19) = .agg #[.int .i64 d, .slice p xs.length cc] := hG ⟨4, .data⟩ (by simp) rfl 19 rfl
        refine .inr ⟨rfl, .inr ⟨6, #[.int .i64 root, .agg #[.int .i64 d, .slice p xs.length cc]], ?_, ?_⟩⟩
        · have gF : a'.eval (.func 6) = .func (.func 6) #[] #[] := rfl
          obtain ⟨ev, hev⟩ : ∃ ev, a'.eval = ev := ⟨_, rfl⟩
          rw [hev] at gF g18 g19 ⊢
          exact exec_call2 rfl gF g18 g19 (enters_of Try.func6 (by kernel_rfl) rfl)
        · exact (rNew_yes root d p cc xs X hx16 (HC1.out.below hB) hf1 hf2).mono fun e W' ⟨rb, g, he, h1, h2, _, h4, h5, hb⟩ => ⟨_, he, hb, rb, g, rfl, Nat.le_trans (Nat.le_trans HBW.out.size hB.size) h1, Nat.le_trans (Nat.le_trans HBW.out.size hB.size) h2, h4, h5⟩
      | j + 6, ho => simp at ho
    · intro a' X hB hs hdf hk hG
      obtain ⟨tm, df⟩ := a'
      obtain rfl : df = [] := hdf
      have e0 : tm.getD 0 undef = .int .i64 root := hk 0 (by kernel_rfl)
      have e1 : tm.getD 1 undef = .agg #[.int .i64 d, .slice p xs.length cc] := hk 1 (by kernel_rfl)
      have e2 : tm.getD 2 undef = .slice sp l.length scap := hk 2 (by kernel_rfl)
      have e3 : tm.getD 3 undef = undef := hk 3 (by kernel_rfl)
      have e4 : tm.getD 4 undef = .pointer (some ⟨w.heap.size, 0, none⟩) := hk 4 (by kernel_rfl)
      have e5 : tm.getD 5 undef = undef := hk 5 (by kernel_rfl)
      have e6 : tm.getD 6 undef = .bool false := hk 6 (by kernel_rfl)
      have e7 : tm.getD 7 undef = undef := hk 7 (by kernel_rfl)
      have e8 : tm.getD 8 undef = undef := hk 8 (by kernel_rfl)
      have e9 : tm.getD 9 undef = undef := hk 9 (by kernel_rfl)
      have e10 : tm.getD 10 undef = undef := hk 10 (by kernel_rfl)
      have e11 : tm.getD 11 undef = undef := hk 11 (by kernel_rfl)
      have e12 : tm.getD 12 undef = undef := hk 12 (by kernel_rfl)
      have e13 : tm.getD 13 undef = .bool true := hk 13 (by kernel_rfl)
      have e14 : tm.getD 14 undef = .bool false := hk 14 (by kernel_rfl)
      have e21 : tm.getD 21 undef = undef := hk 21 (by kernel_rfl)
      have e22 : tm.getD 22 undef = undef := hk 22 (by kernel_rfl)
      have e23 : tm.getD 23 undef = undef := hk 23 (by kernel_rfl)
      have e24 : tm.getD 24 undef = undef := hk 24 (by kernel_rfl)
      have e25 : tm.getD 25 undef = undef := hk 25 (by kernel_rfl)
      have e26 : tm.getD 26 undef = undef := hk 26 (by kernel_rfl)
      have e27 : tm.getD 27 undef = undef := hk 27 (by kernel_rfl)
      have e28 : tm.getD 28 undef = undef := hk 28 (by kernel_rfl)
      have e29 : tm.getD 29 undef = undef := hk 29 (by kernel_rfl)
      have e30 : tm.getD 30 undef = undef := hk 30 (by kernel_rfl)
      have e31 : tm.getD 31 undef = undef := hk 31 (by kernel_rfl)
      have e32 : tm.getD 32 undef = undef := hk 32 (by kernel_rfl)
      have e33 : tm.getD 33 undef = undef := hk 33 (by kernel_rfl)
      have e34 : tm.getD 34 undef = undef := hk 34 (by kernel_rfl)
      have e35 : tm.getD 35 undef = undef := hk 35 (by kernel_rfl)
      have e36 : tm.getD 36 undef = undef := hk 36 (by kernel_rfl)
      have e37 : tm.getD 37 undef = undef := hk 37 (by kernel_rfl)
      have e38 : tm.getD 38 undef = undef := hk 38 (by kernel_rfl)
      have e39 : tm.getD 39 undef = undef := hk 39 (by kernel_rfl)
      have e40 : tm.getD 40 undef = undef := hk 40 (by kernel_rfl)
      have e41 : tm.getD 41 undef = undef := hk 41 (by kernel_rfl)
      have e42 : tm.getD 42 undef = undef := hk 42 (by kernel_rfl)
      have e43 : tm.getD 43 undef = undef := hk 43 (by kernel_rfl)
      have e44 : tm.getD 44 undef = undef := hk 44 (by kernel_rfl)
      have e45 : tm.getD 45 undef = undef := hk 45 (by kernel_rfl)
      have e46 : tm.getD 46 undef = undef := hk 46 (by kernel_rfl)
      have e47 : tm.getD 47 undef = undef := hk 47 (by kernel_rfl)
      have e48 : tm.getD 48 undef = undef := hk 48 (by kernel_rfl)
      have e49 : tm.getD 49 undef = undef := hk 49 (by kernel_rfl)
      have e50 : tm.getD 50 undef = undef := hk 50 (by kernel_rfl)
      have e51 : tm.getD 51 undef = undef := hk 51 (by kernel_rfl)
      have e52 : tm.getD 52 undef = undef := hk 52 (by kernel_rfl)
      have e53 : tm.getD 53 undef = undef := hk 53 (by kernel_rfl)
      have e54 : tm.getD 54 undef = undef := hk 54 (by kernel_rfl)
      have e55 : tm.getD 55 undef = undef := hk 55 (by kernel_rfl)
      have e56 : tm.getD 56 undef = undef := hk 56 (by kernel_rfl)
      have e57 : tm.getD 57 undef = undef := hk 57 (by kernel_rfl)
      have g15 : (tm.getD 15 undef) = .int .i64 root := hG 0 15 (by decide) rfl
      have g16 : (tm.getD 16 undef) = .agg #[.int .i64 d, .slice p xs.length cc] := hG 1 16 (by decide) rfl
      have g17 : HN root d xs w.heap.size ((tm.getD 17 undef)) X := hG 2 17 (by decide) rfl
      have g18 : (tm.getD 18 undef) = .int .i64 root := hG 3 18 (by decide) rfl
      have g19 : (tm.getD 19 undef) = .agg #[.int .i64 d, .slice p xs.length cc] := hG 4 19 (by decide) rfl
      have g20 : RN root d p cc xs w.heap.size ((tm.getD 20 undef)) X := hG 5 20 (by decide) rfl
      have htm := arr_of tm ((.int .i64 root : Value) :: (.agg #[.int .i64 d, .slice p xs.length cc] : Value) :: (.slice sp l.length scap : Value) :: (undef : Value) :: (.pointer (some ⟨w.heap.size, 0, none⟩) : Value) :: (undef : Value) :: (.bool false : Value) :: (undef : Value) :: (undef : Value) :: (undef : Value) :: (undef : Value) :: (undef : Value) :: (undef : Value) :: (.bool true : Value) :: (.bool false : Value) :: (tm.getD 15 undef : Value) :: (tm.getD 16 undef : Value) :: (tm.getD 17 undef : Value) :: (tm.getD 18 undef : Value) :: (tm.getD 19 undef : Value) :: (tm.getD 20 undef : Value) :: (undef : Value) :: (undef : Value) :: (undef : Value) :: (undef : Value) :: (undef : Value) :: (undef : Value) :: (undef : Value) :: (undef : Value) :: (undef : Value) :: (undef : Value) :: (undef : Value) :: (undef : Value) :: (undef : Value) :: (undef : Value) :: (undef : Value) :: (undef : Value) :: (undef : Value) :: (undef : Value) :: (undef : Value) :: (undef : Value) :: (undef : Value) :: (undef : Value) :: (undef : Value) :: (undef : Value) :: (undef : Value) :: (undef : Value) :: (undef : Value) :: (undef : Value) :: (undef : Value) :: (undef : Value) :: (undef : Value) :: (undef : Value) :: (undef : Value) :: (undef : Value) :: (undef : Value) :: (undef : Value) :: (undef : Value) :: []) hs (by show (tm.getD 0 undef :: tm.getD 1 undef :: tm.getD 2 undef :: tm.getD 3 undef :: tm.getD 4 undef :: tm.getD 5 undef :: tm.getD 6 undef :: tm.getD 7 undef :: tm.getD 8 undef :: tm.getD 9 undef :: tm.getD 10 undef :: tm.getD 11 undef :: tm.getD 12 undef :: tm.getD 13 undef :: tm.getD 14 undef :: tm.getD 15 undef :: tm.getD 16 undef :: tm.getD 17 undef :: tm.getD 18 undef :: tm.getD 19 undef :: tm.getD 20 undef :: tm.getD 21 undef :: tm.getD 22 undef :: tm.getD 23 undef :: tm.getD 24 undef :: tm.getD 25 undef :: tm.getD 26 undef :: tm.getD 27 undef :: tm.getD 28 undef :: tm.getD 29 undef :: tm.getD 30 undef :: tm.getD 31 undef :: tm.getD 32 undef :: tm.getD 33 undef :: tm.getD 34 undef :: tm.getD 35 undef :: tm.getD 36 undef :: tm.getD 37 undef :: tm.getD 38 undef :: tm.getD 39 undef :: tm.getD 40 undef :: tm.getD 41 undef :: tm.getD 42 undef :: tm.getD 43 undef :: tm.getD 44 undef :: tm.getD 45 undef :: tm.getD 46 undef :: tm.getD 47 undef :: tm.getD 48 undef :: tm.getD 49 undef :: tm.getD 50 undef :: tm.getD 51 undef :: tm.getD 52 undef :: tm.getD 53 undef :: tm.getD 54 undef :: tm.getD 55 undef :: tm.getD 56 undef :: tm.getD 57 undef :: []) = _; rw [e0, e1, e2, e3, e4, e5, e6, e7, e8, e9, e10, e11, e12, e13, e14, e21, e22, e23, e24, e25, e26, e27, e28, e29, e30, e31, e32, e33, e34, e35, e36, e37, e38, e39, e40, e41, e42, e43, e44, e45, e46, e47, e48, e49, e50, e51, e52, e53, e54, e55, e56, e57]; try rfl)
      clear hs hk hG e0 e1 e2 e3 e4 e5 e6 e7 e8 e9 e10 e11 e12 e13 e14 e21 e22 e23 e24 e25 e26 e27 e28 e29 e30 e31 e32 e33 e34 e35 e36 e37 e38 e39 e40 e41 e42 e43 e44 e45 e46 e47 e48 e49 e50 e51 e52 e53 e54 e55 e56 e57
      generalize tm.getD 15 undef = t15 at htm g15
      generalize tm.getD 16 undef = t16 at htm g16
      generalize tm.getD 17 undef = t17 at htm g17
      generalize tm.getD 18 undef = t18 at htm g18
      generalize tm.getD 19 undef = t19 at htm g19
      generalize tm.getD 20 undef = t20 at htm g20
      subst htm
      subst g15
      subst g16
      subst g18
      subst g19
      simp only [List.drop_succ_cons, List.drop_zero]
      obtain ⟨tb, rb, rfl, rfl, hbo⟩ := both_new g17 g20 hx16 (HC1.out.below hB) (cats_low HC.out) (Nat.le_trans HBW.out.size hB.size)
      have HBX := Lib.hid (HBW.out.trans (hB.mono HBW.out.size))
      have HBo := Lib.hid hbo
      clear g17 g20 hB cW hbo
      go_wp2_with fail
      go_loopw [7, 34] (fun v y wr => ∃ (j tb : Nat), y = .int .i64 j ∧ j ≤ l.length ∧ j ≤ 100 ∧ v = .pointer (some ⟨tb, 0, none⟩) ∧ BoX wr w.heap.size tb rb root ∧ Below w.heap.size w wr) (fun _ y _ => 101 - (intOf y).toNat)
      case atStart => exact ⟨0, tb, rfl, by omega, by omega, rfl, HBo.out, HBX.out⟩
      case round =>
        clear HBo HBX
        obtain ⟨j, tb, rfl, hj, hj100, rfl, hA, hB⟩ := hrel
        by_cases hlt : j < l.length
        · have hji : (j : Int) < (l.length : Int) := by omega
          obtain ⟨b, off, rfl, hbl, hcl, hok⟩ := HL.out j hlt
          obtain ⟨o, ho⟩ : ∃ o, l[j] = o := ⟨_, rfl⟩
          rw [ho] at hcl hok
          have hcl : ∀ f u, (opC o)[f]? = some u → wr.cell? ⟨b, off + j * 7 + f, none⟩ = some u := fun f u hu => (hB.cell (p := ⟨b, off + j * 7 + f, none⟩) hbl).trans (hcl f u hu)
          have c0 : wr.cell? ⟨b, off + j * 7, none⟩ = some (.int .i64 o.k) := hcl 0 _ rfl
          have c1 : wr.cell? ⟨b, off + j * 7 + 1, none⟩ = some (.int .i64 o.i) := hcl 1 _ rfl
          have c2 : wr.cell? ⟨b, off + j * 7 + 2, none⟩ = some (.int .i64 o.id) := hcl 2 _ rfl
          have c3 : wr.cell? ⟨b, off + j * 7 + 3, none⟩ = some (.int .i64 o.wh) := hcl 3 _ rfl
          have c4 : wr.cell? ⟨b, off + j * 7 + 4, none⟩ = some (.int .i64 o.n) := hcl 4 _ rfl
          have c5 : wr.cell? ⟨b, off + j * 7 + 5, none⟩ = some (.int .i64 o.d) := hcl 5 _ rfl
          have c6 : wr.cell? ⟨b, off + j * 7 + 6, none⟩ = some (.slice o.p o.xs.length o.cap) := hcl 6 _ rfl
          have hlow := cats_low hok.ca
          have hok' : OpOk wr o := ⟨hok.ci, hok.cid, hok.ca.below hB, hok.cm⟩
          have hW : Below wr.heap.size wr (wr.alloc (.cells #[.int .i64 o.k, .int .i64 o.i, .int .i64 o.id, .int .i64 o.wh, .int .i64 o.n, .int .i64 o.d, .slice o.p o.xs.length o.cap] 32)) := (Below.refl _ _).alloc (Nat.le_refl _) _
          have HD := step_any (hA.below hW) o ⟨hok'.ci, hok'.cid, hok'.ca.below hW, hok'.cm⟩ hlow
          unfold opC at HD
          have HD1 := Lib.hid HD
          have HB := Lib.hid (hB.trans (hW.mono hB.size))
          have HBj := Lib.hid hB
          clear hA hB HD hcl hok hok' hlow hW ho
          by_cases hj9 : j < 100
          · have hji9 : ¬ (100 : Int) ≤ (j : Int) := by omega
            go_wp2_with (first
              | (go_at_call 7; with_reducible refine Calls.mono HD1.out ?_; rintro e w4 ⟨tb4, rfl, hA4, hB4⟩; have HA4 := Lib.hid hA4; have HB4 := Lib.hid hB4; clear hA4 hB4)
              | (go_at_call 8; with_reducible refine Calls.mono (told_x HA4.out) ?_; rintro e w5 ⟨rfl, hb5⟩; have HB5 := Lib.hid hb5; clear hb5))
            go_roundw
            case rel => exact ⟨j + 1, tb4, by go_num, by omega, by omega, rfl, HA4.out.below HB5.out, (HB.out.trans HB4.out).trans (HB5.out.mono HA4.out.bw)⟩
            case measure => simp [intOf]; omega
          · obtain rfl : j = 100 := by omega
            go_wp2_with fail
            go_ret
            exact ⟨rfl, HB.out⟩
        · obtain rfl : j = l.length := by omega
          go_wp2_with fail
          go_ret
          exact ⟨rfl, hB⟩
  · have hf0 : (isCt root && fitsS d 1 xs) = false := by simpa using hf
    clear hf
    refine wp_region_monoT 6 6 (fun kq uq Xq => match kq with | 15 => uq = .int .i64 root | 16 => uq = .agg #[.int .i64 d, .slice p xs.length cc] | 17 => uq = .pointer none | 18 => uq = .int .i64 root | 19 => uq = .agg #[.int .i64 d, .slice p xs.length cc] | 20 => uq = .pointer none | _ => True) (by kernel_rfl) (by kernel_rfl) (by kernel_rfl) (by kernel_rfl) (by simp) (by kernel_rfl) ?_ ?_ ?_
    · intro kq v W W' h hb
      revert h
      try dsimp only
      split
      · intro h; exact h
      · intro h; exact h
      · intro h; exact h
      · intro h; exact h
      · intro h; exact h
      · intro h; exact h
      · intro h; trivial
    · intro a' X hB hs hk i o d ho hd hG
      match i, ho with
      | 0, ho =>
        obtain rfl : _ = o := Option.some.inj ho
        obtain rfl : 15 = d := Option.some.inj hd
        have g0 : a'.eval (.tmp 0) = .int .i64 root := hk 0 (by kernel_rfl)
        obtain ⟨ev, hev⟩ : ∃ ev, a'.eval = ev := ⟨_, rfl⟩
        rw [hev] at g0 ⊢
        clear hev hG hk
        obtain ⟨c0, c1⟩ := cW X hB
        exact .inr ⟨rfl, .inl ⟨.int .i64 root, X, by clear hs; go_simp, Below.refl _ _, rfl⟩⟩
      | 1, ho =>
        obtain rfl : _ = o := Option.some.inj ho
        obtain rfl : 16 = d := Option.some.inj hd
        have g4 : a'.eval (.tmp 4) = .pointer (some ⟨w.heap.size, 0, none⟩) := hk 4 (by kernel_rfl)
        obtain ⟨ev, hev⟩ : ∃ ev, a'.eval = ev := ⟨_, rfl⟩
        rw [hev] at g4 ⊢
        clear hev hG hk
        obtain ⟨c0, c1⟩ := cW X hB
        exact .inr ⟨rfl, .inl ⟨.agg #[.int .i64 d, .slice p xs.length cc], X, by clear hs; go_simp, Below.refl _ _, rfl⟩⟩
      | 2, ho =>
        obtain rfl : _ = o := Option.some.inj ho
        obtain rfl : 17 = d := Option.some.inj hd
        have g15 : a'.eval (.tmp 15) = .int .i64 root := hG ⟨0, .data⟩ (by simp) rfl 15 rfl
        have g16 : a'.eval (.tmp 16) = .agg #[.int .i64 d, .slice p xs.length cc] := hG ⟨1, .data⟩ (by simp) rfl 16 rfl
        refine .inr ⟨rfl, .inr ⟨5, #[.int .i64 root, .agg #[.int .i64 d, .slice p xs.length cc]], ?_, ?_⟩⟩
        · have gF : a'.eval (.func 5) = .func (.func 5) #[] #[] := rfl
          obtain ⟨ev, hev⟩ : ∃ ev, a'.eval = ev := ⟨_, rfl⟩
          rw [hev] at gF g15 g16 ⊢
          exact exec_call2 rfl gF g15 g16 (enters_of Try.func5 (by kernel_rfl) rfl)
        · exact (New_no root d p cc xs X hm (HC1.out.below hB) hf0).mono fun e W' ⟨he, hb⟩ => ⟨_, he, hb, rfl⟩
      | 3, ho =>
        obtain rfl : _ = o := Option.some.inj ho
        obtain rfl : 18 = d := Option.some.inj hd
        have g0 : a'.eval (.tmp 0) = .int .i64 root := hk 0 (by kernel_rfl)
        obtain ⟨ev, hev⟩ : ∃ ev, a'.eval = ev := ⟨_, rfl⟩
        rw [hev] at g0 ⊢
        clear hev hG hk
        obtain ⟨c0, c1⟩ := cW X hB
        exact .inr ⟨rfl, .inl ⟨.int .i64 root, X, by clear hs; go_simp, Below.refl _ _, rfl⟩⟩
      | 4, ho =>
        obtain rfl : _ = o := Option.some.inj ho
        obtain rfl : 19 = d := Option.some.inj hd
        have g4 : a'.eval (.tmp 4) = .pointer (some ⟨w.heap.size, 0, none⟩) := hk 4 (by kernel_rfl)
        obtain ⟨ev, hev⟩ : ∃ ev, a'.eval = ev := ⟨_, rfl⟩
        rw [hev] at g4 ⊢
        clear hev hG hk
        obtain ⟨c0, c1⟩ := cW X hB
        exact .inr ⟨rfl, .inl ⟨.agg #[.int .i64 d, .slice p xs.length cc], X, by clear hs; go_simp, Below.refl _ _, rfl⟩⟩
      | 5, ho =>
        obtain rfl : _ = o := Option.some.inj ho
        obtain rfl : 20 = d := Option.some.inj hd
        have g18 : a'.eval (.tmp 18) = .int .i64 root := hG ⟨3, .data⟩ (by simp) rfl 18 rfl
        have g19 : a'.eval (.tmp 19) = .agg #[.int .i64 d, .slice p xs.length cc] := hG ⟨4, .data⟩ (by simp) rfl 19 rfl
        refine .inr ⟨rfl, .inr ⟨6, #[.int .i64 root, .agg #[.int .i64 d, .slice p xs.length cc]], ?_, ?_⟩⟩
        · have gF : a'.eval (.func 6) = .func (.func 6) #[] #[] := rfl
          obtain ⟨ev, hev⟩ : ∃ ev, a'.eval = ev := ⟨_, rfl⟩
          rw [hev] at gF g18 g19 ⊢
          exact exec_call2 rfl gF g18 g19 (enters_of Try.func6 (by kernel_rfl) rfl)
        · exact (rNew_no root d p cc xs X hm (HC1.out.below hB) hf0).mono fun e W' ⟨he, hb⟩ => ⟨_, he, hb, rfl⟩
      | j + 6, ho => simp at ho
    · intro a' X hB hs hdf hk hG
      obtain ⟨tm, df⟩ := a'
      obtain rfl : df = [] := hdf
      have e0 : tm.getD 0 undef = .int .i64 root := hk 0 (by kernel_rfl)
      have e1 : tm.getD 1 undef = .agg #[.int .i64 d, .slice p xs.length cc] := hk 1 (by kernel_rfl)
      have e2 : tm.getD 2 undef = .slice sp l.length scap := hk 2 (by kernel_rfl)
      have e3 : tm.getD 3 undef = undef := hk 3 (by kernel_rfl)
      have e4 : tm.getD 4 undef = .pointer (some ⟨w.heap.size, 0, none⟩) := hk 4 (by kernel_rfl)
      have e5 : tm.getD 5 undef = undef := hk 5 (by kernel_rfl)
      have e6 : tm.getD 6 undef = .bool false := hk 6 (by kernel_rfl)
      have e7 : tm.getD 7 undef = undef := hk 7 (by kernel_rfl)
      have e8 : tm.getD 8 undef = undef := hk 8 (by kernel_rfl)
      have e9 : tm.getD 9 undef = undef := hk 9 (by kernel_rfl)
      have e10 : tm.getD 10 undef = undef := hk 10 (by kernel_rfl)
      have e11 : tm.getD 11 undef = undef := hk 11 (by kernel_rfl)
      have e12 : tm.getD 12 undef = undef := hk 12 (by kernel_rfl)
      have e13 : tm.getD 13 undef = .bool true := hk 13 (by kernel_rfl)
      have e14 : tm.getD 14 undef = .bool false := hk 14 (by kernel_rfl)
      have e21 : tm.getD 21 undef = undef := hk 21 (by kernel_rfl)
      have e22 : tm.getD 22 undef = undef := hk 22 (by kernel_rfl)
      have e23 : tm.getD 23 undef = undef := hk 23 (by kernel_rfl)
      have e24 : tm.getD 24 undef = undef := hk 24 (by kernel_rfl)
      have e25 : tm.getD 25 undef = undef := hk 25 (by kernel_rfl)
      have e26 : tm.getD 26 undef = undef := hk 26 (by kernel_rfl)
      have e27 : tm.getD 27 undef = undef := hk 27 (by kernel_rfl)
      have e28 : tm.getD 28 undef = undef := hk 28 (by kernel_rfl)
      have e29 : tm.getD 29 undef = undef := hk 29 (by kernel_rfl)
      have e30 : tm.getD 30 undef = undef := hk 30 (by kernel_rfl)
      have e31 : tm.getD 31 undef = undef := hk 31 (by kernel_rfl)
      have e32 : tm.getD 32 undef = undef := hk 32 (by kernel_rfl)
      have e33 : tm.getD 33 undef = undef := hk 33 (by kernel_rfl)
      have e34 : tm.getD 34 undef = undef := hk 34 (by kernel_rfl)
      have e35 : tm.getD 35 undef = undef := hk 35 (by kernel_rfl)
      have e36 : tm.getD 36 undef = undef := hk 36 (by kernel_rfl)
      have e37 : tm.getD 37 undef = undef := hk 37 (by kernel_rfl)
      have e38 : tm.getD 38 undef = undef := hk 38 (by kernel_rfl)
      have e39 : tm.getD 39 undef = undef := hk 39 (by kernel_rfl)
      have e40 : tm.getD 40 undef = undef := hk 40 (by kernel_rfl)
      have e41 : tm.getD 41 undef = undef := hk 41 (by kernel_rfl)
      have e42 : tm.getD 42 undef = undef := hk 42 (by kernel_rfl)
      have e43 : tm.getD 43 undef = undef := hk 43 (by kernel_rfl)
      have e44 : tm.getD 44 undef = undef := hk 44 (by kernel_rfl)
      have e45 : tm.getD 45 undef = undef := hk 45 (by kernel_rfl)
      have e46 : tm.getD 46 undef = undef := hk 46 (by kernel_rfl)
      have e47 : tm.getD 47 undef = undef := hk 47 (by kernel_rfl)
      have e48 : tm.getD 48 undef = undef := hk 48 (by kernel_rfl)
      have e49 : tm.getD 49 undef = undef := hk 49 (by kernel_rfl)
      have e50 : tm.getD 50 undef = undef := hk 50 (by kernel_rfl)
      have e51 : tm.getD 51 undef = undef := hk 51 (by kernel_rfl)
      have e52 : tm.getD 52 undef = undef := hk 52 (by kernel_rfl)
      have e53 : tm.getD 53 undef = undef := hk 53 (by kernel_rfl)
      have e54 : tm.getD 54 undef = undef := hk 54 (by kernel_rfl)
      have e55 : tm.getD 55 undef = undef := hk 55 (by kernel_rfl)
      have e56 : tm.getD 56 undef = undef := hk 56 (by kernel_rfl)
      have e57 : tm.getD 57 undef = undef := hk 57 (by kernel_rfl)
      have g15 : (tm.getD 15 undef) = .int .i64 root := hG 0 15 (by decide) rfl
      have g16 : (tm.getD 16 undef) = .agg #[.int .i64 d, .slice p xs.length cc] := hG 1 16 (by decide) rfl
      have g17 : (tm.getD 17 undef) = .pointer none := hG 2 17 (by decide) rfl
      have g18 : (tm.getD 18 undef) = .int .i64 root := hG 3 18 (by decide) rfl
      have g19 : (tm.getD 19 undef) = .agg #[.int .i64 d, .slice p xs.length cc] := hG 4 19 (by decide) rfl
      have g20 : (tm.getD 20 undef) = .pointer none := hG 5 20 (by decide) rfl
      have htm := arr_of tm ((.int .i64 root : Value) :: (.agg #[.int .i64 d, .slice p xs.length cc] : Value) :: (.slice sp l.length scap : Value) :: (undef : Value) :: (.pointer (some ⟨w.heap.size, 0, none⟩) : Value) :: (undef : Value) :: (.bool false : Value) :: (undef : Value) :: (undef : Value) :: (undef : Value) :: (undef : Value) :: (undef : Value) :: (undef : Value) :: (.bool true : Value) :: (.bool false : Value) :: (tm.getD 15 undef : Value) :: (tm.getD 16 undef : Value) :: (tm.getD 17 undef : Value) :: (tm.getD 18 undef : Value) :: (tm.getD 19 undef : Value) :: (tm.getD 20 undef : Value) :: (undef : Value) :: (undef : Value) :: (undef : Value) :: (undef : Value) :: (undef : Value) :: (undef : Value) :: (undef : Value) :: (undef : Value) :: (undef : Value) :: (undef : Value) :: (undef : Value) :: (undef : Value) :: (undef : Value) :: (undef : Value) :: (undef : Value) :: (undef : Value) :: (undef : Value) :: (undef : Value) :: (undef : Value) :: (undef : Value) :: (undef : Value) :: (undef : Value) :: (undef : Value) :: (undef : Value) :: (undef : Value) :: (undef : Value) :: (undef : Value) :: (undef : Value) :: (undef : Value) :: (undef : Value) :: (undef : Value) :: (undef : Value) :: (undef : Value) :: (undef : Value) :: (undef : Value) :: (undef : Value) :: (undef : Value) :: []) hs (by show (tm.getD 0 undef :: tm.getD 1 undef :: tm.getD 2 undef :: tm.getD 3 undef :: tm.getD 4 undef :: tm.getD 5 undef :: tm.getD 6 undef :: tm.getD 7 undef :: tm.getD 8 undef :: tm.getD 9 undef :: tm.getD 10 undef :: tm.getD 11 undef :: tm.getD 12 undef :: tm.getD 13 undef :: tm.getD 14 undef :: tm.getD 15 undef :: tm.getD 16 undef :: tm.getD 17 undef :: tm.getD 18 undef :: tm.getD 19 undef :: tm.getD 20 undef :: tm.getD 21 undef :: tm.getD 22 undef :: tm.getD 23 undef :: tm.getD 24 undef :: tm.getD 25 undef :: tm.getD 26 undef :: tm.getD 27 undef :: tm.getD 28 undef :: tm.getD 29 undef :: tm.getD 30 undef :: tm.getD 31 undef :: tm.getD 32 undef :: tm.getD 33 undef :: tm.getD 34 undef :: tm.getD 35 undef :: tm.getD 36 undef :: tm.getD 37 undef :: tm.getD 38 undef :: tm.getD 39 undef :: tm.getD 40 undef :: tm.getD 41 undef :: tm.getD 42 undef :: tm.getD 43 undef :: tm.getD 44 undef :: tm.getD 45 undef :: tm.getD 46 undef :: tm.getD 47 undef :: tm.getD 48 undef :: tm.getD 49 undef :: tm.getD 50 undef :: tm.getD 51 undef :: tm.getD 52 undef :: tm.getD 53 undef :: tm.getD 54 undef :: tm.getD 55 undef :: tm.getD 56 undef :: tm.getD 57 undef :: []) = _; rw [e0, e1, e2, e3, e4, e5, e6, e7, e8, e9, e10, e11, e12, e13, e14, e21, e22, e23, e24, e25, e26, e27, e28, e29, e30, e31, e32, e33, e34, e35, e36, e37, e38, e39, e40, e41, e42, e43, e44, e45, e46, e47, e48, e49, e50, e51, e52, e53, e54, e55, e56, e57]; try rfl)
      clear hs hk hG e0 e1 e2 e3 e4 e5 e6 e7 e8 e9 e10 e11 e12 e13 e14 e21 e22 e23 e24 e25 e26 e27 e28 e29 e30 e31 e32 e33 e34 e35 e36 e37 e38 e39 e40 e41 e42 e43 e44 e45 e46 e47 e48 e49 e50 e51 e52 e53 e54 e55 e56 e57
      generalize tm.getD 15 undef = t15 at htm g15
      generalize tm.getD 16 undef = t16 at htm g16
      generalize tm.getD 17 undef = t17 at htm g17
      generalize tm.getD 18 undef = t18 at htm g18
      generalize tm.getD 19 undef = t19 at htm g19
      generalize tm.getD 20 undef = t20 at htm g20
      subst htm
      subst g15
      subst g16
      subst g17
      subst g18
      subst g19
      subst g20
      simp only [List.drop_succ_cons, List.drop_zero]
      go_wp2_with fail
      go_ret
      exact ⟨rfl, HBW.out.trans (hB.mono HBW.out.size)⟩
end Go.Proofs.Ytebcnlhgkpaghaa
namespace Go.Proofs.Ytebcnlhgkpaghaa.holdPlay
open Go.ChangeShapes Go.WideShapes Go.ChangeAt Go.RowKit

set_option maxRecDepth 100000 in
theorem contract (H : Type) (enc : TypeId × Value → H) (W : World) (base : Nat) (args : Array Value) (ds gs : List (DataW H)) (before : List MemPlace)
    (hval : ∀ (j : Nat) t v, Try.f3.params[j]? = some t → args[j]? = some v → Value.okWide Try.prog W .any base t v)
    (hW : DataW.Whole enc Try.prog Try.f3.params.toList Rows.holdPlaySpec.vars false W args.toList ds gs before) (vt : List TypeId) (_hwt : (DataW.weightsEach Try.prog (Try.f3.params.toList ++ vt) (ds ++ gs)).all (· ≤ reachBytes) = true) :
    Calls Try.prog 3 args W fun e W' => ∃ v, e = .returned v ∧ Rows.holdPlaySpec.post enc Try.prog Try.f3 false true false false W args v W' := by
  have hW' := hW
  obtain ⟨p, q, hA0, hV, rfl, hfz, hnd⟩ := hW
  have hA : DataW.TrodAll enc Try.prog W 0 (fun _ => true) true Try.f3.params.toList args.toList ds p := hA0
  obtain ⟨rfl, rfl⟩ := trodVars_none hV
  rw [Try.params3] at hA hval
  obtain ⟨v0, vs0, d0, ds0, p0, q0, hargs, rfl, rfl, h0, r0⟩ := trodAll_cons hA
  obtain ⟨v1, vs1, d1, ds1, p1, q1, rfl, rfl, rfl, h1, r1⟩ := trodAll_cons r0
  obtain ⟨v2, vs2, d2, ds2, p2, q2, rfl, rfl, rfl, h2, r2⟩ := trodAll_cons r1
  obtain ⟨rfl, rfl, rfl⟩ := trodAll_nil r2
  obtain rfl : args = #[v0, v1, v2] := by cases args; simp_all
  obtain ⟨x0, rfl, rfl, rfl, wc0⟩ := open_int Try.underlying3 (hval 0 3 v0 rfl rfl) h0
  obtain ⟨x1, pp1, cap1, ys1, rfl, hc1, hl1, hm1⟩ := label_open (hval 1 24 v1 rfl rfl) h1
  obtain ⟨pp2, cap2, x2, rfl, hx2⟩ := opsL_open (hval 2 25 v2 rfl rfl) h2
  refine (HoldPlay_any x0 x1 pp1 cap1 ys1 pp2 cap2 x2 W (Nat.le_trans hl1 hm1) hc1 hx2).mono fun e W' ⟨he, hb⟩ => ?_
  subst he
  exact ⟨_, rfl, law_post (by kernel_rfl) (by rw [Try.params3]; intro t ht; simp at ht; rcases ht with rfl | rfl | rfl <;> exact ⟨by kernel_rfl, of_decide_eq_true (by kernel_rfl)⟩) rfl hW' rfl rfl rfl hb⟩

theorem laid_met (os : Os) : laidMet Try.prog Rows.holdPlayRow.laid ((World.holding Try.prog os ⟨#[], #[], []⟩).forCall (fun _ _ => 0) ⟨#[], #[.int .i64 0, .agg #[.int .i64 0, .slice none 0 0], .slice none 0 0], []⟩).memory :=
  laidMet_of_run' 8 (by kernel_rfl) (by kernel_rfl)
theorem reads (os : Os) {H : Type} (enc : TypeId × Value → H) : ∃ places, DataW.whole enc Try.prog ((World.holding Try.prog os ⟨#[], #[], []⟩).forCall (fun _ _ => 0) ⟨#[], #[.int .i64 0, .agg #[.int .i64 0, .slice none 0 0], .slice none 0 0], []⟩).memory Try.f3.params.toList Rows.holdPlaySpec.vars false #[Value.int .i64 0, Value.agg #[.int .i64 0, .slice none 0 0], Value.slice none 0 0].toList 8 = some ([.lit (.int .i64 0), .agg [.lit (.int .i64 0), .nil], .nil], [], places) :=
  ⟨[], by kernel_rfl⟩

set_option maxRecDepth 100000 in
theorem lifted (os : Os) (started : os.Started) (H : Type) (enc : TypeId × Value → H) (F : Stop.Interp) :
    ReturnsInHanded {} Try.checked os 3 .any ((OpenSpec.ofChange Rows.holdPlaySpec).preRow enc Try.prog Try.f3 Rows.holdPlayRow.domain false Rows.holdPlayRow.laid) (((OpenSpec.ofChange Rows.holdPlaySpec).at F).post enc Try.prog Try.f3 false true false false) := by
  obtain ⟨places, hx⟩ := reads os enc
  refine returnsInHanded_of_row (C := Try.checked) (s := OpenSpec.ofChange Rows.holdPlaySpec) own started (by kernel_rfl) Try.func3
    (witness_row_at (enc := enc) (C := Try.checked) false (World.holding Try.prog os ⟨#[], #[], []⟩) #[.int .i64 0, .agg #[.int .i64 0, .slice none 0 0], .slice none 0 0] rfl (by kernel_rfl) (by kernel_rfl) (by kernel_rfl)
      (OpenSpec.preRow_of_cond 8 hx (by kernel_rfl) (fun k hk => by cases hk) (by kernel_rfl) (laid_met os))) ?_
  intro W base args ds gs before hval hW _ _ hwt _ _ _
  exact contract H enc W base args ds gs before hval hW _ hwt

theorem said : Rows.HoldPlaySaid :=
  OpenClaim.holds_of_cond 3 Try.f3 rfl rfl rfl rfl rfl rfl rfl ⟨rfl, rfl, rfl, rfl, rfl⟩ rfl rfl rfl rfl rfl (by kernel_rfl) Try.func3 (by kernel_rfl)
    (of_decide_eq_true (by kernel_rfl)) (by unfold Func.isWrapper; first | (rw [if_pos (by decide +kernel)]; kernel_rfl) | (rw [if_neg (by decide +kernel)]; exact ⟨rfl, rfl⟩))
    (fun os started H enc _ F => by rw [OpenClaim.pre_eq_preRow]; exact lifted os started H enc F)
end Go.Proofs.Ytebcnlhgkpaghaa.holdPlay

namespace Go.Proofs.Ytebcnlhgkpaghaa
theorem holdPlay_holds : Rows.HoldPlaySaid := holdPlay.said
end Go.Proofs.Ytebcnlhgkpaghaa
