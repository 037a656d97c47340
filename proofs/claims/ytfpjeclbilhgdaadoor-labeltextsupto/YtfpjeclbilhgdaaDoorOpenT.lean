/- How what is handed in is read in memory, what the listed package variables hold, and a world in which they lie as the text lays them. -/
import Derived.Test.YtfpjeclbilhgdaaDoorCards
import Derived.Test.YtfpjeclbilhgdaaDoorTie
import Derived.Test.YtfpjeclbilhgdaaDoorShort
import Derived.WalkKit
import Derived.ProofKit
import Derived.OpenShut
import Derived.Deep.DeepHandedRow
import Derived.Lib.LaidTab
import Derived.Lib.SmallJoins
import Derived.Test.YtfpjeclbilhgdaaDoorParseE
import Derived.Deep.DeepWitnessRowRef
import Derived.Lib.LaidU8
import Derived.LaidMore
namespace Go.Proofs.YtfpjeclbilhgdaaDoor
open Go.ChangeShapes Go.WideShapes Go.ChangeAt Go.RowKit

theorem own : ownKnob Tryd.prog.godebug = none := by kernel_rfl
theorem laidOut : laidOutB Tryd.prog = true := by kernel_rfl
theorem cells24 : Tryd.prog.cellsOf 24 = 2 := by kernel_rfl
theorem cells30 : Tryd.prog.cellsOf 35 = 2 := by kernel_rfl
theorem cells22 : Tryd.prog.cellsOf 22 = 1 := by kernel_rfl
theorem cells3 : Tryd.prog.cellsOf 3 = 1 := by kernel_rfl

section
variable {H : Type} {enc : TypeId × Value → H}

/-- What is handed in reads as it did, wherever nothing old has turned. -/
theorem all_stay {W W' : World} (hb : Below W.heap.size W W') : ∀ {ts : List TypeId} {vs : List Value} {ds : List (DataW H)} {ps : List MemPlace} {sp : Nat → Bool}, (∀ t ∈ ts, Tryd.prog.readableRec t = true ∧ t < Tryd.prog.types.size) →
    DataW.TrodAll enc Tryd.prog W 0 (fun _ => true) true ts vs ds ps → (∀ x ∈ ps, x.block < W.heap.size) → (∀ x ∈ ps, sp x.block = true) → DataW.TrodAll enc Tryd.prog W' 0 sp true ts vs ds ps
  | [], _, _, _, _, _, h, _, _ => by
    obtain ⟨rfl, rfl, rfl⟩ := trodAll_nil h
    exact trodAll_mk0
  | t :: ts, _, _, _, _, hr, h, hlt, hsp => by
    obtain ⟨v, vs', d, ds', p, q, rfl, rfl, rfl, h0, h1⟩ := trodAll_cons h
    exact trodAll_cons_mk (WideElems.Trod_stays laidOut (hr t (List.mem_cons_self ..)).1 (hr t (List.mem_cons_self ..)).2 h0 (fun x hx => hb.same (hlt x (List.mem_append.2 (.inl hx)))) (fun x hx => hsp x (List.mem_append.2 (.inl hx))))
      (all_stay hb (fun u hu => hr u (List.mem_cons_of_mem _ hu)) h1 (fun x hx => hlt x (List.mem_append.2 (.inr hx))) (fun x hx => hsp x (List.mem_append.2 (.inr hx))))

theorem entry_open {W : World} {a : Addr} {n : Nat} {x : DataW H × List MemPlace} {cs : List Value} (hc : W.cells? 0 a 2 = some cs) (h : DataW.trod enc Tryd.prog W 0 (fun _ => true) true n 35 cs = some x) :
    ∃ c l : Int, W.cell? a = some (.int .i64 c) ∧ W.cell? (a.add 1) = some (.int .i64 l) := by
  obtain ⟨y0, y1, m, _, _, h0, h1⟩ := trod_struct2 Tryd.underlying35 h
  rw [cells3] at h0 h1
  obtain ⟨c, e0, _, _⟩ := DataW.trod_int Tryd.underlying3 h0
  obtain ⟨l, e1, _, _⟩ := DataW.trod_int Tryd.underlying3 h1
  obtain ⟨_, hlen, hcell⟩ := World.cells?_some hc
  match cs, hlen with
  | [c0, c1], _ =>
    simp at e0 e1
    subst e0 e1
    have k0 := hcell 0 (by decide)
    have k1 := hcell 1 (by decide)
    refine ⟨c, l, ?_, k1⟩
    simpa [Addr.add] using k0

theorem addr_at (b o j : Nat) : (⟨b, o, none⟩ : Addr).add j = ⟨b, o + j, none⟩ := by
  by_cases h : j = 0 <;> simp [Addr.add, h]
theorem spot_none {W : World} {a : Addr} {v : Value} (h : W.cell? a = some v) : a = ⟨a.block, a.off, none⟩ := by
  obtain ⟨b, o, s⟩ := a
  cases s with
  | none => rfl
  | some s => simp only [World.cell?] at h; split at h <;> simp at h

theorem slice_open {W : World} {n : Nat} {v : Value} {x : DataW H × List MemPlace} (h : DataW.trod enc Tryd.prog W 0 (fun _ => true) true n 22 [v] = some x) :
    ∃ (p : Option Addr) (cap : Nat) (xs : List (Int × Int)), v = .slice p xs.length cap ∧ CatsAt W p xs ∧ xs.length ≤ cap ∧ cap ≤ maxLen := by
  rcases Deep.open_slice Tryd.underlying22 h with ⟨hcs, _⟩ | ⟨a, len, cap, m, k, D, Pl, hcs, hb, hl, hm, hmm, _, hx⟩
  · simp only [List.cons.injEq, and_true] at hcs
    exact ⟨none, 0, [], hcs, fun j hj => by simp at hj, by simp, by unfold maxLen; omega⟩
  · simp only [List.cons.injEq, and_true] at hcs
    rw [if_pos rfl] at hmm
    subst hmm
    rw [cells30] at hx
    have hcell : ∀ i, i < len → ∃ y : Int × Int, W.cell? (a.add (i * 2)) = some (.int .i64 y.1) ∧ W.cell? ((a.add (i * 2)).add 1) = some (.int .i64 y.2) := fun i hi => by
      obtain ⟨cs', h1, h2⟩ := hx i (by omega)
      obtain ⟨c, l, e0, e1⟩ := entry_open h1 h2
      exact ⟨(c, l), e0, e1⟩
    obtain ⟨f, hf⟩ := Deep.choose_lt hcell
    refine ⟨some a, m, (List.range len).map f, by simpa using hcs, ?_, by simpa using hl, hm⟩
    intro j hj
    have hj' : j < len := by simpa using hj
    obtain ⟨e0, e1⟩ := hf j hj'
    have ha : a = ⟨a.block, a.off, none⟩ := by
      have hs := spot_none (hf 0 (by omega)).1
      simpa [Addr.add] using hs
    have hblk : a.block < W.heap.size := by
      obtain ⟨cs', h1, _⟩ := hx j (by omega)
      have := World.cells?_block h1 (by decide)
      obtain ⟨b, o, s⟩ := a
      simp only [Addr.add] at this
      split at this <;> simpa using this
    rw [ha] at e0 e1
    rw [addr_at, addr_at] at e1
    rw [addr_at] at e0
    refine ⟨a.block, a.off, by rw [← ha], hblk, ?_, ?_⟩
    · simpa using e0
    · simpa using e1

set_option maxRecDepth 100000 in
/-- A label that is handed in. -/
theorem label_open {W : World} {r : Reach} {b0 : Nat} {v : Value} {d : DataW H} {ps : List MemPlace} (hv : Value.okWide Tryd.prog W r b0 24 v) (h : DataW.Trod enc Tryd.prog W 0 (fun _ => true) true 24 v d ps) :
    ∃ (e : Int) (p : Option Addr) (cap : Nat) (xs : List (Int × Int)), v = .agg #[.int .i64 e, .slice p xs.length cap] ∧ CatsAt W p xs ∧ xs.length ≤ cap ∧ cap ≤ maxLen := by
  obtain ⟨c0, c1, y0, y1, n, rfl, _, _, h0, h1⟩ := Joins.open_agg2 Tryd.underlying24 (by kernel_rfl) cells24 hv h
  obtain ⟨e, he, _, _⟩ := DataW.trod_int Tryd.underlying3 h0
  simp only [List.cons.injEq, and_true] at he
  obtain ⟨p, cap, xs, rfl, hc, hl, hm⟩ := slice_open h1
  exact ⟨e, p, cap, xs, by rw [he], hc, hl, hm⟩
end

/-- What a law owes: it answered true, and nothing old has turned. -/
theorem law_post {H : Type} {enc : TypeId × Value → H} {f : Func} {s : ChangeSpec} {W W' : World} {args : Array Value} {ds : List (DataW H)} {before : List MemPlace} (hres : f.resultTypes = #[4]) (hr : ∀ t ∈ f.params.toList, Tryd.prog.readableRec t = true ∧ t < Tryd.prog.types.size)
    (hv : s.vars = []) (hW : DataW.Whole enc Tryd.prog f.params.toList s.vars false W args.toList ds [] before) (hfr : (s.fn H (ds ++ [])).results = [.lit (.bool true)]) (hfa : (s.fn H (ds ++ [])).args = ds) (hfv : (s.fn H (ds ++ [])).vars = []) (hb : Below W.heap.size W W') :
    s.post enc Tryd.prog f false true false false W args (.bool true) W' := by
  have hlt := hW.lt
  have hW' := hW
  obtain ⟨p, q, hA, hV, rfl, _, _⟩ := hW
  have hq : q = [] := by rw [hv] at hV; exact (trodVars_none hV).2
  subst hq
  rw [List.append_nil] at hW' hlt
  have hold : ∀ x ∈ p, (fun b => decide (b < W.heap.size)) x.block = true := fun x hx => by simpa using hlt x hx
  refine ⟨ds, [], p, [], p, [], hW', ?_, ?_, ?_, hb.frame _, fun h => by cases h⟩
  · rw [hres, hfr]; exact trodAll_mk1 (shut_bool Tryd.underlying4 _)
  · rw [hfa]; exact all_stay hb hr hA hlt hold
  · rw [hfv, hv]; exact rfl

/-- The list of the rows. -/
def laidI : List (String × DataW Unit) := Rows.labelTextsRow.laid
theorem laid_none : (laidI.filter fun x => x.2.handleName?.isSome) = [] := by kernel_rfl
set_option maxRecDepth 100000 in
/-- The package variables hold what the walks ask for. -/
theorem env_of {W : World} (hL : laidMetH Tryd.prog laidI W) (hS : W.ShapedOpen Tryd.prog) : Env W := by
  have h : laidMet Tryd.prog laidI W := by unfold laidMetH at hL; rw [laid_none] at hL; exact hL
  refine ⟨?_, ?_, ?_⟩
  · obtain ⟨⟨z, t⟩, hz⟩ := Option.isSome_iff_exists.1 (show (((begin Tryd.prog (fun _ _ => 0) default).world.heap[6 - 1]?).bind Obj.row?).isSome = true by kernel_rfl)
    obtain ⟨cs, hh, _⟩ := hS.1 (6 - 1) z t (show 6 - 1 < Tryd.prog.globals.size from of_decide_eq_true (by kernel_rfl)) hz
    have := (Array.getElem?_eq_some_iff.1 hh).1
    omega
  · obtain ⟨g, t, cs, fuel, p, hg, ht, hv, hd⟩ := Lib.laidMet.reads h (n := "internal/strconv.uint64pow10") (d := Rows.laid_internal_strconv_uint64pow10) (by unfold laidI Rows.labelTextsRow; simp)
    obtain rfl := Option.some.inj (powNamed.symm.trans hg)
    obtain rfl := Option.some.inj ((show (Tryd.prog.globals[0]?).map (·.type) = some 108 by kernel_rfl).symm.trans ht)
    unfold Pow Lib.TabIs
    rw [hv, ← Lib.cells_of_tab (zs := Lib.pow10Tab) Tryd.underlying108 Tryd.underlying72 (by kernel_rfl) (by kernel_rfl) hd]
  · obtain ⟨cs, hh, hz, hok⟩ := hS.1 1 #[.int .i64 0] 3 (show 1 < Tryd.prog.globals.size from of_decide_eq_true (by kernel_rfl)) (by kernel_rfl)
    obtain ⟨ts, hts, _, hall⟩ := hok (by kernel_rfl)
    obtain rfl := Option.some.inj ((show Tryd.prog.cellTypes Tryd.prog.depth 3 = some [3] by kernel_rfl).symm.trans hts)
    have hz1 : cs.size = 1 := hz
    obtain ⟨u, hu, hc⟩ := hall 0 cs[0] (by simp [hz1])
    have hu' : u = 3 := by simpa using hu.symm
    subst hu'
    unfold Cell.ok at hc
    rw [Tryd.underlying3] at hc
    have h0 : W.cell? ⟨1, 0, none⟩ = some cs[0] := by simp [World.cell?, hh, hz1]
    generalize cs[0] = v at hc h0
    cases v with
    | int k n => obtain ⟨rfl, _⟩ := hc; exact ⟨n, h0⟩
    | _ => exact hc.elim
def putTab (t : Array Value) : Obj → Obj
  | .cells _ e fz => .cells t e fz
  | o => o
/-- The world that the door's own run leaves, with the one table laid of which it bears no text. -/
noncomputable def wit (os : Os) : World := { World.doorLaid Tryd.prog 4000 os with heap := (World.doorLaid Tryd.prog 4000 os).heap.modify 2 (putTab (Lib.firstTab.map (Value.int .u8)).toArray) }
theorem wit_met (os : Os) (args : Array Value) : laidMetH Tryd.prog laidI ((wit os).forCall (fun _ _ => 0) ⟨#[], args, []⟩).memory :=
  laidMetH_of_parts3 (fuel := 8) (laidMet_of_run' 8 (by kernel_rfl) (by kernel_rfl)) (by kernel_rfl) (by kernel_rfl)
end Go.Proofs.YtfpjeclbilhgdaaDoor
