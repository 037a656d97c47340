/- How what is handed in is read in memory, what the listed package variables hold, and a world in which they lie as the text lays them. -/
import Derived.Test.YthifejdphflfpaaDoorCards
import Derived.Test.YthifejdphflfpaaDoorTie
import Derived.Test.YthifejdphflfpaaDoorLives
import Derived.WalkKit
import Derived.ProofKit
import Derived.OpenShut
import Derived.Deep.DeepHandedRow
import Derived.Lib.LaidTab
import Derived.Lib.SmallJoins
import Derived.Deep.Slices
import Derived.Deep.Strs
import Derived.ChangeMaps5
import Derived.Deep.DeepWitnessRowRef
import Derived.Lib.LaidU8
import Derived.LaidMore
namespace Go.Proofs.YthifejdphflfpaaDoor
open Go.ChangeShapes Go.WideShapes Go.ChangeAt Go.RowKit
theorem int_range {n : Int} (h : (Lit.int .i64 n).wf = true) : -9223372036854775808 ≤ n ∧ n ≤ 9223372036854775807 := by
  simp [Lit.wf] at h
  exact ⟨Int.le_trans (by decide : (-9223372036854775808 : Int) ≤ IntKind.min .i64) h.1, Int.le_trans h.2 (by decide)⟩
theorem own : ownKnob Tryd.prog.godebug = none := by kernel_rfl
theorem laidOut : laidOutB Tryd.prog = true := by kernel_rfl
section
variable {H : Type} {enc : TypeId × Value → H}
/-- What is handed in reads as it did, wherever nothing old has turned. -/
theorem all_stay {W W' : World} (hb : Below W.heap.size W W') : ∀ {ts : List TypeId} {vs : List Value} {ds : List (DataW H)} {ps : List MemPlace} {sp : Nat → Bool}, (∀ t ∈ ts, Tryd.prog.readableRec t = true ∧ t < Tryd.prog.types.size) →
    DataW.TrodAll enc Tryd.prog W 0 (fun _ => true) true ts vs ds ps → (∀ x ∈ ps, x.block < W.heap.size) → (∀ x ∈ ps, sp x.block = true) → DataW.TrodAll enc Tryd.prog W' 0 sp true ts vs ds ps
  | [], _, _, _, _, _, h, _, _ => by
    obtain ⟨rfl, rfl, rfl⟩ := trodAll_nil h
    exact trodAll_mk0
  | t :: ts, _, _, _, _, hr, h, hlt, hsp => by
    obtain ⟨v, vs', d, ds', p, q, rfl, rfl, rfl, h0, h1⟩ := trodAll_cons h
    exact trodAll_cons_mk (WideElems.Trod_stays laidOut (hr t (List.mem_cons_self ..)).1 (hr t (List.mem_cons_self ..)).2 h0 (fun x hx => hb.same (hlt x (List.mem_append.2 (.inl hx)))) (fun x hx => hsp x (List.mem_append.2 (.inl hx))))
      (all_stay hb (fun u hu => hr u (List.mem_cons_of_mem _ hu)) h1 (fun x hx => hlt x (List.mem_append.2 (.inr hx))) (fun x hx => hsp x (List.mem_append.2 (.inr hx))))
theorem addr_at (b o j : Nat) : (⟨b, o, none⟩ : Addr).add j = ⟨b, o + j, none⟩ := by
  by_cases h : j = 0 <;> simp [Addr.add, h]
theorem spot_none {W : World} {a : Addr} {v : Value} (h : W.cell? a = some v) : a = ⟨a.block, a.off, none⟩ := by
  obtain ⟨b, o, s⟩ := a
  cases s with
  | none => rfl
  | some s => simp only [World.cell?] at h; split at h <;> simp at h
theorem cellsNm : Tryd.prog.cellsOf 25 = 3 := by kernel_rfl
theorem cellsStr : Tryd.prog.cellsOf 9 = 1 := by kernel_rfl
theorem cellsInt : Tryd.prog.cellsOf 3 = 1 := by kernel_rfl
instance : Inhabited Nm := ⟨⟨⟨#[]⟩, 0, 0⟩⟩
/-- May an entry lie in memory? -/
structure Nm.fit (m : Nm) : Prop where
  s : m.nm.size ≤ maxLen
  k : -9223372036854775808 ≤ m.kd ∧ m.kd ≤ 9223372036854775807
  i : -9223372036854775808 ≤ m.id ∧ m.id ≤ 9223372036854775807
set_option maxRecDepth 100000 in
theorem nm_read {W : World} {n : Nat} {cs : List Value} {x : DataW H × List MemPlace} (hf : DataW.trod enc Tryd.prog W 0 (fun _ => true) true n 25 cs = some x) : ∃ m : Nm, cs = nmC m ∧ m.fit := by
  obtain ⟨xs, n', _, _, hcl, hxl, hall⟩ := DataW.trod_struct Tryd.underlying25 hf
  rw [cellsNm] at hcl
  match cs, hcl with
  | [v0, v1, v2], _ =>
    have h0 := hall 0 _ rfl
    rw [List.getElem?_eq_getElem (by rw [hxl]; decide)] at h0
    obtain ⟨x0, e0, _, g0⟩ := DataW.trod_string Tryd.underlying9 h0
    change List.take (Tryd.prog.cellsOf 9) (List.drop 0 [v0, v1, v2]) = _ at e0
    rw [cellsStr] at e0
    have f0 : v0 = .string x0 := by simpa using e0
    have h1 := hall 1 _ rfl
    rw [List.getElem?_eq_getElem (by rw [hxl]; decide)] at h1
    obtain ⟨x1, e1, _, g1⟩ := DataW.trod_int Tryd.underlying3 h1
    change List.take (Tryd.prog.cellsOf 3) (List.drop 1 [v0, v1, v2]) = _ at e1
    rw [cellsInt] at e1
    have f1 : v1 = .int .i64 x1 := by simpa using e1
    have h2 := hall 2 _ rfl
    rw [List.getElem?_eq_getElem (by rw [hxl]; decide)] at h2
    obtain ⟨x2, e2, _, g2⟩ := DataW.trod_int Tryd.underlying3 h2
    change List.take (Tryd.prog.cellsOf 3) (List.drop 2 [v0, v1, v2]) = _ at e2
    rw [cellsInt] at e2
    have f2 : v2 = .int .i64 x2 := by simpa using e2
    exact ⟨⟨x0, x1, x2⟩, by rw [f0, f1, f2]; rfl, g0, int_range g1, int_range g2⟩
set_option maxRecDepth 100000 in
/-- An entry that is handed in. -/
theorem name_open {W : World} {r : Reach} {b0 : Nat} {v : Value} {d : DataW H} {ps : List MemPlace} (hv : Value.okWide Tryd.prog W r b0 25 v) (h : DataW.Trod enc Tryd.prog W 0 (fun _ => true) true 25 v d ps) :
    ∃ m : Nm, v = nmV m ∧ m.fit := by
  obtain ⟨cs, rfl, _⟩ := okWide_struct Tryd.underlying25 hv
  obtain ⟨fuel, hf⟩ := h
  obtain ⟨m, hm, hfit⟩ := nm_read hf
  refine ⟨m, ?_, hfit⟩
  have e : cs = (nmC m).toArray := by
    have : (Value.agg cs).cells.toList = cs.toList := by simp [Value.cells]
    rw [this] at hm
    rw [← hm]
  rw [e]; rfl
set_option maxRecDepth 100000 in
/-- A row of entries that is handed in. -/
theorem names_open {W : World} {r : Reach} {b0 : Nat} {v : Value} {d : DataW H} {ps : List MemPlace} (hv : Value.okWide Tryd.prog W r b0 22 v) (h : DataW.Trod enc Tryd.prog W 0 (fun _ => true) true 22 v d ps) :
    ∃ (p : Option Addr) (cap : Nat) (xs : List Nm), v = .slice p xs.length cap ∧ RAt W p cap xs ∧ ∀ m ∈ xs, m.fit := by
  obtain ⟨a0, len0, cap0, rfl⟩ := okWide_slice Tryd.underlying22 hv
  obtain ⟨fuel, hf⟩ := h
  have hcs0 : (Value.slice a0 len0 cap0).cells.toList = [.slice a0 len0 cap0] := by simp [Value.cells]
  rw [hcs0] at hf
  rcases Deep.open_slice Tryd.underlying22 hf with ⟨hcs, _⟩ | ⟨a, len, cap, m, k, D, Pl, hcs, hb, hl, hm, hmm, _, hx⟩
  · simp only [List.cons.injEq, and_true] at hcs
    exact ⟨none, 0, [], hcs, ⟨fun j hj => by simp at hj, by simp, by simp, fun _ => rfl⟩, fun x hx => by cases hx⟩
  · simp only [List.cons.injEq, and_true] at hcs
    rw [if_pos rfl] at hmm
    subst hmm
    rw [cellsNm] at hx
    have hcell : ∀ i, i < len → ∃ y : Nm, y.fit ∧ ∀ r u, (nmC y)[r]? = some u → W.cell? ((a.add (i * 3)).add r) = some u := fun i hi => by
      obtain ⟨cs', h1, h2⟩ := hx i (by omega)
      obtain ⟨y, rfl, hfit⟩ := nm_read h2
      obtain ⟨_, hlen, hcell⟩ := World.cells?_some h1
      refine ⟨y, hfit, fun r u hu => ?_⟩
      have hr := (List.getElem?_eq_some_iff.1 hu).1
      rw [hcell r hr]; exact hu
    obtain ⟨f, hf'⟩ := Deep.choose_lt hcell
    refine ⟨some a, m, (List.range len).map f, by simpa using hcs, ⟨?_, by simpa using hl, hm, fun h => by cases h⟩, fun x hx => ?_⟩
    · intro j hj
      have hj' : j < len := by simpa using hj
      have ha : a = ⟨a.block, a.off, none⟩ := by
        have hs := spot_none ((hf' 0 (by omega)).2 0 _ rfl)
        simpa [Addr.add] using hs
      have e0 := (hf' j hj').2
      rw [ha] at e0
      have hat : NmAt W a.block (a.off + j * 3) (f j) := NmAt.of fun r u hu => by
        have := e0 r u hu
        rwa [addr_at, addr_at] at this
      exact ⟨a.block, a.off, by rw [← ha], World.block_lt_of_cell? W ⟨a.block, a.off + j * 3, none⟩ hat.c0, by simpa using hat⟩
    · obtain ⟨i, hi, rfl⟩ := List.mem_map.1 hx
      exact (hf' i (List.mem_range.1 hi)).1
theorem bytesNm : Tryd.prog.bytesOf 25 = 32 := by kernel_rfl
set_option maxRecDepth 100000 in
theorem names_openW {W : World} {r : Reach} {b0 : Nat} {v : Value} {d : DataW H} {ps : List MemPlace} (hv : Value.okWide Tryd.prog W r b0 22 v) (h : DataW.Trod enc Tryd.prog W 0 (fun _ => true) true 22 v d ps)
    (hw : (DataW.weights Tryd.prog 22 d).all (· ≤ reachBytes) = true) :
    ∃ (p : Option Addr) (cap : Nat) (xs : List Nm), v = .slice p xs.length cap ∧ RAt W p cap xs ∧ (∀ m ∈ xs, m.fit) ∧ xs.length * 32 ≤ 140737488351232 := by
  obtain ⟨p, cap, xs, rfl, hR, hfit⟩ := names_open hv h
  refine ⟨p, cap, xs, rfl, hR, hfit, ?_⟩
  obtain ⟨fuel, hf⟩ := h
  have hcs0 : (Value.slice p xs.length cap).cells.toList = [.slice p xs.length cap] := by simp [Value.cells]
  rw [hcs0] at hf
  rcases Deep.open_slice Tryd.underlying22 hf with ⟨hcs, _⟩ | ⟨a', len', cap', m, k, D, Pl, hcs, hb, hl', hm, hmm, hx, _⟩
  · simp only [List.cons.injEq, Value.slice.injEq, and_true] at hcs
    omega
  · simp only [List.cons.injEq, Value.slice.injEq, and_true] at hcs
    rw [Prod.mk.injEq] at hx
    rw [hx.1] at hw
    simp only [DataW.weights, Tryd.underlying22, bytesNm, List.all_cons, Bool.and_eq_true, decide_eq_true_eq, List.length_map, List.length_range] at hw
    have h1 := hw.1
    unfold reachBytes at h1
    omega
set_option maxRecDepth 100000 in
/-- A row of texts that is handed in. -/
theorem texts_open {W : World} {r : Reach} {b0 : Nat} {v : Value} {d : DataW H} {ps : List MemPlace} (hv : Value.okWide Tryd.prog W r b0 44 v) (h : DataW.Trod enc Tryd.prog W 0 (fun _ => true) true 44 v d ps) :
    ∃ (p : Option Addr) (cap : Nat) (xs : List ByteArray), v = .slice p xs.length cap ∧ TsAt W p xs := by
  obtain ⟨a0, len0, cap0, rfl⟩ := okWide_slice Tryd.underlying44 hv
  obtain ⟨fuel, hf⟩ := h
  have hcs0 : (Value.slice a0 len0 cap0).cells.toList = [.slice a0 len0 cap0] := by simp [Value.cells]
  rw [hcs0] at hf
  rcases Deep.open_strs Tryd.underlying44 Tryd.underlying9 cellsStr hf with ⟨hcs, _⟩ | ⟨a, len, cap, mm, Sx, hcs, hb, hle, hm, hmm, hxx, hcl⟩
  · simp only [List.cons.injEq, and_true] at hcs
    exact ⟨none, 0, [], hcs, fun j hj => by simp at hj⟩
  · simp only [List.cons.injEq, and_true] at hcs
    rw [if_pos rfl] at hmm
    subst hmm
    refine ⟨some a, mm, (List.range len).map Sx, by simpa using hcs, fun j hj => ?_⟩
    have hj' : j < len := by simpa using hj
    have ha : a = ⟨a.block, a.off, none⟩ := by
      have hs := spot_none (hcl 0 (by omega)).1
      simpa [Addr.add] using hs
    have hc := (hcl j (by omega)).1
    rw [ha, addr_at] at hc
    exact ⟨a.block, a.off, by rw [← ha], World.block_lt_of_cell? W ⟨a.block, a.off + j, none⟩ hc, by rw [hc]; simp⟩
end
/-- What a law owes: it answered true, and nothing old has turned. -/
theorem law_post {H : Type} {enc : TypeId × Value → H} {f : Func} {s : ChangeSpec} {W W' : World} {args : Array Value} {ds : List (DataW H)} {before : List MemPlace} (hres : f.resultTypes = #[4]) (hr : ∀ t ∈ f.params.toList, Tryd.prog.readableRec t = true ∧ t < Tryd.prog.types.size)
    (hv : s.vars = []) (hW : DataW.Whole enc Tryd.prog f.params.toList s.vars false W args.toList ds [] before) (hfr : (s.fn H (ds ++ [])).results = [.lit (.bool true)]) (hfa : (s.fn H (ds ++ [])).args = ds) (hfv : (s.fn H (ds ++ [])).vars = []) (hb : Below W.heap.size W W') :
    s.post enc Tryd.prog f false true false false W args (.bool true) W' := by
  have hlt := hW.lt
  have hW' := hW
  obtain ⟨p, q, hA, hV, rfl, _, _⟩ := hW
  have hq : q = [] := by rw [hv] at hV; exact (trodVars_none hV).2
  subst hq
  rw [List.append_nil] at hW' hlt
  have hold : ∀ x ∈ p, (fun b => decide (b < W.heap.size)) x.block = true := fun x hx => by simpa using hlt x hx
  refine ⟨ds, [], p, [], p, [], hW', ?_, ?_, ?_, hb.frame _, fun h => by cases h⟩
  · rw [hres, hfr]; exact trodAll_mk1 (shut_bool Tryd.underlying4 _)
  · rw [hfa]; exact all_stay hb hr hA hlt hold
  · rw [hfv, hv]; exact rfl
/-- The list of the rows. -/
def laidI : List (String × DataW Unit) := Rows.dirOrderRow.laid
theorem laid_none : (laidI.filter fun x => x.2.handleName?.isSome) = [] := by kernel_rfl
set_option maxRecDepth 100000 in
/-- The package variables hold what the walks ask for. -/
theorem env_of {W : World} (hS : W.ShapedOpen Tryd.prog) : Env W := by
  refine ⟨?_, ?_⟩
  · obtain ⟨⟨z, t⟩, hz⟩ := Option.isSome_iff_exists.1 (show (((begin Tryd.prog (fun _ _ => 0) default).world.heap[3 - 1]?).bind Obj.row?).isSome = true by kernel_rfl)
    obtain ⟨cs, hh, _⟩ := hS.1 (3 - 1) z t (show 3 - 1 < Tryd.prog.globals.size from of_decide_eq_true (by kernel_rfl)) hz
    have := (Array.getElem?_eq_some_iff.1 hh).1
    omega
  · obtain ⟨cs, hh, hz, hok⟩ := hS.1 0 #[.int .i64 0] 3 (show 0 < Tryd.prog.globals.size from of_decide_eq_true (by kernel_rfl)) (by kernel_rfl)
    obtain ⟨ts, hts, _, hall⟩ := hok (by kernel_rfl)
    obtain rfl := Option.some.inj ((show Tryd.prog.cellTypes Tryd.prog.depth 3 = some [3] by kernel_rfl).symm.trans hts)
    have hz1 : cs.size = 1 := hz
    obtain ⟨u, hu, hc⟩ := hall 0 cs[0] (by simp [hz1])
    have hu' : u = 3 := by simpa using hu.symm
    subst hu'
    unfold Cell.ok at hc
    rw [Tryd.underlying3] at hc
    have h0 : W.cell? ⟨0, 0, none⟩ = some cs[0] := by simp [World.cell?, hh, hz1]
    generalize cs[0] = v at hc h0
    cases v with
    | int k n => obtain ⟨rfl, _⟩ := hc; exact ⟨n, h0⟩
    | _ => exact hc.elim
def putTab (t : Array Value) : Obj → Obj
  | .cells _ e fz => .cells t e fz
  | o => o
/-- The world that the door's own run leaves, with the one table laid of which it bears no text. -/
noncomputable def wit (os : Os) : World := { World.doorLaid Tryd.prog 4000 os with heap := (World.doorLaid Tryd.prog 4000 os).heap.modify 1 (putTab (Lib.firstTab.map (Value.int .u8)).toArray) }
theorem wit_met (os : Os) (args : Array Value) : laidMetH Tryd.prog laidI ((wit os).forCall (fun _ _ => 0) ⟨#[], args, []⟩).memory :=
  laidMetH_of_parts3 (fuel := 8) (laidMet_of_run' 8 (by kernel_rfl) (by kernel_rfl)) (by kernel_rfl) (by kernel_rfl)
end Go.Proofs.YthifejdphflfpaaDoor
