/- Whatever bytes are run, with whatever registers, from wherever, each step does what the document says, up to the one that does not run: the law CpuRuns answers true for every string, state and number; no condition. -/
import Derived.Test.YtbccckjkmlmhhaaRows
import Derived.Test.YtbccckjkmlmhhaaBase
import Derived.WalkKit
import Derived.ProofKit
import Derived.OpenShut
import Derived.Deep.DeepHandedRow
import Derived.ChangeMaps5
import Derived.Test.YtbccckjkmlmhhaaReach
import Derived.Test.YtbccckjkmlmhhaaCodes
import Derived.Test.YtbccckjkmlmhhaaChecked
import Derived.LaidLaws
import Derived.Test.YtbccckjkmlmhhaaLawR
/- How what is handed in is read in memory, and what a law owes. -/
namespace Go.Proofs.Ytbccckjkmlmhhaa
open Go.ChangeShapes Go.WideShapes Go.ChangeAt Go.RowKit

theorem int_range {n : Int} (h : (Lit.int .i64 n).wf = true) : -9223372036854775808 ≤ n ∧ n ≤ 9223372036854775807 := by
  simp [Lit.wf] at h
  exact ⟨Int.le_trans (by decide : (-9223372036854775808 : Int) ≤ IntKind.min .i64) h.1, Int.le_trans h.2 (by decide)⟩
theorem own : ownKnob Try.prog.godebug = none := by kernel_rfl
theorem laidOut : laidOutB Try.prog = true := by kernel_rfl
section
variable {H : Type} {enc : TypeId × Value → H}

/-- What is handed in reads as it did, wherever nothing old has turned. -/
theorem all_stay {W W' : World} (hb : Below W.heap.size W W') : ∀ {ts : List TypeId} {vs : List Value} {ds : List (DataW H)} {ps : List MemPlace} {sp : Nat → Bool}, (∀ t ∈ ts, Try.prog.readableRec t = true ∧ t < Try.prog.types.size) →
    DataW.TrodAll enc Try.prog W 0 (fun _ => true) true ts vs ds ps → (∀ x ∈ ps, x.block < W.heap.size) → (∀ x ∈ ps, sp x.block = true) → DataW.TrodAll enc Try.prog W' 0 sp true ts vs ds ps
  | [], _, _, _, _, _, h, _, _ => by
    obtain ⟨rfl, rfl, rfl⟩ := trodAll_nil h
    exact trodAll_mk0
  | t :: ts, _, _, _, _, hr, h, hlt, hsp => by
    obtain ⟨v, vs', d, ds', p, q, rfl, rfl, rfl, h0, h1⟩ := trodAll_cons h
    exact trodAll_cons_mk (WideElems.Trod_stays laidOut (hr t (List.mem_cons_self ..)).1 (hr t (List.mem_cons_self ..)).2 h0 (fun x hx => hb.same (hlt x (List.mem_append.2 (.inl hx)))) (fun x hx => hsp x (List.mem_append.2 (.inl hx))))
      (all_stay hb (fun u hu => hr u (List.mem_cons_of_mem _ hu)) h1 (fun x hx => hlt x (List.mem_append.2 (.inr hx))) (fun x hx => hsp x (List.mem_append.2 (.inr hx))))
end
/-- What a law owes: it answered true, and nothing old has turned. -/
theorem law_post {H : Type} {enc : TypeId × Value → H} {f : Func} {s : ChangeSpec} {W W' : World} {args : Array Value} {ds : List (DataW H)} {before : List MemPlace} (hres : f.resultTypes = #[4]) (hr : ∀ t ∈ f.params.toList, Try.prog.readableRec t = true ∧ t < Try.prog.types.size)
    (hv : s.vars = []) (hW : DataW.Whole enc Try.prog f.params.toList s.vars false W args.toList ds [] before) (hfr : (s.fn H (ds ++ [])).results = [.lit (.bool true)]) (hfa : (s.fn H (ds ++ [])).args = ds) (hfv : (s.fn H (ds ++ [])).vars = []) (hb : Below W.heap.size W W') :
    s.post enc Try.prog f false true false false W args (.bool true) W' := by
  have hlt := hW.lt
  have hW' := hW
  obtain ⟨p, q, hA, hV, rfl, _, _⟩ := hW
  have hq : q = [] := by rw [hv] at hV; exact (trodVars_none hV).2
  subst hq
  rw [List.append_nil] at hW' hlt
  have hold : ∀ x ∈ p, (fun b => decide (b < W.heap.size)) x.block = true := fun x hx => by simpa using hlt x hx
  refine ⟨ds, [], p, [], p, [], hW', ?_, ?_, ?_, hb.frame _, fun h => by cases h⟩
  · rw [hres, hfr]; exact trodAll_mk1 (shut_bool Try.underlying4 _)
  · rw [hfa]; exact all_stay hb hr hA hlt hold
  · rw [hfv, hv]; exact rfl
end Go.Proofs.Ytbccckjkmlmhhaa
/- How states and instructions that are handed in lie. -/
namespace Go.Proofs.Ytbccckjkmlmhhaa
open Go.ChangeShapes Go.WideShapes Go.ChangeAt Go.RowKit
theorem u64_range {n : Int} (h : (Lit.int .u64 n).wf = true) : u64ok n := by
  simp [Lit.wf] at h
  exact ⟨Int.le_trans (by decide : (0 : Int) ≤ IntKind.min .u64) h.1, Int.lt_of_le_of_lt h.2 (by decide)⟩
def numOf (v : Option Value) : Int := match v with
  | some (.int _ n) => n
  | _ => 0
section
variable {H : Type} {enc : TypeId × Value → H}
set_option maxRecDepth 100000 in
theorem st_open {W : World} {r : Reach} {b0 : Nat} {v : Value} {d : DataW H} {ps : List MemPlace} (hv : Value.okWide Try.prog W r b0 25 v) (h : DataW.Trod enc Try.prog W 0 (fun _ => true) true 25 v d ps) :
    ∃ (x : List Int) (pc : Int), v = .agg (stC x pc).toArray ∧ okR x pc := by
  obtain ⟨cs, rfl, hsz⟩ := okWide_struct Try.underlying25 hv
  rw [show Try.prog.cellsOf 25 = 17 from by kernel_rfl] at hsz
  obtain ⟨fuel, hf⟩ := h
  obtain ⟨xs, n, rfl, _, _, hxl, hall⟩ := DataW.trod_struct Try.underlying25 hf
  obtain ⟨l, rfl⟩ : ∃ l : List Value, cs = l.toArray := ⟨cs.toList, by simp⟩
  have hl : l.length = 17 := by simpa using hsz
  have kA : Try.prog.cellsOf 23 = 16 := by kernel_rfl
  have kU : Try.prog.cellsOf 22 = 1 := by kernel_rfl
  have h0 := hall 0 _ rfl
  rw [List.getElem?_eq_getElem (by rw [hxl]; decide)] at h0
  obtain ⟨ys, m, _, _, _, hyl, hally⟩ := DataW.trod_array Try.underlying23 h0
  have hreg : ∀ i, i < 16 → ∃ k, l[i]? = some (.int .u64 k) ∧ u64ok k := by
    intro i hi
    have h1 := hally i hi
    rw [List.getElem?_eq_getElem (by rw [hyl]; exact hi)] at h1
    obtain ⟨k, e0, _, hw⟩ := DataW.trod_int Try.underlying22 h1
    change List.take (Try.prog.cellsOf 22) (List.drop (i * Try.prog.cellsOf 22) (List.take (Try.prog.cellsOf 23) (List.drop 0 l))) = _ at e0
    rw [kU, kA, List.drop_zero, Nat.mul_one] at e0
    refine ⟨k, ?_, u64_range hw⟩
    have : (List.take 1 (List.drop i (List.take 16 l)))[0]? = some (.int .u64 k) := by rw [e0]; rfl
    rw [List.getElem?_take_of_lt (by omega), List.getElem?_drop, List.getElem?_take_of_lt (by omega)] at this
    simpa using this
  have h1 := hall 1 _ rfl
  rw [List.getElem?_eq_getElem (by rw [hxl]; decide)] at h1
  obtain ⟨pc, e1, _, hw1⟩ := DataW.trod_int Try.underlying22 h1
  change List.take (Try.prog.cellsOf 22) (List.drop 16 l) = _ at e1
  rw [kU] at e1
  have hpc : l[16]? = some (.int .u64 pc) := by
    have : (List.take 1 (List.drop 16 l))[0]? = some (.int .u64 pc) := by rw [e1]; rfl
    rw [List.getElem?_take_of_lt (by omega), List.getElem?_drop] at this
    simpa using this
  refine ⟨(List.range 16).map fun i => numOf l[i]?, pc, ?_, by simp, ?_, u64_range hw1⟩
  · congr 2
    apply List.ext_getElem?
    intro j
    by_cases hj : j < 16
    · obtain ⟨k, hk, _⟩ := hreg j hj
      rw [hk]
      unfold stC
      rw [List.getElem?_append_left (by simp [hj])]
      simp [hj, hk, numOf]
    · by_cases hj2 : j = 16
      · subst hj2
        rw [hpc]
        simp [stC]
      · rw [List.getElem?_eq_none (by omega), List.getElem?_eq_none (by simp [stC]; omega)]
  · intro x hx
    obtain ⟨i, hi, rfl⟩ := List.mem_map.1 hx
    obtain ⟨k, hk, hu⟩ := hreg i (List.mem_range.1 hi)
    rw [hk]; exact hu
set_option maxRecDepth 100000 in
/-- An instruction that is handed in. -/
theorem code_open {W : World} {r : Reach} {b0 : Nat} {v : Value} {d : DataW H} {ps : List MemPlace} (hv : Value.okWide Try.prog W r b0 61 v) (h : DataW.Trod enc Try.prog W 0 (fun _ => true) true 61 v d ps) :
    ∃ c : Cod, v = c.v := by
  obtain ⟨cs, rfl, hsz⟩ := okWide_struct Try.underlying61 hv
  rw [show Try.prog.cellsOf 61 = 5 from by kernel_rfl] at hsz
  obtain ⟨fuel, hf⟩ := h
  obtain ⟨xs, n, rfl, _, _, hxl, hall⟩ := DataW.trod_struct Try.underlying61 hf
  obtain ⟨l, rfl⟩ : ∃ l : List Value, cs = l.toArray := ⟨cs.toList, by simp⟩
  match l, hsz with
  | [v0, v1, v2, v3, v4], _ =>
    have k3 : Try.prog.cellsOf 3 = 1 := by kernel_rfl
    have h0 := hall 0 _ rfl
    rw [List.getElem?_eq_getElem (by rw [hxl]; decide)] at h0
    obtain ⟨x0, e0, _, _⟩ := DataW.trod_int Try.underlying3 h0
    change List.take (Try.prog.cellsOf 3) (List.drop 0 [v0, v1, v2, v3, v4]) = _ at e0
    rw [k3] at e0
    have f0 : v0 = .int .i64 x0 := by simpa using e0
    have h1 := hall 1 _ rfl
    rw [List.getElem?_eq_getElem (by rw [hxl]; decide)] at h1
    obtain ⟨x1, e1, _, _⟩ := DataW.trod_int Try.underlying3 h1
    change List.take (Try.prog.cellsOf 3) (List.drop 1 [v0, v1, v2, v3, v4]) = _ at e1
    rw [k3] at e1
    have f1 : v1 = .int .i64 x1 := by simpa using e1
    have h2 := hall 2 _ rfl
    rw [List.getElem?_eq_getElem (by rw [hxl]; decide)] at h2
    obtain ⟨x2, e2, _, _⟩ := DataW.trod_int Try.underlying3 h2
    change List.take (Try.prog.cellsOf 3) (List.drop 2 [v0, v1, v2, v3, v4]) = _ at e2
    rw [k3] at e2
    have f2 : v2 = .int .i64 x2 := by simpa using e2
    have h3 := hall 3 _ rfl
    rw [List.getElem?_eq_getElem (by rw [hxl]; decide)] at h3
    obtain ⟨x3, e3, _, _⟩ := DataW.trod_int Try.underlying3 h3
    change List.take (Try.prog.cellsOf 3) (List.drop 3 [v0, v1, v2, v3, v4]) = _ at e3
    rw [k3] at e3
    have f3 : v3 = .int .i64 x3 := by simpa using e3
    have h4 := hall 4 _ rfl
    rw [List.getElem?_eq_getElem (by rw [hxl]; decide)] at h4
    obtain ⟨x4, e4, _, _⟩ := DataW.trod_int Try.underlying3 h4
    change List.take (Try.prog.cellsOf 3) (List.drop 4 [v0, v1, v2, v3, v4]) = _ at e4
    rw [k3] at e4
    have f4 : v4 = .int .i64 x4 := by simpa using e4
    exact ⟨⟨x0, x1, x2, x3, x4⟩, by rw [f0, f1, f2, f3, f4]; rfl⟩
end
end Go.Proofs.Ytbccckjkmlmhhaa
namespace Go.Proofs.Ytbccckjkmlmhhaa.cpuRuns
open Go.ChangeShapes Go.WideShapes Go.ChangeAt Go.RowKit

set_option maxRecDepth 100000 in
theorem contract (H : Type) (enc : TypeId × Value → H) (W : World) (base : Nat) (args : Array Value) (ds gs : List (DataW H)) (before : List MemPlace)
    (hval : ∀ (j : Nat) t v, Try.f3.params[j]? = some t → args[j]? = some v → Value.okWide Try.prog W .any base t v)
    (hW : DataW.Whole enc Try.prog Try.f3.params.toList Rows.cpuRunsSpec.vars false W args.toList ds gs before) (vt : List TypeId) (hwt : (DataW.weightsEach Try.prog (Try.f3.params.toList ++ vt) (ds ++ gs)).all (· ≤ reachBytes) = true) :
    Calls Try.prog 3 args W fun e W' => ∃ v, e = .returned v ∧ Rows.cpuRunsSpec.post enc Try.prog Try.f3 false true false false W args v W' := by
  have hW' := hW
  obtain ⟨p, q, hA0, hV, rfl, hfz, hnd⟩ := hW
  have hA : DataW.TrodAll enc Try.prog W 0 (fun _ => true) true Try.f3.params.toList args.toList ds p := hA0
  obtain ⟨rfl, rfl⟩ := trodVars_none hV
  rw [Try.params3] at hA hval
  obtain ⟨v0, vs0, d0, ds0, p0, q0, hargs, rfl, rfl, h0, r0⟩ := trodAll_cons hA
  obtain ⟨v1, vs1, d1, ds1, p1, q1, rfl, rfl, rfl, h1, r1⟩ := trodAll_cons r0
  obtain ⟨v2, vs2, d2, ds2, p2, q2, rfl, rfl, rfl, h2, r2⟩ := trodAll_cons r1
  obtain ⟨rfl, rfl, rfl⟩ := trodAll_nil r2
  obtain rfl : args = #[v0, v1, v2] := by cases args; simp_all
  obtain ⟨x0, rfl, rfl, rfl, hm0⟩ := Go.ChangeMaps.open_string Try.underlying9 (hval 0 9 v0 rfl rfl) h0
  obtain ⟨x1, pc1, rfl, hk1⟩ := st_open (hval 1 25 v1 rfl rfl) h1
  obtain ⟨x2, rfl, rfl, rfl, wc2⟩ := open_int Try.underlying3 (hval 2 3 v2 rfl rfl) h2
  have hs0 : x0.size < 4611686018427387904 := by
    have h := List.all_eq_true.1 hwt x0.data.toList.length (by rw [Try.params3]; simp [DataW.weightsEach, DataW.weights])
    have h2 : x0.data.toList.length = x0.size := by simp
    have h3 : x0.data.toList.length ≤ reachBytes := of_decide_eq_true h
    unfold reachBytes at h3
    omega
  refine (CpuRuns_any x0 x1 pc1 x2 W hs0 hk1).mono fun e W' ⟨he, hb⟩ => ?_
  subst he
  exact ⟨_, rfl, law_post (by kernel_rfl) (by rw [Try.params3]; intro t ht; simp at ht; rcases ht with rfl | rfl | rfl <;> exact ⟨by kernel_rfl, of_decide_eq_true (by kernel_rfl)⟩) rfl hW' rfl rfl rfl hb⟩

theorem laid_met (os : Os) : laidMet Try.prog Rows.cpuRunsRow.laid ((World.holding Try.prog os ⟨#[], #[], []⟩).forCall (fun _ _ => 0) ⟨#[], #[.string ⟨#[]⟩, .agg #[.int .u64 0, .int .u64 0, .int .u64 0, .int .u64 0, .int .u64 0, .int .u64 0, .int .u64 0, .int .u64 0, .int .u64 0, .int .u64 0, .int .u64 0, .int .u64 0, .int .u64 0, .int .u64 0, .int .u64 0, .int .u64 0, .int .u64 0], .int .i64 0], []⟩).memory :=
  laidMet_of_run' 8 (by kernel_rfl) (by kernel_rfl)
theorem reads (os : Os) {H : Type} (enc : TypeId × Value → H) : ∃ places, DataW.whole enc Try.prog ((World.holding Try.prog os ⟨#[], #[], []⟩).forCall (fun _ _ => 0) ⟨#[], #[.string ⟨#[]⟩, .agg #[.int .u64 0, .int .u64 0, .int .u64 0, .int .u64 0, .int .u64 0, .int .u64 0, .int .u64 0, .int .u64 0, .int .u64 0, .int .u64 0, .int .u64 0, .int .u64 0, .int .u64 0, .int .u64 0, .int .u64 0, .int .u64 0, .int .u64 0], .int .i64 0], []⟩).memory Try.f3.params.toList Rows.cpuRunsSpec.vars false #[Value.string ⟨#[]⟩, Value.agg #[.int .u64 0, .int .u64 0, .int .u64 0, .int .u64 0, .int .u64 0, .int .u64 0, .int .u64 0, .int .u64 0, .int .u64 0, .int .u64 0, .int .u64 0, .int .u64 0, .int .u64 0, .int .u64 0, .int .u64 0, .int .u64 0, .int .u64 0], Value.int .i64 0].toList 8 = some ([.lit (.string []), .agg [.agg [.lit (.int .u64 0), .lit (.int .u64 0), .lit (.int .u64 0), .lit (.int .u64 0), .lit (.int .u64 0), .lit (.int .u64 0), .lit (.int .u64 0), .lit (.int .u64 0), .lit (.int .u64 0), .lit (.int .u64 0), .lit (.int .u64 0), .lit (.int .u64 0), .lit (.int .u64 0), .lit (.int .u64 0), .lit (.int .u64 0), .lit (.int .u64 0)], .lit (.int .u64 0)], .lit (.int .i64 0)], [], places) :=
  ⟨[], by kernel_rfl⟩

set_option maxRecDepth 100000 in
theorem lifted (os : Os) (started : os.Started) (H : Type) (enc : TypeId × Value → H) (F : Stop.Interp) :
    ReturnsInHanded {} Try.checked os 3 .any ((OpenSpec.ofChange Rows.cpuRunsSpec).preRow enc Try.prog Try.f3 Rows.cpuRunsRow.domain false Rows.cpuRunsRow.laid) (((OpenSpec.ofChange Rows.cpuRunsSpec).at F).post enc Try.prog Try.f3 false true false false) := by
  obtain ⟨places, hx⟩ := reads os enc
  refine returnsInHanded_of_row (C := Try.checked) (s := OpenSpec.ofChange Rows.cpuRunsSpec) own started (by kernel_rfl) Try.func3
    (witness_row_at (enc := enc) (C := Try.checked) false (World.holding Try.prog os ⟨#[], #[], []⟩) #[.string ⟨#[]⟩, .agg #[.int .u64 0, .int .u64 0, .int .u64 0, .int .u64 0, .int .u64 0, .int .u64 0, .int .u64 0, .int .u64 0, .int .u64 0, .int .u64 0, .int .u64 0, .int .u64 0, .int .u64 0, .int .u64 0, .int .u64 0, .int .u64 0, .int .u64 0], .int .i64 0] rfl (by kernel_rfl) (by kernel_rfl) (by kernel_rfl)
      (OpenSpec.preRow_of_cond 8 hx (by kernel_rfl) (fun k hk => by cases hk) (by kernel_rfl) (laid_met os))) ?_
  intro W base args ds gs before hval hW _ _ hwt _ _ _
  exact contract H enc W base args ds gs before hval hW _ hwt

theorem said : Rows.CpuRunsSaid :=
  OpenClaim.holds_of_cond 3 Try.f3 rfl rfl rfl rfl rfl rfl rfl ⟨rfl, rfl, rfl, rfl, rfl⟩ rfl rfl rfl rfl rfl (by kernel_rfl) Try.func3 (by kernel_rfl)
    (of_decide_eq_true (by kernel_rfl)) (by unfold Func.isWrapper; first | (rw [if_pos (by decide +kernel)]; kernel_rfl) | (rw [if_neg (by decide +kernel)]; exact ⟨rfl, rfl⟩))
    (fun os started H enc _ F => by rw [OpenClaim.pre_eq_preRow]; exact lifted os started H enc F)
end Go.Proofs.Ytbccckjkmlmhhaa.cpuRuns

namespace Go.Proofs.Ytbccckjkmlmhhaa
theorem cpuRuns_holds : Rows.CpuRunsSaid := cpuRuns.said
end Go.Proofs.Ytbccckjkmlmhhaa
