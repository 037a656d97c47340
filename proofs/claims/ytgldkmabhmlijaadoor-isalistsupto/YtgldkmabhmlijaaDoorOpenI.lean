/- How what is handed in is read in memory, what the listed package variables hold, and a world in which they lie as the text lays them. -/
import Derived.Test.YtgldkmabhmlijaaDoorCards
import Derived.Test.YtgldkmabhmlijaaDoorTie
import Derived.Test.YtgldkmabhmlijaaDoorWord
import Derived.WalkKit
import Derived.ProofKit
import Derived.OpenShut
import Derived.Deep.DeepHandedRow
import Derived.Deep.DeepWitnessRowRef
import Derived.Lib.LaidTab
import Derived.Lib.LaidU8
import Derived.Lib.SmallJoins
import Derived.LaidMore
namespace Go.Proofs.YtgldkmabhmlijaaDoor
open Go.ChangeShapes Go.WideShapes Go.ChangeAt Go.RowKit

theorem own : ownKnob Tryd.prog.godebug = none := by kernel_rfl
theorem laidOut : laidOutB Tryd.prog = true := by kernel_rfl
section
variable {H : Type} {enc : TypeId × Value → H}

/-- What is handed in reads as it did, wherever nothing old has turned. -/
theorem all_stay {W W' : World} (hb : Below W.heap.size W W') : ∀ {ts : List TypeId} {vs : List Value} {ds : List (DataW H)} {ps : List MemPlace} {sp : Nat → Bool}, (∀ t ∈ ts, Tryd.prog.readableRec t = true ∧ t < Tryd.prog.types.size) →
    DataW.TrodAll enc Tryd.prog W 0 (fun _ => true) true ts vs ds ps → (∀ x ∈ ps, x.block < W.heap.size) → (∀ x ∈ ps, sp x.block = true) → DataW.TrodAll enc Tryd.prog W' 0 sp true ts vs ds ps
  | [], _, _, _, _, _, h, _, _ => by
    obtain ⟨rfl, rfl, rfl⟩ := trodAll_nil h
    exact trodAll_mk0
  | t :: ts, _, _, _, _, hr, h, hlt, hsp => by
    obtain ⟨v, vs', d, ds', p, q, rfl, rfl, rfl, h0, h1⟩ := trodAll_cons h
    exact trodAll_cons_mk (WideElems.Trod_stays laidOut (hr t (List.mem_cons_self ..)).1 (hr t (List.mem_cons_self ..)).2 h0 (fun x hx => hb.same (hlt x (List.mem_append.2 (.inl hx)))) (fun x hx => hsp x (List.mem_append.2 (.inl hx))))
      (all_stay hb (fun u hu => hr u (List.mem_cons_of_mem _ hu)) h1 (fun x hx => hlt x (List.mem_append.2 (.inr hx))) (fun x hx => hsp x (List.mem_append.2 (.inr hx))))
theorem trod_iface_form {w : World} {base fuel : Nat} {sp : Nat → Bool} {held : Bool} {t : TypeId} {ms : Array (String × TypeId)} {cs : List Value} {x : DataW H × List MemPlace} (ht : Tryd.prog.underlying t = some (.interface ms))
    (h : DataW.trod enc Tryd.prog w base sp held fuel t cs = some x) : cs = [.nilIface] ∨ ∃ u v, cs = [.iface u v] := by
  cases fuel with
  | zero => simp [DataW.trod] at h
  | succ m =>
    unfold DataW.trod at h
    rw [ht] at h
    split at h <;> simp_all
/-- An array of strings that reads as these texts holds them, cell for cell. -/
theorem strs_of_tab {w : World} {base fuel : Nat} {sp : Nat → Bool} {held : Bool} {t e : TypeId} {n : Nat} {cs : List Value} {zs : List (List UInt8)} {p : List MemPlace}
    (ht : Tryd.prog.underlying t = some (.array n e)) (he : Tryd.prog.underlying e = some .string) (hce : Tryd.prog.cellsOf e = 1)
    (h : DataW.trod enc Tryd.prog w base sp held fuel t cs = some (.agg (zs.map fun z => .lit (.string z)), p)) : ∀ i, i < n → cs[i]? = some (.string ⟨(zs.getD i []).toArray⟩) := by
  obtain ⟨xs, m, _, hx, _, hl, hall⟩ := DataW.trod_array ht h
  intro i hi
  have hi' := hall i hi
  rw [hce, Nat.mul_one, List.getElem?_eq_getElem (by omega)] at hi'
  obtain ⟨s, hc, hs, _⟩ := DataW.trod_string he hi'
  have h1 : cs[i]? = some (.string s) := by
    have := congrArg (·[0]?) hc
    simpa [List.getElem?_take, List.getElem?_drop] using this
  have hxs : xs.map (·.1) = zs.map fun z => (DataW.lit (.string z) : DataW H) := by
    have := congrArg Prod.fst hx
    simpa using this.symm
  have h2 : (xs.map (·.1))[i]? = some (DataW.lit (.string s.data.toList) : DataW H) := by
    rw [List.getElem?_map, List.getElem?_eq_getElem (by omega), hs]; rfl
  rw [hxs, List.getElem?_map] at h2
  obtain ⟨z, hz, hzz⟩ := Option.map_eq_some_iff.1 h2
  have : z = s.data.toList := by simpa using hzz
  rw [h1, List.getD_eq_getElem?_getD, hz, this]
  simp
set_option maxRecDepth 100000 in
/-- An instruction that is handed in. -/
theorem code_open {W : World} {r : Reach} {b0 : Nat} {v : Value} {d : DataW H} {ps : List MemPlace} (hv : Value.okWide Tryd.prog W r b0 25 v) (h : DataW.Trod enc Tryd.prog W 0 (fun _ => true) true 25 v d ps) :
    ∃ c : Cod, v = c.v := by
  obtain ⟨cs, rfl, hsz⟩ := okWide_struct Tryd.underlying25 hv
  rw [show Tryd.prog.cellsOf 25 = 5 from by kernel_rfl] at hsz
  obtain ⟨fuel, hf⟩ := h
  obtain ⟨xs, n, rfl, _, _, hxl, hall⟩ := DataW.trod_struct Tryd.underlying25 hf
  obtain ⟨l, rfl⟩ : ∃ l : List Value, cs = l.toArray := ⟨cs.toList, by simp⟩
  match l, hsz with
  | [v0, v1, v2, v3, v4], _ =>
    have k3 : Tryd.prog.cellsOf 3 = 1 := by kernel_rfl
    have h0 := hall 0 _ rfl
    rw [List.getElem?_eq_getElem (by rw [hxl]; decide)] at h0
    obtain ⟨x0, e0, _, _⟩ := DataW.trod_int Tryd.underlying3 h0
    change List.take (Tryd.prog.cellsOf 3) (List.drop 0 [v0, v1, v2, v3, v4]) = _ at e0
    rw [k3] at e0
    have f0 : v0 = .int .i64 x0 := by simpa using e0
    have h1 := hall 1 _ rfl
    rw [List.getElem?_eq_getElem (by rw [hxl]; decide)] at h1
    obtain ⟨x1, e1, _, _⟩ := DataW.trod_int Tryd.underlying3 h1
    change List.take (Tryd.prog.cellsOf 3) (List.drop 1 [v0, v1, v2, v3, v4]) = _ at e1
    rw [k3] at e1
    have f1 : v1 = .int .i64 x1 := by simpa using e1
    have h2 := hall 2 _ rfl
    rw [List.getElem?_eq_getElem (by rw [hxl]; decide)] at h2
    obtain ⟨x2, e2, _, _⟩ := DataW.trod_int Tryd.underlying3 h2
    change List.take (Tryd.prog.cellsOf 3) (List.drop 2 [v0, v1, v2, v3, v4]) = _ at e2
    rw [k3] at e2
    have f2 : v2 = .int .i64 x2 := by simpa using e2
    have h3 := hall 3 _ rfl
    rw [List.getElem?_eq_getElem (by rw [hxl]; decide)] at h3
    obtain ⟨x3, e3, _, _⟩ := DataW.trod_int Tryd.underlying3 h3
    change List.take (Tryd.prog.cellsOf 3) (List.drop 3 [v0, v1, v2, v3, v4]) = _ at e3
    rw [k3] at e3
    have f3 : v3 = .int .i64 x3 := by simpa using e3
    have h4 := hall 4 _ rfl
    rw [List.getElem?_eq_getElem (by rw [hxl]; decide)] at h4
    obtain ⟨x4, e4, _, _⟩ := DataW.trod_int Tryd.underlying3 h4
    change List.take (Tryd.prog.cellsOf 3) (List.drop 4 [v0, v1, v2, v3, v4]) = _ at e4
    rw [k3] at e4
    have f4 : v4 = .int .i64 x4 := by simpa using e4
    exact ⟨⟨x0, x1, x2, x3, x4⟩, by rw [f0, f1, f2, f3, f4]; rfl⟩
end
/-- What a law owes: it answered true, and nothing old has turned. -/
theorem law_post {H : Type} {enc : TypeId × Value → H} {f : Func} {s : ChangeSpec} {W W' : World} {args : Array Value} {ds : List (DataW H)} {before : List MemPlace} (hres : f.resultTypes = #[4]) (hr : ∀ t ∈ f.params.toList, Tryd.prog.readableRec t = true ∧ t < Tryd.prog.types.size)
    (hv : s.vars = []) (hW : DataW.Whole enc Tryd.prog f.params.toList s.vars false W args.toList ds [] before) (hfr : (s.fn H (ds ++ [])).results = [.lit (.bool true)]) (hfa : (s.fn H (ds ++ [])).args = ds) (hfv : (s.fn H (ds ++ [])).vars = []) (hb : Below W.heap.size W W') :
    s.post enc Tryd.prog f false true false false W args (.bool true) W' := by
  have hlt := hW.lt
  have hW' := hW
  obtain ⟨p, q, hA, hV, rfl, _, _⟩ := hW
  have hq : q = [] := by rw [hv] at hV; exact (trodVars_none hV).2
  subst hq
  rw [List.append_nil] at hW' hlt
  have hold : ∀ x ∈ p, (fun b => decide (b < W.heap.size)) x.block = true := fun x hx => by simpa using hlt x hx
  refine ⟨ds, [], p, [], p, [], hW', ?_, ?_, ?_, hb.frame _, fun h => by cases h⟩
  · rw [hres, hfr]; exact trodAll_mk1 (shut_bool Tryd.underlying4 _)
  · rw [hfa]; exact all_stay hb hr hA hlt hold
  · rw [hfv, hv]; exact rfl
/-- The list of the rows. -/
def laidI : List (String × DataW Unit) := Rows.isaListsRow.laid
theorem laid_none : (laidI.filter fun x => x.2.handleName?.isSome) = [] := by kernel_rfl
set_option maxRecDepth 100000 in
/-- The package variables hold what the walks ask for. -/
theorem env_of {W : World} (hL : laidMetH Tryd.prog laidI W) (hS : W.ShapedOpen Tryd.prog) : Env W := by
  have h : laidMet Tryd.prog laidI W := by unfold laidMetH at hL; rw [laid_none] at hL; exact hL
  refine ⟨?_, ?_, ?_, ?_, ?_, ?_⟩
  · obtain ⟨⟨z, t⟩, hz⟩ := Option.isSome_iff_exists.1 (show (((begin Tryd.prog (fun _ _ => 0) default).world.heap[9 - 1]?).bind Obj.row?).isSome = true by kernel_rfl)
    obtain ⟨cs, hh, _⟩ := hS.1 (9 - 1) z t (show 9 - 1 < Tryd.prog.globals.size from of_decide_eq_true (by kernel_rfl)) hz
    have := (Array.getElem?_eq_some_iff.1 hh).1
    omega
  · obtain ⟨g, t, cs, fuel, p, hg, ht, hv, hd⟩ := Lib.laidMet.reads h (n := "gatehouse/isa.names") (d := Rows.laid_gatehouse_isa_names) (by unfold laidI Rows.isaListsRow; simp)
    obtain rfl := Option.some.inj ((show Tryd.prog.globalNamed "gatehouse/isa.names" = some 0 by kernel_rfl).symm.trans hg)
    obtain rfl := Option.some.inj ((show (Tryd.prog.globals[0]?).map (·.type) = some 45 by kernel_rfl).symm.trans ht)
    intro k hk
    have := strs_of_tab (zs := nmL) Tryd.underlying45 Tryd.underlying9 (by kernel_rfl) hd k hk
    have hc := World.var?_cell hg hv k
    rw [hc]
    simpa using this
  · obtain ⟨g, t, cs, fuel, p, hg, ht, hv, hd⟩ := Lib.laidMet.reads h (n := "internal/strconv.uint64pow10") (d := Rows.laid_internal_strconv_uint64pow10) (by unfold laidI Rows.isaListsRow; simp)
    obtain rfl := Option.some.inj (powNamed.symm.trans hg)
    obtain rfl := Option.some.inj ((show (Tryd.prog.globals[2]?).map (·.type) = some 101 by kernel_rfl).symm.trans ht)
    unfold Pow Lib.TabIs
    rw [hv, ← Lib.cells_of_tab (zs := Lib.pow10Tab) Tryd.underlying101 Tryd.underlying84 (by kernel_rfl) (by kernel_rfl) hd]
  · obtain ⟨cs, hh, hz, hok⟩ := hS.1 1 #[.int .i64 0] 3 (show 1 < Tryd.prog.globals.size from of_decide_eq_true (by kernel_rfl)) (by kernel_rfl)
    obtain ⟨ts, hts, _, hall⟩ := hok (by kernel_rfl)
    obtain rfl := Option.some.inj ((show Tryd.prog.cellTypes Tryd.prog.depth 3 = some [3] by kernel_rfl).symm.trans hts)
    have hz1 : cs.size = 1 := hz
    obtain ⟨u, hu, hc⟩ := hall 0 cs[0] (by simp [hz1])
    have hu' : u = 3 := by simpa using hu.symm
    subst hu'
    unfold Cell.ok at hc
    rw [Tryd.underlying3] at hc
    have h0 : W.cell? ⟨1, 0, none⟩ = some cs[0] := by simp [World.cell?, hh, hz1]
    generalize cs[0] = v at hc h0
    cases v with
    | int k n => obtain ⟨rfl, _⟩ := hc; exact ⟨n, h0⟩
    | _ => exact hc.elim
  · obtain ⟨g, t, cs, fuel, p, hg, ht, hv, hd⟩ := Lib.laidMet.reads h (n := "strconv.ErrSyntax") (d := Rows.laid_strconv_ErrSyntax) (by unfold laidI Rows.isaListsRow; simp)
    obtain rfl := Option.some.inj ((show Tryd.prog.globalNamed "strconv.ErrSyntax" = some 5 by kernel_rfl).symm.trans hg)
    obtain rfl := Option.some.inj ((show (Tryd.prog.globals[5]?).map (·.type) = some 96 by kernel_rfl).symm.trans ht)
    have hc := World.var?_cell hg hv 0
    rcases trod_iface_form Tryd.underlying96 hd with e | ⟨u, v, e⟩
    · exact ⟨.nilIface, by rw [hc, Array.eq_one_of_toList e]; rfl, .inl rfl⟩
    · exact ⟨.iface u v, by rw [hc, Array.eq_one_of_toList e]; rfl, .inr ⟨u, v, rfl⟩⟩
  · obtain ⟨g, t, cs, fuel, p, hg, ht, hv, hd⟩ := Lib.laidMet.reads h (n := "strconv.ErrRange") (d := Rows.laid_strconv_ErrRange) (by unfold laidI Rows.isaListsRow; simp)
    obtain rfl := Option.some.inj ((show Tryd.prog.globalNamed "strconv.ErrRange" = some 6 by kernel_rfl).symm.trans hg)
    obtain rfl := Option.some.inj ((show (Tryd.prog.globals[6]?).map (·.type) = some 96 by kernel_rfl).symm.trans ht)
    have hc := World.var?_cell hg hv 0
    rcases trod_iface_form Tryd.underlying96 hd with e | ⟨u, v, e⟩
    · exact ⟨.nilIface, by rw [hc, Array.eq_one_of_toList e]; rfl, .inl rfl⟩
    · exact ⟨.iface u v, by rw [hc, Array.eq_one_of_toList e]; rfl, .inr ⟨u, v, rfl⟩⟩
def putTab (t : Array Value) : Obj → Obj
  | .cells _ e fz => .cells t e fz
  | o => o
/-- The world that the door's own run leaves, with the one table laid of which it bears no text. -/
noncomputable def wit (os : Os) : World := { World.doorLaid Tryd.prog 4000 os with heap := (World.doorLaid Tryd.prog 4000 os).heap.modify 7 (putTab (Lib.firstTab.map (Value.int .u8)).toArray) }
theorem wit_met (os : Os) (args : Array Value) : laidMetH Tryd.prog laidI ((wit os).forCall (fun _ _ => 0) ⟨#[], args, []⟩).memory :=
  laidMetH_of_parts3 (fuel := 8) (laidMet_of_run' 8 (by kernel_rfl) (by kernel_rfl)) (by kernel_rfl) (by kernel_rfl)
end Go.Proofs.YtgldkmabhmlijaaDoor
