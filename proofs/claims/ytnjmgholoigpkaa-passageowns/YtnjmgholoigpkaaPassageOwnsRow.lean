/- PassageOwns (P7.1): for every thread, gate's label and category: where the labels are right, Own and Floor answer just what the document says; the law answers true; no condition beyond the rows own. -/
import Derived.Test.YtnjmgholoigpkaaRows
import Derived.Test.YtnjmgholoigpkaaGen
import Derived.WalkKit
import Derived.ProofKit
import Derived.OpenShut
import Derived.Deep.DeepHandedRow
import Derived.ChangeMaps5
import Derived.Lib.SmallJoins
import Derived.Deep.Slices
import Derived.Test.YtnjmgholoigpkaaMono
import Derived.Test.YtnjmgholoigpkaaOwnR
import Derived.Test.YtnjmgholoigpkaaRFlr
import Derived.Deep.Cut
import Derived.Test.YtnjmgholoigpkaaChecked
import Derived.LaidLaws
/- How what is handed in is read in memory, and what a law owes. -/
namespace Go.Proofs.Ytnjmgholoigpkaa
open Go.ChangeShapes Go.WideShapes Go.ChangeAt Go.RowKit

theorem int_range {n : Int} (h : (Lit.int .i64 n).wf = true) : -9223372036854775808 ≤ n ∧ n ≤ 9223372036854775807 := by
  simp [Lit.wf] at h
  exact ⟨Int.le_trans (by decide : (-9223372036854775808 : Int) ≤ IntKind.min .i64) h.1, Int.le_trans h.2 (by decide)⟩
theorem own : ownKnob Try.prog.godebug = none := by kernel_rfl
theorem cells24 : Try.prog.cellsOf 24 = 2 := by kernel_rfl
theorem cells30 : Try.prog.cellsOf 50 = 2 := by kernel_rfl
theorem cells22 : Try.prog.cellsOf 22 = 1 := by kernel_rfl
theorem cells3 : Try.prog.cellsOf 3 = 1 := by kernel_rfl
theorem laidOut : laidOutB Try.prog = true := by kernel_rfl
section
variable {H : Type} {enc : TypeId × Value → H}

/-- What is handed in reads as it did, wherever nothing old has turned. -/
theorem all_stay {W W' : World} (hb : Below W.heap.size W W') : ∀ {ts : List TypeId} {vs : List Value} {ds : List (DataW H)} {ps : List MemPlace} {sp : Nat → Bool}, (∀ t ∈ ts, Try.prog.readableRec t = true ∧ t < Try.prog.types.size) →
    DataW.TrodAll enc Try.prog W 0 (fun _ => true) true ts vs ds ps → (∀ x ∈ ps, x.block < W.heap.size) → (∀ x ∈ ps, sp x.block = true) → DataW.TrodAll enc Try.prog W' 0 sp true ts vs ds ps
  | [], _, _, _, _, _, h, _, _ => by
    obtain ⟨rfl, rfl, rfl⟩ := trodAll_nil h
    exact trodAll_mk0
  | t :: ts, _, _, _, _, hr, h, hlt, hsp => by
    obtain ⟨v, vs', d, ds', p, q, rfl, rfl, rfl, h0, h1⟩ := trodAll_cons h
    exact trodAll_cons_mk (WideElems.Trod_stays laidOut (hr t (List.mem_cons_self ..)).1 (hr t (List.mem_cons_self ..)).2 h0 (fun x hx => hb.same (hlt x (List.mem_append.2 (.inl hx)))) (fun x hx => hsp x (List.mem_append.2 (.inl hx))))
      (all_stay hb (fun u hu => hr u (List.mem_cons_of_mem _ hu)) h1 (fun x hx => hlt x (List.mem_append.2 (.inr hx))) (fun x hx => hsp x (List.mem_append.2 (.inr hx))))
theorem entry_open {W : World} {a : Addr} {n : Nat} {x : DataW H × List MemPlace} {cs : List Value} (hc : W.cells? 0 a 2 = some cs) (h : DataW.trod enc Try.prog W 0 (fun _ => true) true n 50 cs = some x) :
    ∃ c l : Int, W.cell? a = some (.int .i64 c) ∧ W.cell? (a.add 1) = some (.int .i64 l) := by
  obtain ⟨y0, y1, m, _, _, h0, h1⟩ := trod_struct2 Try.underlying50 h
  rw [cells3] at h0 h1
  obtain ⟨c, e0, _, _⟩ := DataW.trod_int Try.underlying3 h0
  obtain ⟨l, e1, _, _⟩ := DataW.trod_int Try.underlying3 h1
  obtain ⟨_, hlen, hcell⟩ := World.cells?_some hc
  match cs, hlen with
  | [c0, c1], _ =>
    simp at e0 e1
    subst e0 e1
    have k0 := hcell 0 (by decide)
    have k1 := hcell 1 (by decide)
    refine ⟨c, l, ?_, k1⟩
    simpa [Addr.add] using k0

theorem addr_at (b o j : Nat) : (⟨b, o, none⟩ : Addr).add j = ⟨b, o + j, none⟩ := by
  by_cases h : j = 0 <;> simp [Addr.add, h]
theorem spot_none {W : World} {a : Addr} {v : Value} (h : W.cell? a = some v) : a = ⟨a.block, a.off, none⟩ := by
  obtain ⟨b, o, s⟩ := a
  cases s with
  | none => rfl
  | some s => simp only [World.cell?] at h; split at h <;> simp at h

theorem slice_open {W : World} {n : Nat} {v : Value} {x : DataW H × List MemPlace} (h : DataW.trod enc Try.prog W 0 (fun _ => true) true n 22 [v] = some x) :
    ∃ (p : Option Addr) (cap : Nat) (xs : List (Int × Int)), v = .slice p xs.length cap ∧ CatsAt W p xs ∧ xs.length ≤ cap ∧ cap ≤ maxLen := by
  rcases Deep.open_slice Try.underlying22 h with ⟨hcs, _⟩ | ⟨a, len, cap, m, k, D, Pl, hcs, hb, hl, hm, hmm, _, hx⟩
  · simp only [List.cons.injEq, and_true] at hcs
    exact ⟨none, 0, [], hcs, fun j hj => by simp at hj, by simp, by unfold maxLen; omega⟩
  · simp only [List.cons.injEq, and_true] at hcs
    rw [if_pos rfl] at hmm
    subst hmm
    rw [cells30] at hx
    have hcell : ∀ i, i < len → ∃ y : Int × Int, W.cell? (a.add (i * 2)) = some (.int .i64 y.1) ∧ W.cell? ((a.add (i * 2)).add 1) = some (.int .i64 y.2) := fun i hi => by
      obtain ⟨cs', h1, h2⟩ := hx i (by omega)
      obtain ⟨c, l, e0, e1⟩ := entry_open h1 h2
      exact ⟨(c, l), e0, e1⟩
    obtain ⟨f, hf⟩ := Deep.choose_lt hcell
    refine ⟨some a, m, (List.range len).map f, by simpa using hcs, ?_, by simpa using hl, hm⟩
    intro j hj
    have hj' : j < len := by simpa using hj
    obtain ⟨e0, e1⟩ := hf j hj'
    have ha : a = ⟨a.block, a.off, none⟩ := by
      have hs := spot_none (hf 0 (by omega)).1
      simpa [Addr.add] using hs
    have hblk : a.block < W.heap.size := by
      obtain ⟨cs', h1, _⟩ := hx j (by omega)
      have := World.cells?_block h1 (by decide)
      obtain ⟨b, o, s⟩ := a
      simp only [Addr.add] at this
      split at this <;> simpa using this
    rw [ha] at e0 e1
    rw [addr_at, addr_at] at e1
    rw [addr_at] at e0
    refine ⟨a.block, a.off, by rw [← ha], hblk, ?_, ?_⟩
    · simpa using e0
    · simpa using e1

set_option maxRecDepth 100000 in
/-- A label that is handed in. -/
theorem label_open {W : World} {r : Reach} {b0 : Nat} {v : Value} {d : DataW H} {ps : List MemPlace} (hv : Value.okWide Try.prog W r b0 24 v) (h : DataW.Trod enc Try.prog W 0 (fun _ => true) true 24 v d ps) :
    ∃ (e : Int) (p : Option Addr) (cap : Nat) (xs : List (Int × Int)), v = .agg #[.int .i64 e, .slice p xs.length cap] ∧ CatsAt W p xs ∧ xs.length ≤ cap ∧ cap ≤ maxLen := by
  obtain ⟨c0, c1, y0, y1, n, rfl, _, _, h0, h1⟩ := Joins.open_agg2 Try.underlying24 (by kernel_rfl) cells24 hv h
  obtain ⟨e, he, _, _⟩ := DataW.trod_int Try.underlying3 h0
  simp only [List.cons.injEq, and_true] at he
  obtain ⟨p, cap, xs, rfl, hc, hl, hm⟩ := slice_open h1
  exact ⟨e, p, cap, xs, by rw [he], hc, hl, hm⟩
theorem label_cells {W : World} {n : Nat} {c0 c1 : Value} {x : DataW H × List MemPlace} (h : DataW.trod enc Try.prog W 0 (fun _ => true) true n 24 [c0, c1] = some x) :
    ∃ (e : Int) (p : Option Addr) (cap : Nat) (xs : List (Int × Int)), c0 = .int .i64 e ∧ c1 = .slice p xs.length cap ∧ CatsAt W p xs ∧ xs.length ≤ cap ∧ cap ≤ maxLen := by
  obtain ⟨y0, y1, m, _, _, h0, h1⟩ := trod_struct2 Try.underlying24 h
  rw [cells3] at h0
  rw [cells22] at h1
  obtain ⟨e, e0, _, _⟩ := DataW.trod_int Try.underlying3 h0
  simp at e0
  have h1' : DataW.trod enc Try.prog W 0 (fun _ => true) true m 22 [c1] = some y1 := by simpa using h1
  obtain ⟨p, cap, xs, e1, hc, hl, hm⟩ := slice_open h1'
  exact ⟨e, p, cap, xs, e0, e1, hc, hl, hm⟩
set_option maxRecDepth 100000 in
/-- A thread that is handed in: its label and its clearance. -/
theorem thread_open {W : World} {r : Reach} {b0 : Nat} {v : Value} {d : DataW H} {ps : List MemPlace} (hv : Value.okWide Try.prog W r b0 26 v) (h : DataW.Trod enc Try.prog W 0 (fun _ => true) true 26 v d ps) :
    ∃ (e : Int) (p : Option Addr) (cap : Nat) (xs : List (Int × Int)) (e' : Int) (p' : Option Addr) (cap' : Nat) (xs' : List (Int × Int)), v = .agg #[.int .i64 e, .slice p xs.length cap, .int .i64 e', .slice p' xs'.length cap'] ∧ CatsAt W p xs ∧ xs.length ≤ cap ∧ cap ≤ maxLen ∧ CatsAt W p' xs' ∧ xs'.length ≤ cap' ∧ cap' ≤ maxLen := by
  obtain ⟨cs, rfl, hsz⟩ := okWide_struct Try.underlying26 hv
  rw [show Try.prog.cellsOf 26 = 4 from by kernel_rfl] at hsz
  obtain ⟨l, rfl⟩ : ∃ l : List Value, cs = l.toArray := ⟨cs.toList, by simp⟩
  have hl : l.length = 4 := by simpa using hsz
  obtain ⟨fuel, hf⟩ := h
  match l, hl with
  | [c0, c1, c2, c3], _ =>
    obtain ⟨y0, y1, m, _, _, h0, h1⟩ := trod_struct2 Try.underlying26 hf
    rw [cells24] at h0 h1
    have h0' : DataW.trod enc Try.prog W 0 (fun _ => true) true m 24 [c0, c1] = some y0 := by simpa [Value.cells] using h0
    have h1' : DataW.trod enc Try.prog W 0 (fun _ => true) true m 24 [c2, c3] = some y1 := by simpa [Value.cells] using h1
    obtain ⟨e, p, cap, xs, rfl, rfl, hc, hl, hm⟩ := label_cells h0'
    obtain ⟨e', p', cap', xs', rfl, rfl, hc', hl', hm'⟩ := label_cells h1'
    exact ⟨e, p, cap, xs, e', p', cap', xs', rfl, hc, hl, hm, hc', hl', hm'⟩
end
/-- What a law owes: it answered true, and nothing old has turned. -/
theorem law_post {H : Type} {enc : TypeId × Value → H} {f : Func} {s : ChangeSpec} {W W' : World} {args : Array Value} {ds : List (DataW H)} {before : List MemPlace} (hres : f.resultTypes = #[4]) (hr : ∀ t ∈ f.params.toList, Try.prog.readableRec t = true ∧ t < Try.prog.types.size)
    (hv : s.vars = []) (hW : DataW.Whole enc Try.prog f.params.toList s.vars false W args.toList ds [] before) (hfr : (s.fn H (ds ++ [])).results = [.lit (.bool true)]) (hfa : (s.fn H (ds ++ [])).args = ds) (hfv : (s.fn H (ds ++ [])).vars = []) (hb : Below W.heap.size W W') :
    s.post enc Try.prog f false true false false W args (.bool true) W' := by
  have hlt := hW.lt
  have hW' := hW
  obtain ⟨p, q, hA, hV, rfl, _, _⟩ := hW
  have hq : q = [] := by rw [hv] at hV; exact (trodVars_none hV).2
  subst hq
  rw [List.append_nil] at hW' hlt
  have hold : ∀ x ∈ p, (fun b => decide (b < W.heap.size)) x.block = true := fun x hx => by simpa using hlt x hx
  refine ⟨ds, [], p, [], p, [], hW', ?_, ?_, ?_, hb.frame _, fun h => by cases h⟩
  · rw [hres, hfr]; exact trodAll_mk1 (shut_bool Try.underlying4 _)
  · rw [hfa]; exact all_stay hb hr hA hlt hold
  · rw [hfv, hv]; exact rfl
end Go.Proofs.Ytnjmgholoigpkaa
/- The same law, where an edge that binds nobody may point ahead. -/
namespace Go.Proofs.Ytnjmgholoigpkaa
open Go.RowKit Go.Sort
def backC (ops : Array Oper) : Bool := (List.range ops.size).all fun i => match ops[i]? with | some o => o.after.all (fun e => decide (e.on < i) || !Region.binds .any e) | none => true
theorem wp_region_monoG {P : Program} {l : List Oper} {id : Nat} {Q : Exit → Act → World → Prop} {a : Act} {w : World} (n : Nat) (G : Nat → Value → World → Prop)
    (hback : backC l.toArray = true) (hdst : dstB (l.take n).toArray a.tmps.size = true) (hn : n ≤ l.length)
    (hmono : ∀ k v W W', G k v W → Below W.heap.size W W' → G k v W')
    (hstep : ∀ (a' : Act) (W : World), Below w.heap.size w W → a'.tmps.size = a.tmps.size → (∀ k, (dsts (l.take n).toArray).contains k = false → a'.eval (.tmp k) = a.eval (.tmp k)) →
      ∀ (i : Nat) (o : Oper) (d : Nat), (l.take n)[i]? = some o → o.dst = some d →
      (∀ e ∈ o.after, Region.binds .any e = true → ∀ d', (l[e.on]?).bind (·.dst) = some d' → G d' (a'.eval (.tmp d')) W) →
      (Region.wanted o (yielded l.toArray a'.tmps) = false ∧ G d undef W) ∨
      (Region.wanted o (yielded l.toArray a'.tmps) = true ∧ ((∃ v W', (execOp a'.eval o).run P W = .ok (.value v) W' ∧ Below W.heap.size W W' ∧ G d v W') ∨
        (∃ f args, (execOp a'.eval o).run P W = .ok (.enter f args) W ∧ Calls P f args W fun e W' => ∃ v, e = .returned v ∧ Below W.heap.size W W' ∧ G d v W'))))
    (hend : ∀ a' W, Below w.heap.size w W → a'.tmps.size = a.tmps.size → a'.defers = a.defers → (∀ k, (dsts (l.take n).toArray).contains k = false → a'.eval (.tmp k) = a.eval (.tmp k)) →
      (∀ (i d : Nat), i < n → (l[i]?).bind (·.dst) = some d → G d (a'.eval (.tmp d)) W) → wpList P l.toArray Q (l.drop n) a' W) : (Code.region id l.toArray false).wp P Q a w := by
  refine wp_region_list ?_
  have main : ∀ (f i : Nat) (a' : Act) (W : World), i + f = n → Below w.heap.size w W → a'.tmps.size = a.tmps.size → a'.defers = a.defers → (∀ k, (dsts (l.take n).toArray).contains k = false → a'.eval (.tmp k) = a.eval (.tmp k)) →
      (∀ (j d : Nat), j < i → (l[j]?).bind (·.dst) = some d → G d (a'.eval (.tmp d)) W) → wpList P l.toArray Q (l.drop i) a' W := by
    intro f
    induction f with
    | zero =>
      intro i a' W hi hB hs hdf hk hG
      obtain rfl : i = n := by omega
      exact hend a' W hB hs hdf hk hG
    | succ f ih =>
      intro i a' W hi hB hs hdf hk hG
      have hin : i < n := by omega
      have hil : i < l.length := by omega
      have ho : l[i]? = some l[i] := List.getElem?_eq_getElem hil
      rw [List.drop_eq_getElem_cons hil]
      generalize l[i] = o at ho ⊢
      have ho' : (l.take n)[i]? = some o := by rw [List.getElem?_take_of_lt hin]; exact ho
      have hoa : (l.take n).toArray[i]? = some o := by simpa using ho'
      obtain ⟨d, hdo, hdn⟩ := dst_of hdst hoa
      have next : ∀ (v : Value) (W' : World), Below W.heap.size W W' → G d v W' → wpList P l.toArray Q (l.drop (i + 1)) (a'.put o.dst v) W' := by
        intro v W' hb hv
        rw [hdo]
        refine ih (i + 1) _ _ (by omega) (hB.trans (hb.mono hB.size)) (by simp only [Act.put]; rw [Array.size_setIfInBounds]; exact hs) (by simp only [Act.put]; exact hdf) ?_ ?_
        · intro k hkn
          rw [put_ne a' v (fun e => by rw [e, List.contains_iff_mem.2 (mem_dsts hoa hdo)] at hkn; cases hkn)]
          exact hk k hkn
        · intro j dj hj hdj
          by_cases hij : j = i
          · subst hij
            rw [ho] at hdj
            have : d = dj := Option.some.inj (hdo.symm.trans hdj)
            subst this
            rw [put_eq a' v (by rw [hs]; exact hdn)]
            exact hv
          · have hji : j < i := by omega
            have hne : dj ≠ d := by
              intro e
              subst e
              cases hoj : l[j]? with
              | none => rw [hoj] at hdj; cases hdj
              | some o' =>
                rw [hoj] at hdj
                exact hij (dst_inj hdst (show (l.take n).toArray[j]? = some o' from by simp [List.getElem?_take_of_lt (show j < n by omega), hoj]) hoa hdj hdo)
            rw [put_ne a' v hne]
            exact hmono _ _ _ _ (hG j dj hji hdj) hb
      have hdeps : ∀ e ∈ o.after, Region.binds .any e = true → ∀ d', (l[e.on]?).bind (·.dst) = some d' → G d' (a'.eval (.tmp d')) W := by
        intro e he hbd d' hd'
        have hlt : e.on < i := by
          have h1 := List.all_eq_true.1 hback i (List.mem_range.2 (by simpa using hil))
          rw [show l.toArray[i]? = some o from by simpa using ho] at h1
          have := Array.all_eq_true_iff_forall_mem.1 h1 e he
          rw [hbd] at this
          simpa using this
        exact hG e.on d' hlt hd'
      unfold wpList
      rcases hstep a' W hB hs hk i o d ho' hdo hdeps with ⟨hw, hg⟩ | ⟨hw, h2⟩
      · simp only [hw, Bool.false_eq_true, if_false]
        exact next undef W (Below.refl _ _) hg
      · simp only [hw, if_true]
        refine .inl ?_
        unfold Oper.wp
        rcases h2 with ⟨v, w', hr, hb, hI⟩ | ⟨f', args, hr, hc'⟩
        · rw [hr]; exact next v w' hb hI
        · rw [hr]
          exact hc'.mono fun e w'' ⟨v, he, hb, hI⟩ => by subst he; exact next v w'' hb hI
  exact main n 0 a w (by omega) (Below.refl _ _) rfl rfl (fun _ _ => rfl) (fun j d hj => absurd hj (by omega))
end Go.Proofs.Ytnjmgholoigpkaa
/- Own and Floor: both ways come to the same. -/
namespace Go.Proofs.Ytnjmgholoigpkaa
open Go.RowKit Go.Sort
theorem nmB_iff {l : ML} {cat : Int} : nmB l cat = true ↔ cat ∈ catL l := by
  unfold nmB namL
  rw [List.any_eq_true]
  constructor
  · rintro ⟨x, hx, he⟩
    have hx' : x ∈ catL l := by simpa using hx
    have : cat = x := by simpa using he
    rw [this]; exact hx'
  · intro h
    exact ⟨cat, by simpa using h, by simp⟩
theorem ins_mem {c z : Int} {cs : List Int} (h : z ∈ ins c cs) : z = c ∨ z ∈ cs := by
  unfold ins at h
  split at h
  · exact .inr h
  · rw [List.append_assoc, List.mem_append] at h
    rcases h with h | h
    · exact .inr (List.mem_of_mem_take h)
    · rcases List.mem_append.1 h with h | h
      · exact .inl (List.mem_singleton.1 h)
      · exact .inr (List.mem_of_mem_drop h)
theorem insAll_mem {z : Int} : ∀ (xs : List (Int × Int)) {cs : List Int}, z ∈ insAll xs cs → z ∈ xs.map (·.1) ∨ z ∈ cs
  | [], _, h => .inr h
  | x :: xs, cs, h => by
    have h' : z ∈ insAll xs (ins x.1 cs) := h
    rcases insAll_mem xs h' with h1 | h1
    · exact .inl (List.mem_cons_of_mem _ h1)
    · rcases ins_mem h1 with h2 | h2
      · exact .inl (by rw [h2]; exact List.mem_cons_self ..)
      · exact .inr h2
theorem nm2_mem {a b : ML} {z : Int} : z ∈ nmM [a, b] ↔ z ∈ catL a ∨ z ∈ catL b := by
  constructor
  · intro h
    have h' : z ∈ insAll b.2 (insAll a.2 []) := h
    rcases insAll_mem _ h' with h1 | h1
    · exact .inr h1
    · rcases insAll_mem _ h1 with h2 | h2
      · exact .inl h2
      · simp at h2
  · intro h
    apply Classical.byContradiction
    intro hn
    have m1 : a ∈ [a, b] := List.mem_cons_self ..
    have m2 : b ∈ [a, b] := List.mem_cons_of_mem _ (List.mem_cons_self ..)
    rcases h with h | h
    · exact nm_mem m1 hn h
    · exact nm_mem m2 hn h
theorem nm2_any {a b : ML} {cat : Int} : ((nmM [a, b]).any fun y => y == cat) = true ↔ nmB a cat = true ∨ nmB b cat = true := by
  rw [nmB_iff, nmB_iff, ← nm2_mem, List.any_eq_true]
  constructor
  · rintro ⟨x, hx, he⟩
    have : x = cat := by simpa using he
    rw [← this]; exact hx
  · intro h; exact ⟨cat, h, by simp⟩
theorem cat_can {l : ML} (h : rightM l = true) {c : Int} (hc : c ∈ catL l) : isCt c = true := by
  unfold catL at hc
  obtain ⟨y, hy, rfl⟩ := List.mem_map.1 hc
  have := right_can h y hy
  unfold can at this
  rw [Bool.and_eq_true] at this
  exact this.1
theorem wX_no {l : ML} {cat lv : Int} (h : isCt cat = false) : wX l cat lv = 1 := by
  unfold wX wE wOk can
  rw [h]; rfl
theorem wX_yes {l : ML} {cat lv : Int} (h : isCt cat = true) (hl : lev lv = true) : wX l cat lv = 0 ∨ wX l cat lv = 7 := by
  unfold wX wE wOk can
  rw [h, hl]
  simp only [Bool.and_self, if_true]
  unfold fitE
  split
  · exact .inl rfl
  · exact .inr rfl
theorem own_eq {t c : ML} (rt : rightM t = true) (rc : rightM c = true) (cat : Int) : ownM t c cat = rownM t c cat := by
  unfold ownM rownM
  by_cases hct : isCt cat = true
  · rw [if_pos hct]
    by_cases h1 : nmB t cat = true
    · rw [if_pos h1, if_pos (nm2_any.2 (.inl h1))]
    · rw [if_neg h1]
      by_cases h2 : nmB c cat = true
      · rw [if_pos h2, if_pos (nm2_any.2 (.inr h2))]
      · rw [if_neg h2, if_neg (fun h => (nm2_any.1 h).elim h1 h2)]
        rcases wX_yes (l := t) (lv := 0) hct (by decide) with e1 | e1
        · rw [e1]
          rcases wX_yes (l := c) (lv := 4) hct (by decide) with e2 | e2
          · rw [e2]; rfl
          · rw [e2]; rfl
        · rw [e1]; rfl
  · have hf : isCt cat = false := by simpa using hct
    rw [if_neg hct]
    have h1 : ¬ nmB t cat = true := fun h => by rw [cat_can rt (nmB_iff.1 h)] at hf; cases hf
    have h2 : ¬ nmB c cat = true := fun h => by rw [cat_can rc (nmB_iff.1 h)] at hf; cases hf
    rw [if_neg h1, if_neg h2, wX_no hf]; rfl
/- Floor. -/
theorem fl_flZ {t g : ML} (ht : OkL t) (hg : OkL g) (c : Int) : fl t g c = flZ t g c := by rw [fl_at ht hg, flZ_eq ht hg]
theorem fU_rng {t g : ML} (ht : OkL t) (hg : OkL g) (c : Int) : 1 ≤ fU t g c ∧ fU t g c ≤ 5 := by
  unfold fU
  rw [aZ_at ht.up, aZ_at hg.up, aM_up ht, aM_up hg]
  have h1 := ht.lo c
  have h2 := hg.lo c
  unfold ot
  split <;> split <;> simp_all <;> omega
theorem flZ_fU {t g : ML} (ht : OkL t) (hg : OkL g) (c : Int) : flZ t g c = flo (fU t g c) := by
  rw [flZ_eq ht hg]
  unfold fU
  rw [aZ_at ht.up, aZ_at hg.up, aM_up ht, aM_up hg]
theorem flo_inj {x y : Int} (hx : 1 ≤ x ∧ x ≤ 5) (hy : 1 ≤ y ∧ y ≤ 5) : (flo x != flo y) = (x != y) := by
  have hx' : x = 1 ∨ x = 2 ∨ x = 3 ∨ x = 4 ∨ x = 5 := by omega
  have hy' : y = 1 ∨ y = 2 ∨ y = 3 ∨ y = 4 ∨ y = 5 := by omega
  rcases hx' with rfl | rfl | rfl | rfl | rfl <;> rcases hy' with rfl | rfl | rfl | rfl | rfl <;> decide
theorem short_len {f h : Int → Int} {d e : Int} (hq : ∀ c, (f c != d) = (h c != e)) : ∀ cs : List Int, (shortS d (rowS f cs)).length = (shortS e (rowS h cs)).length
  | [] => rfl
  | c :: cs => by
    have ih := short_len hq cs
    unfold shortS rowS at ih ⊢
    rw [List.map_cons, List.map_cons, List.filter_cons, List.filter_cons]
    simp only [hq c]
    split
    · simp only [List.length_cons]; rw [ih]
    · exact ih
theorem up_ou {t g : ML} (ht : OkL t) (hg : OkL g) (cs : List Int) : (ouR t g cs).length = (upR t g cs).length := by
  unfold ouR upR
  exact short_len (fun c => by rw [flZ_fU ht hg, flZ_fU ht hg]; exact flo_inj (fU_rng ht hg c) (fU_rng ht hg 0)) cs
theorem fold_map (f : Int → Int) : ∀ (cs out : List Int), insAll (rowS f cs) out = cs.foldl (fun o c => ins c o) out
  | [], _ => rfl
  | c :: cs, out => fold_map f cs (ins c out)
theorem insAll_cats : ∀ (xs : List (Int × Int)) (out : List Int), insAll xs out = (xs.map (·.1)).foldl (fun o c => ins c o) out
  | [], _ => rfl
  | x :: xs, out => insAll_cats xs (ins x.1 out)
theorem named_row (d : Int) (f : Int → Int) (t g : ML) : namedS [allLab d (rowS f (namL [t, g]))] = nmM [t, g] := by
  show insAll (rowS f (namL [t, g])) [] = insAll g.2 (insAll t.2 [])
  rw [fold_map, insAll_cats t.2, insAll_cats g.2, ← List.foldl_append]
  congr 1
  simp [namL, catL]
theorem row_at {d : Int} {f : Int → Int} {cs : List Int} {c : Int} (hc : c ∈ cs) : atS d (rowS f cs) c = f c := by
  obtain ⟨y, hy, h1, h2⟩ := at_first (d := d) (c := c) (xs := rowS f cs) ⟨(c, f c), List.mem_map.2 ⟨c, hc, rfl⟩, rfl⟩
  rw [h2]
  unfold rowS at hy
  obtain ⟨z, _, rfl⟩ := List.mem_map.1 hy
  simp only at h1
  rw [h1]
theorem no_clash (f : Int → Int) (cs : List Int) : ¬ clT (rowS f cs) (rowS f cs).length = true := by
  rw [clT_clash]
  rintro ⟨x, hx, y, hy, h1, h2⟩
  unfold rowS at hx hy
  obtain ⟨a, _, rfl⟩ := List.mem_map.1 hx
  obtain ⟨b, _, rfl⟩ := List.mem_map.1 hy
  simp only at h1 h2
  rw [h1] at h2
  exact h2 rfl
theorem make_row {t g : ML} (rt : rightM t = true) (rg : rightM g = true) : rmakeS (fl t g 0) (flX t g (namL [t, g])) = ouR t g (nmM [t, g]) := by
  have ht := okL rt
  have hg := okL rg
  unfold rmakeS flX ouR
  rw [named_row, fl_flZ ht hg]
  congr 1
  unfold rowS
  apply List.map_congr_left
  intro c hc
  have hcn : c ∈ namL [t, g] := by
    rcases nm2_mem.1 hc with h | h
    · exact List.mem_flatMap.2 ⟨t, List.mem_cons_self .., h⟩
    · exact List.mem_flatMap.2 ⟨g, List.mem_cons_of_mem _ (List.mem_cons_self ..), h⟩
  have e := row_at (d := flZ t g 0) (f := fl t g) hcn
  unfold rowS at e
  rw [e, fl_flZ ht hg]
theorem floor_eq {t g : ML} (rt : rightM t = true) (rg : rightM g = true) : floM t g = rfloM t g ∧ floE t g = rfloE t g := by
  have ht := okL rt
  have hg := okL rg
  have hcan := fl_can rt rg
  have hcl : ¬ clT (flX t g (namL [t, g])) (flX t g (namL [t, g])).length = true := no_clash _ _
  have hcan' : ¬ ((flX t g (namL [t, g])).any fun x => !can x) = true := by rw [hcan]; decide
  have hm := make_row rt rg
  have hl := up_ou ht hg (nmM [t, g])
  unfold floM floE rfloM rfloE rkD rkL rkE
  rw [if_neg hcan', if_neg hcan', if_neg hcan', if_neg hcl, if_neg hcl, if_neg hcl, hm]
  unfold fitD fitL fitE
  rw [← hl, fl_flZ ht hg]
  constructor
  · split <;> rfl
  · rfl
end Go.Proofs.Ytnjmgholoigpkaa
/- PassageOwns: the walk of the statement. -/
namespace Go.Proofs.Ytnjmgholoigpkaa
open Go.RowKit Go.Sort
theorem ent_passage_Own : Enters 19 := fun args W => by go_simp
theorem ent_gatehouseref07_Own : Enters 20 := fun args W => by go_simp
theorem ent_passage_Floor : Enters 21 := fun args W => by go_simp
theorem ent_gatehouseref07_Floor : Enters 22 := fun args W => by go_simp
theorem ent_gatehouseref01_Same : Enters 23 := fun args W => by go_simp
theorem Same_g {a b : ML} {v u : Value} {W : World} (h : LVg a v W) (h' : LVg b u W) : Calls Try.prog 23 #[v, u] W fun e W' => ∃ v', e = .returned v' ∧ Below W.heap.size W W' ∧ v' = .bool (sameS a.1 b.1 a.2 b.2) := by
  obtain ⟨p, cap, rfl, h1, h2, h3⟩ := h
  obtain ⟨p', cap', rfl, h1', h2', h3'⟩ := h'
  refine (Same_any a.1 b.1 p p' cap cap' a.2 b.2 W h3 h3' h1 h1').mono ?_
  rintro e W' ⟨rfl, hb⟩
  exact ⟨_, rfl, hb, rfl⟩
theorem same_self (a : ML) : sameS a.1 a.1 a.2 a.2 = true := by simp [sameS]
/-- Two labels and an error, as one answer; one label and an error. -/
def T3V (a b : ML) (e : Int) (v : Value) (W : World) : Prop := ∃ x y, v = .tuple #[x, y, .int .i64 e] ∧ LVg a x W ∧ LVg b y W
def T2V (a : ML) (e : Int) (v : Value) (W : World) : Prop := ∃ x, v = .tuple #[x, .int .i64 e] ∧ LVg a x W
theorem T3V.below {a b : ML} {e : Int} {v : Value} {W W' : World} (h : T3V a b e v W) (hb : Below W.heap.size W W') : T3V a b e v W' := by
  obtain ⟨x, y, h1, h2, h3⟩ := h
  exact ⟨x, y, h1, h2.below hb, h3.below hb⟩
theorem T2V.below {a : ML} {e : Int} {v : Value} {W W' : World} (h : T2V a e v W) (hb : Below W.heap.size W W') : T2V a e v W' := by
  obtain ⟨x, h1, h2⟩ := h
  exact ⟨x, h1, h2.below hb⟩
theorem RV.g {B : Nat} {l : ML} {v : Value} {W : World} (h : RV B l v W) (hl : l.2.length ≤ 16) : LVg l v W := by
  obtain ⟨p, cap, h1, h2, h3⟩ := h.form
  exact ⟨p, cap, h1, h2, h3, by unfold maxLen; omega⟩
theorem own_len (t c : ML) (cat : Int) : (ownM t c cat).1.2.length ≤ 16 ∧ (ownM t c cat).2.1.2.length ≤ 16 := by
  unfold ownM
  split
  · exact ⟨by simp, by simp⟩
  · split
    · exact ⟨by simp, by simp⟩
    · split
      · exact ⟨by simp, by simp⟩
      · split
        · exact ⟨by simp, by simp⟩
        · exact ⟨wM_len _ _ _, wM_len _ _ _⟩
theorem flo_len (t g : ML) : (floM t g).2.length ≤ 16 := by
  show (rkL _ _).length ≤ 16
  unfold rkL
  split
  · simp
  · split
    · simp
    · unfold fitL; split <;> simp_all
theorem Own_t {t c oa ob : ML} {oe cat : Int} {v u z : Value} {W : World} (rt : rightM t = true) (rc : rightM c = true) (ho : ownM t c cat = (oa, ob, oe)) (h : LV t v W) (h' : LV c u W) (hz : z = .int .i64 cat) :
    Calls Try.prog 19 #[v, u, z] W fun e W' => ∃ v', e = .returned v' ∧ Below W.heap.size W W' ∧ T3V oa ob oe v' W' := by
  subst hz
  have hl := own_len t c cat
  refine (Own_c (cat := cat) h h' rt rc).mono ?_
  rw [ho] at hl ⊢
  rintro e W' ⟨x, y, rfl, hb, hx, hy⟩
  exact ⟨_, rfl, hb, x, y, rfl, hx.g hl.1, hy.g hl.2⟩
theorem rOwn_t {t c oa ob : ML} {oe cat : Int} {v u z : Value} {W : World} (rt : rightM t = true) (rc : rightM c = true) (ho : ownM t c cat = (oa, ob, oe)) (h : LV t v W) (h' : LV c u W) (hz : z = .int .i64 cat) :
    Calls Try.prog 20 #[v, u, z] W fun e W' => ∃ v', e = .returned v' ∧ Below W.heap.size W W' ∧ T3V oa ob oe v' W' := by
  subst hz
  have hl := own_len t c cat
  refine (rOwn_c (cat := cat) h h').mono ?_
  rw [← own_eq rt rc, ho]
  rw [ho] at hl
  rintro e W' ⟨x, y, rfl, hb, hx, hy⟩
  exact ⟨_, rfl, hb, x, y, rfl, hx.g hl.1, hy.g hl.2⟩
theorem Floor_t {t g fa : ML} {fe : Int} {v u : Value} {W : World} (rt : rightM t = true) (rg : rightM g = true) (hf : floM t g = fa) (hfe : floE t g = fe) (h : LV t v W) (h' : LV g u W) :
    Calls Try.prog 21 #[v, u] W fun e W' => ∃ v', e = .returned v' ∧ Below W.heap.size W W' ∧ T2V fa fe v' W' := by
  have hl := flo_len t g
  refine (Floor_c h h' rt rg).mono ?_
  rw [hf] at hl ⊢
  rw [hfe]
  rintro e W' ⟨x, rfl, hb, hx⟩
  exact ⟨_, rfl, hb, x, rfl, hx.g hl⟩
theorem rFloor_t {t g fa : ML} {fe : Int} {v u : Value} {W : World} (rt : rightM t = true) (rg : rightM g = true) (hf : floM t g = fa) (hfe : floE t g = fe) (h : LV t v W) (h' : LV g u W) :
    Calls Try.prog 22 #[v, u] W fun e W' => ∃ v', e = .returned v' ∧ Below W.heap.size W W' ∧ T2V fa fe v' W' := by
  have hl := flo_len t g
  refine (rFloor_c h h').mono ?_
  rw [← (floor_eq rt rg).1, ← (floor_eq rt rg).2, hf, hfe]
  rw [hf] at hl
  rintro e W' ⟨x, rfl, hb, hx⟩
  exact ⟨_, rfl, hb, x, rfl, hx.g hl⟩
theorem lbg_new {l : ML} {p : Option Addr} {cap : Nat} {W W' : World} {b : Nat} (hb : b < W'.heap.size) (h0 : W'.cell? ⟨b, 0, none⟩ = some (.int .i64 l.1)) (h1 : W'.cell? ⟨b, 1, none⟩ = some (.slice p l.2.length cap)) (hc : CatsAt W p l.2) (hbl : Below W.heap.size W W') (h2 : l.2.length ≤ cap) (h3 : l.2.length ≤ maxLen) : LBg l W' b 0 :=
  ⟨p, cap, hb, h0, h1, hc.below hbl, h2, h3⟩
set_option maxRecDepth 100000 in
set_option maxHeartbeats 2000000 in
theorem PassageOwns_any (t tc g : ML) (cat : Int) (pt ptc pg : Option Addr) (ct ctc cg : Nat) (w : World) (ht : CatsAt w pt t.2) (lt : t.2.length ≤ ct) (mt : t.2.length ≤ maxLen) (htc : CatsAt w ptc tc.2) (ltc : tc.2.length ≤ ctc) (mtc : tc.2.length ≤ maxLen) (hg : CatsAt w pg g.2) (lg : g.2.length ≤ cg) (mg : g.2.length ≤ maxLen) :
    Calls Try.prog 5 #[.agg #[.int .i64 t.1, .slice pt t.2.length ct, .int .i64 tc.1, .slice ptc tc.2.length ctc], .agg #[.int .i64 g.1, .slice pg g.2.length cg], .int .i64 cat] w fun e w' => e = .returned (.bool true) ∧ Below w.heap.size w w' := by
  obtain ⟨W0, hW0⟩ : ∃ W0, W0 = ((w.alloc (.cells #[.int .i64 t.1, .slice pt t.2.length ct, .int .i64 tc.1, .slice ptc tc.2.length ctc] 26)).alloc (.cells #[.int .i64 g.1, .slice pg g.2.length cg] 24)) := ⟨_, rfl⟩
  have hA : Below w.heap.size w W0 := by rw [hW0]; go_grown
  have hbt : LBg t W0 (w.heap.size) 0 := ⟨pt, ct, by rw [hW0]; simp <;> omega, by rw [hW0]; simp [go_sem], by rw [hW0]; simp [go_sem], ht.below hA, lt, mt⟩
  have hbtc : LBg tc W0 (w.heap.size) 2 := ⟨ptc, ctc, by rw [hW0]; simp <;> omega, by rw [hW0]; simp [go_sem], by rw [hW0]; simp [go_sem], htc.below hA, ltc, mtc⟩
  have hbg : LBg g W0 (w.heap.size + 1) 0 := ⟨pg, cg, by rw [hW0]; simp <;> omega, by rw [hW0]; simp [go_sem], by rw [hW0]; simp [go_sem], hg.below hA, lg, mg⟩
  go_enter Try.func5, Try.ntmps5
  go_upto_region 3 with (go_at_call 9; rw [← hW0]; refine (lives_c _).mono ?_; rintro e w1 ⟨rfl, hb1⟩)
  have hct := hbt.below hb1
  have hctc := hbtc.below hb1
  have hcg := hbg.below hb1
  have hA1 : Below w.heap.size w w1 := hA.trans (hb1.mono hA.size)
  refine wp_region_monoF 8 (fun kq v W => match kq with | 19 => v = .pointer (some ⟨w.heap.size, 0, none⟩) | 20 => LVg t v W | 21 => v = .pointer (some ⟨w.heap.size, 2, none⟩) | 22 => LVg tc v W | 23 => LVg g v W | 24 => LsVg [t, tc, g] v W | 25 => v = .bool ([t, tc, g].all rightM) | 26 => v = .bool (!([t, tc, g].all rightM)) | _ => True) (by kernel_rfl) (by kernel_rfl) (by simp) ?_ ?_ ?_
  · intro kq v W W' h hb
    revert h
    try dsimp only
    split
    · intro h; exact h
    · intro h; exact LVg.below h hb
    · intro h; exact h
    · intro h; exact LVg.below h hb
    · intro h; exact LVg.below h hb
    · intro h; exact LsVg.below h hb
    · intro h; exact h
    · intro h; exact h
    · intro h; trivial
  · intro a' W hB hs hk i o d ho hd hG
    match i, ho with
    | 0, ho =>
      obtain rfl : _ = o := Option.some.inj ho
      obtain rfl : 19 = d := Option.some.inj hd
      exact .inr ⟨rfl, .inl ⟨_, W, run_fa0 (hk 3 (by kernel_rfl)), Below.refl _ _, rfl⟩⟩
    | 1, ho =>
      obtain rfl : _ = o := Option.some.inj ho
      obtain rfl : 20 = d := Option.some.inj hd
      have g19 : (a'.eval (.tmp 19)) = .pointer (some ⟨w.heap.size, 0, none⟩) := hG ⟨0, .data⟩ (by simp) rfl 19 rfl
      obtain ⟨v, hr, hv⟩ := run_loadLg (ev := a'.eval) (W := W) g19 (hct.below hB)
      exact .inr ⟨rfl, .inl ⟨v, W, hr, Below.refl _ _, hv⟩⟩
    | 2, ho =>
      obtain rfl : _ = o := Option.some.inj ho
      obtain rfl : 21 = d := Option.some.inj hd
      exact .inr ⟨rfl, .inl ⟨_, W, run_fa1 (hk 3 (by kernel_rfl)), Below.refl _ _, rfl⟩⟩
    | 3, ho =>
      obtain rfl : _ = o := Option.some.inj ho
      obtain rfl : 22 = d := Option.some.inj hd
      have g21 : (a'.eval (.tmp 21)) = .pointer (some ⟨w.heap.size, 2, none⟩) := hG ⟨2, .data⟩ (by simp) rfl 21 rfl
      obtain ⟨v, hr, hv⟩ := run_loadLg (ev := a'.eval) (W := W) g21 (hctc.below hB)
      exact .inr ⟨rfl, .inl ⟨v, W, hr, Below.refl _ _, hv⟩⟩
    | 4, ho =>
      obtain rfl : _ = o := Option.some.inj ho
      obtain rfl : 23 = d := Option.some.inj hd
      obtain ⟨v, hr, hv⟩ := run_loadLg (ev := a'.eval) (W := W) (hk 4 (by kernel_rfl)) (hcg.below hB)
      exact .inr ⟨rfl, .inl ⟨v, W, hr, Below.refl _ _, hv⟩⟩
    | 5, ho =>
      obtain rfl : _ = o := Option.some.inj ho
      obtain rfl : 24 = d := Option.some.inj hd
      have g20 : LVg t (a'.eval (.tmp 20)) W := hG ⟨1, .data⟩ (by simp) rfl 20 rfl
      have g22 : LVg tc (a'.eval (.tmp 22)) W := hG ⟨3, .data⟩ (by simp) rfl 22 rfl
      have g23 : LVg g (a'.eval (.tmp 23)) W := hG ⟨4, .data⟩ (by simp) rfl 23 rfl
      obtain ⟨v, W', hr, hb, hv⟩ := run_slice3g (ev := a'.eval) (W := W) rfl rfl rfl g20 g22 g23
      exact .inr ⟨rfl, .inl ⟨v, W', hr, hb, hv⟩⟩
    | 6, ho =>
      obtain rfl : _ = o := Option.some.inj ho
      obtain rfl : 25 = d := Option.some.inj hd
      have g24 : LsVg [t, tc, g] (a'.eval (.tmp 24)) W := hG ⟨5, .data⟩ (by simp) rfl 24 rfl
      exact .inr ⟨rfl, .inr ⟨_, _, run_call rfl map_1 ent_gatehouselaw07_right, right_c g24 (by simp)⟩⟩
    | 7, ho =>
      obtain rfl : _ = o := Option.some.inj ho
      obtain rfl : 26 = d := Option.some.inj hd
      have g25 : (a'.eval (.tmp 25)) = .bool ([t, tc, g].all rightM) := hG ⟨6, .data⟩ (by simp) rfl 25 rfl
      exact .inr ⟨rfl, .inl ⟨_, W, run_not g25, Below.refl _ _, rfl⟩⟩
    | j + 8, ho => simp at ho
  · intro a' W hB hs hdf hk hG
    obtain ⟨tm, df⟩ := a'
    obtain rfl : df = [] := hdf
    have e0 : tm.getD 0 undef = .agg #[.int .i64 t.fst, .slice pt t.snd.length ct, .int .i64 tc.fst, .slice ptc tc.snd.length ctc] := hk 0 (by kernel_rfl)
    have e1 : tm.getD 1 undef = .agg #[.int .i64 g.fst, .slice pg g.snd.length cg] := hk 1 (by kernel_rfl)
    have e2 : tm.getD 2 undef = .int .i64 cat := hk 2 (by kernel_rfl)
    have e3 : tm.getD 3 undef = .pointer (some ⟨w.heap.size, 0, none⟩) := hk 3 (by kernel_rfl)
    have e4 : tm.getD 4 undef = .pointer (some ⟨w.heap.size + 1, 0, none⟩) := hk 4 (by kernel_rfl)
    have e5 : tm.getD 5 undef = undef := hk 5 (by kernel_rfl)
    have e6 : tm.getD 6 undef = .bool false := hk 6 (by kernel_rfl)
    have e7 : tm.getD 7 undef = undef := hk 7 (by kernel_rfl)
    have e8 : tm.getD 8 undef = undef := hk 8 (by kernel_rfl)
    have e9 : tm.getD 9 undef = undef := hk 9 (by kernel_rfl)
    have e10 : tm.getD 10 undef = undef := hk 10 (by kernel_rfl)
    have e11 : tm.getD 11 undef = undef := hk 11 (by kernel_rfl)
    have e12 : tm.getD 12 undef = undef := hk 12 (by kernel_rfl)
    have e13 : tm.getD 13 undef = undef := hk 13 (by kernel_rfl)
    have e14 : tm.getD 14 undef = undef := hk 14 (by kernel_rfl)
    have e15 : tm.getD 15 undef = undef := hk 15 (by kernel_rfl)
    have e16 : tm.getD 16 undef = undef := hk 16 (by kernel_rfl)
    have e17 : tm.getD 17 undef = .bool true := hk 17 (by kernel_rfl)
    have e18 : tm.getD 18 undef = .bool false := hk 18 (by kernel_rfl)
    have e27 : tm.getD 27 undef = undef := hk 27 (by kernel_rfl)
    have e28 : tm.getD 28 undef = undef := hk 28 (by kernel_rfl)
    have e29 : tm.getD 29 undef = undef := hk 29 (by kernel_rfl)
    have e30 : tm.getD 30 undef = undef := hk 30 (by kernel_rfl)
    have e31 : tm.getD 31 undef = undef := hk 31 (by kernel_rfl)
    have e32 : tm.getD 32 undef = undef := hk 32 (by kernel_rfl)
    have e33 : tm.getD 33 undef = undef := hk 33 (by kernel_rfl)
    have e34 : tm.getD 34 undef = undef := hk 34 (by kernel_rfl)
    have e35 : tm.getD 35 undef = undef := hk 35 (by kernel_rfl)
    have e36 : tm.getD 36 undef = undef := hk 36 (by kernel_rfl)
    have e37 : tm.getD 37 undef = undef := hk 37 (by kernel_rfl)
    have e38 : tm.getD 38 undef = undef := hk 38 (by kernel_rfl)
    have e39 : tm.getD 39 undef = undef := hk 39 (by kernel_rfl)
    have e40 : tm.getD 40 undef = undef := hk 40 (by kernel_rfl)
    have e41 : tm.getD 41 undef = undef := hk 41 (by kernel_rfl)
    have e42 : tm.getD 42 undef = undef := hk 42 (by kernel_rfl)
    have e43 : tm.getD 43 undef = undef := hk 43 (by kernel_rfl)
    have e44 : tm.getD 44 undef = undef := hk 44 (by kernel_rfl)
    have e45 : tm.getD 45 undef = undef := hk 45 (by kernel_rfl)
    have e46 : tm.getD 46 undef = undef := hk 46 (by kernel_rfl)
    have e47 : tm.getD 47 undef = undef := hk 47 (by kernel_rfl)
    have e48 : tm.getD 48 undef = undef := hk 48 (by kernel_rfl)
    have e49 : tm.getD 49 undef = undef := hk 49 (by kernel_rfl)
    have e50 : tm.getD 50 undef = undef := hk 50 (by kernel_rfl)
    have e51 : tm.getD 51 undef = undef := hk 51 (by kernel_rfl)
    have e52 : tm.getD 52 undef = undef := hk 52 (by kernel_rfl)
    have e53 : tm.getD 53 undef = undef := hk 53 (by kernel_rfl)
    have e54 : tm.getD 54 undef = undef := hk 54 (by kernel_rfl)
    have e55 : tm.getD 55 undef = undef := hk 55 (by kernel_rfl)
    have e56 : tm.getD 56 undef = undef := hk 56 (by kernel_rfl)
    have e57 : tm.getD 57 undef = undef := hk 57 (by kernel_rfl)
    have e58 : tm.getD 58 undef = undef := hk 58 (by kernel_rfl)
    have e59 : tm.getD 59 undef = undef := hk 59 (by kernel_rfl)
    have e60 : tm.getD 60 undef = undef := hk 60 (by kernel_rfl)
    have e61 : tm.getD 61 undef = undef := hk 61 (by kernel_rfl)
    have e62 : tm.getD 62 undef = undef := hk 62 (by kernel_rfl)
    have e63 : tm.getD 63 undef = undef := hk 63 (by kernel_rfl)
    have e64 : tm.getD 64 undef = undef := hk 64 (by kernel_rfl)
    have e65 : tm.getD 65 undef = undef := hk 65 (by kernel_rfl)
    have e66 : tm.getD 66 undef = undef := hk 66 (by kernel_rfl)
    have e67 : tm.getD 67 undef = undef := hk 67 (by kernel_rfl)
    have e68 : tm.getD 68 undef = undef := hk 68 (by kernel_rfl)
    have e69 : tm.getD 69 undef = undef := hk 69 (by kernel_rfl)
    have e70 : tm.getD 70 undef = undef := hk 70 (by kernel_rfl)
    have e71 : tm.getD 71 undef = undef := hk 71 (by kernel_rfl)
    have e72 : tm.getD 72 undef = undef := hk 72 (by kernel_rfl)
    have e73 : tm.getD 73 undef = undef := hk 73 (by kernel_rfl)
    have e74 : tm.getD 74 undef = undef := hk 74 (by kernel_rfl)
    have e75 : tm.getD 75 undef = undef := hk 75 (by kernel_rfl)
    have e76 : tm.getD 76 undef = undef := hk 76 (by kernel_rfl)
    have e77 : tm.getD 77 undef = undef := hk 77 (by kernel_rfl)
    have e78 : tm.getD 78 undef = undef := hk 78 (by kernel_rfl)
    have e79 : tm.getD 79 undef = undef := hk 79 (by kernel_rfl)
    have e80 : tm.getD 80 undef = undef := hk 80 (by kernel_rfl)
    have e81 : tm.getD 81 undef = undef := hk 81 (by kernel_rfl)
    have e82 : tm.getD 82 undef = undef := hk 82 (by kernel_rfl)
    have e83 : tm.getD 83 undef = undef := hk 83 (by kernel_rfl)
    have g19 : (tm.getD 19 undef) = .pointer (some ⟨w.heap.size, 0, none⟩) := hG 0 19 (by decide) rfl
    have g20 : LVg t (tm.getD 20 undef) W := hG 1 20 (by decide) rfl
    have g21 : (tm.getD 21 undef) = .pointer (some ⟨w.heap.size, 2, none⟩) := hG 2 21 (by decide) rfl
    have g22 : LVg tc (tm.getD 22 undef) W := hG 3 22 (by decide) rfl
    have g23 : LVg g (tm.getD 23 undef) W := hG 4 23 (by decide) rfl
    have g24 : LsVg [t, tc, g] (tm.getD 24 undef) W := hG 5 24 (by decide) rfl
    have g25 : (tm.getD 25 undef) = .bool ([t, tc, g].all rightM) := hG 6 25 (by decide) rfl
    have g26 : (tm.getD 26 undef) = .bool (!([t, tc, g].all rightM)) := hG 7 26 (by decide) rfl
    have htm := arr_of tm ((.agg #[.int .i64 t.fst, .slice pt t.snd.length ct, .int .i64 tc.fst, .slice ptc tc.snd.length ctc] : Value) :: (.agg #[.int .i64 g.fst, .slice pg g.snd.length cg] : Value) :: (.int .i64 cat : Value) :: (.pointer (some ⟨w.heap.size, 0, none⟩) : Value) :: (.pointer (some ⟨w.heap.size + 1, 0, none⟩) : Value) :: (undef : Value) :: (.bool false : Value) :: (undef : Value) :: (undef : Value) :: (undef : Value) :: (undef : Value) :: (undef : Value) :: (undef : Value) :: (undef : Value) :: (undef : Value) :: (undef : Value) :: (undef : Value) :: (.bool true : Value) :: (.bool false : Value) :: (tm.getD 19 undef : Value) :: (tm.getD 20 undef : Value) :: (tm.getD 21 undef : Value) :: (tm.getD 22 undef : Value) :: (tm.getD 23 undef : Value) :: (tm.getD 24 undef : Value) :: (tm.getD 25 undef : Value) :: (tm.getD 26 undef : Value) :: (undef : Value) :: (undef : Value) :: (undef : Value) :: (undef : Value) :: (undef : Value) :: (undef : Value) :: (undef : Value) :: (undef : Value) :: (undef : Value) :: (undef : Value) :: (undef : Value) :: (undef : Value) :: (undef : Value) :: (undef : Value) :: (undef : Value) :: (undef : Value) :: (undef : Value) :: (undef : Value) :: (undef : Value) :: (undef : Value) :: (undef : Value) :: (undef : Value) :: (undef : Value) :: (undef : Value) :: (undef : Value) :: (undef : Value) :: (undef : Value) :: (undef : Value) :: (undef : Value) :: (undef : Value) :: (undef : Value) :: (undef : Value) :: (undef : Value) :: (undef : Value) :: (undef : Value) :: (undef : Value) :: (undef : Value) :: (undef : Value) :: (undef : Value) :: (undef : Value) :: (undef : Value) :: (undef : Value) :: (undef : Value) :: (undef : Value) :: (undef : Value) :: (undef : Value) :: (undef : Value) :: (undef : Value) :: (undef : Value) :: (undef : Value) :: (undef : Value) :: (undef : Value) :: (undef : Value) :: (undef : Value) :: (undef : Value) :: (undef : Value) :: (undef : Value) :: []) hs (by show (tm.getD 0 undef :: tm.getD 1 undef :: tm.getD 2 undef :: tm.getD 3 undef :: tm.getD 4 undef :: tm.getD 5 undef :: tm.getD 6 undef :: tm.getD 7 undef :: tm.getD 8 undef :: tm.getD 9 undef :: tm.getD 10 undef :: tm.getD 11 undef :: tm.getD 12 undef :: tm.getD 13 undef :: tm.getD 14 undef :: tm.getD 15 undef :: tm.getD 16 undef :: tm.getD 17 undef :: tm.getD 18 undef :: tm.getD 19 undef :: tm.getD 20 undef :: tm.getD 21 undef :: tm.getD 22 undef :: tm.getD 23 undef :: tm.getD 24 undef :: tm.getD 25 undef :: tm.getD 26 undef :: tm.getD 27 undef :: tm.getD 28 undef :: tm.getD 29 undef :: tm.getD 30 undef :: tm.getD 31 undef :: tm.getD 32 undef :: tm.getD 33 undef :: tm.getD 34 undef :: tm.getD 35 undef :: tm.getD 36 undef :: tm.getD 37 undef :: tm.getD 38 undef :: tm.getD 39 undef :: tm.getD 40 undef :: tm.getD 41 undef :: tm.getD 42 undef :: tm.getD 43 undef :: tm.getD 44 undef :: tm.getD 45 undef :: tm.getD 46 undef :: tm.getD 47 undef :: tm.getD 48 undef :: tm.getD 49 undef :: tm.getD 50 undef :: tm.getD 51 undef :: tm.getD 52 undef :: tm.getD 53 undef :: tm.getD 54 undef :: tm.getD 55 undef :: tm.getD 56 undef :: tm.getD 57 undef :: tm.getD 58 undef :: tm.getD 59 undef :: tm.getD 60 undef :: tm.getD 61 undef :: tm.getD 62 undef :: tm.getD 63 undef :: tm.getD 64 undef :: tm.getD 65 undef :: tm.getD 66 undef :: tm.getD 67 undef :: tm.getD 68 undef :: tm.getD 69 undef :: tm.getD 70 undef :: tm.getD 71 undef :: tm.getD 72 undef :: tm.getD 73 undef :: tm.getD 74 undef :: tm.getD 75 undef :: tm.getD 76 undef :: tm.getD 77 undef :: tm.getD 78 undef :: tm.getD 79 undef :: tm.getD 80 undef :: tm.getD 81 undef :: tm.getD 82 undef :: tm.getD 83 undef :: []) = _; rw [e0, e1, e2, e3, e4, e5, e6, e7, e8, e9, e10, e11, e12, e13, e14, e15, e16, e17, e18, e27, e28, e29, e30, e31, e32, e33, e34, e35, e36, e37, e38, e39, e40, e41, e42, e43, e44, e45, e46, e47, e48, e49, e50, e51, e52, e53, e54, e55, e56, e57, e58, e59, e60, e61, e62, e63, e64, e65, e66, e67, e68, e69, e70, e71, e72, e73, e74, e75, e76, e77, e78, e79, e80, e81, e82, e83]; try rfl)
    clear hs hk hG e0 e1 e2 e3 e4 e5 e6 e7 e8 e9 e10 e11 e12 e13 e14 e15 e16 e17 e18 e27 e28 e29 e30 e31 e32 e33 e34 e35 e36 e37 e38 e39 e40 e41 e42 e43 e44 e45 e46 e47 e48 e49 e50 e51 e52 e53 e54 e55 e56 e57 e58 e59 e60 e61 e62 e63 e64 e65 e66 e67 e68 e69 e70 e71 e72 e73 e74 e75 e76 e77 e78 e79 e80 e81 e82 e83
    generalize tm.getD 19 undef = t19 at htm g19
    generalize tm.getD 20 undef = t20 at htm g20
    generalize tm.getD 21 undef = t21 at htm g21
    generalize tm.getD 22 undef = t22 at htm g22
    generalize tm.getD 23 undef = t23 at htm g23
    generalize tm.getD 24 undef = t24 at htm g24
    generalize tm.getD 25 undef = t25 at htm g25
    generalize tm.getD 26 undef = t26 at htm g26
    subst htm
    subst g19
    subst g21
    subst g25
    subst g26
    simp only [List.drop_succ_cons, List.drop_zero]
    have hA2 : Below w.heap.size w W := hA1.trans (hB.mono hA1.size)
    have hdt := hct.below hB
    have hdtc := hctc.below hB
    have hdg := hcg.below hB
    clear g20 g22 g23 g24
    obtain ⟨x0, hx⟩ : ∃ x0, ([t, tc, g].all rightM) = x0 := ⟨_, rfl⟩
    simp only [hx]
    cases x0 with
    | false =>
      clear hx
      go_wp2
      go_ret
      exact ⟨rfl, hA2⟩
    | true =>
      have hR : rightM t = true ∧ rightM tc = true ∧ rightM g = true := by simpa using hx
      obtain ⟨rt, rtc, rg⟩ := hR
      obtain ⟨oa, ob, oe, ho⟩ : ∃ oa ob oe, ownM t tc cat = (oa, ob, oe) := ⟨_, _, _, rfl⟩
      obtain ⟨fa, hfa⟩ : ∃ fa, floM t g = fa := ⟨_, rfl⟩
      obtain ⟨fe, hfe⟩ : ∃ fe, floE t g = fe := ⟨_, rfl⟩
      have HO1 : Hid (∀ v u z W, LV t v W → LV tc u W → z = .int .i64 cat → Calls Try.prog 19 #[v, u, z] W fun e W' => ∃ v', e = .returned v' ∧ Below W.heap.size W W' ∧ T3V oa ob oe v' W') := fun v u z W h h' hz => Own_t rt rtc ho h h' hz
      have HO2 : Hid (∀ v u z W, LV t v W → LV tc u W → z = .int .i64 cat → Calls Try.prog 20 #[v, u, z] W fun e W' => ∃ v', e = .returned v' ∧ Below W.heap.size W W' ∧ T3V oa ob oe v' W') := fun v u z W h h' hz => rOwn_t rt rtc ho h h' hz
      have HF1 : Hid (∀ v u W, LV t v W → LV g u W → Calls Try.prog 21 #[v, u] W fun e W' => ∃ v', e = .returned v' ∧ Below W.heap.size W W' ∧ T2V fa fe v' W') := fun v u W h h' => Floor_t rt rg hfa hfe h h'
      have HF2 : Hid (∀ v u W, LV t v W → LV g u W → Calls Try.prog 22 #[v, u] W fun e W' => ∃ v', e = .returned v' ∧ Below W.heap.size W W' ∧ T2V fa fe v' W') := fun v u W h h' => rFloor_t rt rg hfa hfe h h'
      have het := hdt.ok (right16 rt)
      have hetc := hdtc.ok (right16 rtc)
      have heg := hdg.ok (right16 rg)
      clear hx rt rtc rg ho hfa hfe hdt hdtc hdg
      go_upto_region 5 with fail
      refine wp_region_monoG 6 (fun kq v W => match kq with | 28 => v = .pointer (some ⟨w.heap.size, 0, none⟩) | 29 => LV t v W | 30 => v = .pointer (some ⟨w.heap.size, 2, none⟩) | 31 => LV tc v W | 32 => v = .int .i64 cat | 33 => (T3V oa ob oe) v W | _ => True) (by kernel_rfl) (by kernel_rfl) (by simp) ?_ ?_ ?_
      · intro kq v W W' h hb
        revert h
        try dsimp only
        split
        · intro h; exact h
        · intro h; exact LV.below h hb
        · intro h; exact h
        · intro h; exact LV.below h hb
        · intro h; exact h
        · intro h; exact T3V.below h hb
        · intro h; trivial
      · intro a' W hB hs hk i o d ho hd hG
        match i, ho with
        | 0, ho =>
          obtain rfl : _ = o := Option.some.inj ho
          obtain rfl : 28 = d := Option.some.inj hd
          exact .inr ⟨rfl, .inl ⟨_, W, run_fa0 (hk 3 (by kernel_rfl)), Below.refl _ _, rfl⟩⟩
        | 1, ho =>
          obtain rfl : _ = o := Option.some.inj ho
          obtain rfl : 29 = d := Option.some.inj hd
          have g28 : (a'.eval (.tmp 28)) = .pointer (some ⟨w.heap.size, 0, none⟩) := hG ⟨0, .data⟩ (by simp) rfl 28 rfl
          obtain ⟨v, hr, hv⟩ := run_loadL (ev := a'.eval) (W := W) g28 (het.below hB)
          exact .inr ⟨rfl, .inl ⟨v, W, hr, Below.refl _ _, hv⟩⟩
        | 2, ho =>
          obtain rfl : _ = o := Option.some.inj ho
          obtain rfl : 30 = d := Option.some.inj hd
          exact .inr ⟨rfl, .inl ⟨_, W, run_fa1 (hk 3 (by kernel_rfl)), Below.refl _ _, rfl⟩⟩
        | 3, ho =>
          obtain rfl : _ = o := Option.some.inj ho
          obtain rfl : 31 = d := Option.some.inj hd
          have g30 : (a'.eval (.tmp 30)) = .pointer (some ⟨w.heap.size, 2, none⟩) := hG ⟨2, .data⟩ (by simp) rfl 30 rfl
          obtain ⟨v, hr, hv⟩ := run_loadL (ev := a'.eval) (W := W) g30 (hetc.below hB)
          exact .inr ⟨rfl, .inl ⟨v, W, hr, Below.refl _ _, hv⟩⟩
        | 4, ho =>
          obtain rfl : _ = o := Option.some.inj ho
          obtain rfl : 32 = d := Option.some.inj hd
          exact .inr ⟨rfl, .inl ⟨_, W, run_move (hk 2 (by kernel_rfl)), Below.refl _ _, rfl⟩⟩
        | 5, ho =>
          obtain rfl : _ = o := Option.some.inj ho
          obtain rfl : 33 = d := Option.some.inj hd
          have g29 : LV t (a'.eval (.tmp 29)) W := hG ⟨1, .data⟩ (by simp) rfl 29 rfl
          have g31 : LV tc (a'.eval (.tmp 31)) W := hG ⟨3, .data⟩ (by simp) rfl 31 rfl
          have g32 : (a'.eval (.tmp 32)) = .int .i64 cat := hG ⟨4, .data⟩ (by simp) rfl 32 rfl
          exact .inr ⟨rfl, .inr ⟨_, _, run_call rfl map_3 ent_passage_Own, HO1.out _ _ _ _ g29 g31 g32⟩⟩
        | j + 6, ho => simp at ho
      · intro a' W hB hs hdf hk hG
        obtain ⟨tm, df⟩ := a'
        obtain rfl : df = [] := hdf
        have e0 : tm.getD 0 undef = .agg #[.int .i64 t.fst, .slice pt t.snd.length ct, .int .i64 tc.fst, .slice ptc tc.snd.length ctc] := hk 0 (by kernel_rfl)
        have e1 : tm.getD 1 undef = .agg #[.int .i64 g.fst, .slice pg g.snd.length cg] := hk 1 (by kernel_rfl)
        have e2 : tm.getD 2 undef = .int .i64 cat := hk 2 (by kernel_rfl)
        have e3 : tm.getD 3 undef = .pointer (some ⟨w.heap.size, 0, none⟩) := hk 3 (by kernel_rfl)
        have e4 : tm.getD 4 undef = .pointer (some ⟨w.heap.size + 1, 0, none⟩) := hk 4 (by kernel_rfl)
        have e5 : tm.getD 5 undef = undef := hk 5 (by kernel_rfl)
        have e6 : tm.getD 6 undef = .bool false := hk 6 (by kernel_rfl)
        have e7 : tm.getD 7 undef = undef := hk 7 (by kernel_rfl)
        have e8 : tm.getD 8 undef = undef := hk 8 (by kernel_rfl)
        have e9 : tm.getD 9 undef = undef := hk 9 (by kernel_rfl)
        have e10 : tm.getD 10 undef = undef := hk 10 (by kernel_rfl)
        have e11 : tm.getD 11 undef = undef := hk 11 (by kernel_rfl)
        have e12 : tm.getD 12 undef = undef := hk 12 (by kernel_rfl)
        have e13 : tm.getD 13 undef = undef := hk 13 (by kernel_rfl)
        have e14 : tm.getD 14 undef = undef := hk 14 (by kernel_rfl)
        have e15 : tm.getD 15 undef = undef := hk 15 (by kernel_rfl)
        have e16 : tm.getD 16 undef = undef := hk 16 (by kernel_rfl)
        have e17 : tm.getD 17 undef = .bool true := hk 17 (by kernel_rfl)
        have e18 : tm.getD 18 undef = .bool false := hk 18 (by kernel_rfl)
        have e19 : tm.getD 19 undef = .pointer (some ⟨w.heap.size, 0, none⟩) := hk 19 (by kernel_rfl)
        have e20 : tm.getD 20 undef = t20 := hk 20 (by kernel_rfl)
        have e21 : tm.getD 21 undef = .pointer (some ⟨w.heap.size, 2, none⟩) := hk 21 (by kernel_rfl)
        have e22 : tm.getD 22 undef = t22 := hk 22 (by kernel_rfl)
        have e23 : tm.getD 23 undef = t23 := hk 23 (by kernel_rfl)
        have e24 : tm.getD 24 undef = t24 := hk 24 (by kernel_rfl)
        have e25 : tm.getD 25 undef = .bool true := hk 25 (by kernel_rfl)
        have e26 : tm.getD 26 undef = .bool !true := hk 26 (by kernel_rfl)
        have e27 : tm.getD 27 undef = undef := hk 27 (by kernel_rfl)
        have e34 : tm.getD 34 undef = undef := hk 34 (by kernel_rfl)
        have e35 : tm.getD 35 undef = undef := hk 35 (by kernel_rfl)
        have e36 : tm.getD 36 undef = undef := hk 36 (by kernel_rfl)
        have e37 : tm.getD 37 undef = undef := hk 37 (by kernel_rfl)
        have e38 : tm.getD 38 undef = undef := hk 38 (by kernel_rfl)
        have e39 : tm.getD 39 undef = undef := hk 39 (by kernel_rfl)
        have e40 : tm.getD 40 undef = undef := hk 40 (by kernel_rfl)
        have e41 : tm.getD 41 undef = undef := hk 41 (by kernel_rfl)
        have e42 : tm.getD 42 undef = undef := hk 42 (by kernel_rfl)
        have e43 : tm.getD 43 undef = undef := hk 43 (by kernel_rfl)
        have e44 : tm.getD 44 undef = undef := hk 44 (by kernel_rfl)
        have e45 : tm.getD 45 undef = undef := hk 45 (by kernel_rfl)
        have e46 : tm.getD 46 undef = undef := hk 46 (by kernel_rfl)
        have e47 : tm.getD 47 undef = undef := hk 47 (by kernel_rfl)
        have e48 : tm.getD 48 undef = undef := hk 48 (by kernel_rfl)
        have e49 : tm.getD 49 undef = undef := hk 49 (by kernel_rfl)
        have e50 : tm.getD 50 undef = undef := hk 50 (by kernel_rfl)
        have e51 : tm.getD 51 undef = undef := hk 51 (by kernel_rfl)
        have e52 : tm.getD 52 undef = undef := hk 52 (by kernel_rfl)
        have e53 : tm.getD 53 undef = undef := hk 53 (by kernel_rfl)
        have e54 : tm.getD 54 undef = undef := hk 54 (by kernel_rfl)
        have e55 : tm.getD 55 undef = undef := hk 55 (by kernel_rfl)
        have e56 : tm.getD 56 undef = undef := hk 56 (by kernel_rfl)
        have e57 : tm.getD 57 undef = undef := hk 57 (by kernel_rfl)
        have e58 : tm.getD 58 undef = undef := hk 58 (by kernel_rfl)
        have e59 : tm.getD 59 undef = undef := hk 59 (by kernel_rfl)
        have e60 : tm.getD 60 undef = undef := hk 60 (by kernel_rfl)
        have e61 : tm.getD 61 undef = undef := hk 61 (by kernel_rfl)
        have e62 : tm.getD 62 undef = undef := hk 62 (by kernel_rfl)
        have e63 : tm.getD 63 undef = undef := hk 63 (by kernel_rfl)
        have e64 : tm.getD 64 undef = undef := hk 64 (by kernel_rfl)
        have e65 : tm.getD 65 undef = undef := hk 65 (by kernel_rfl)
        have e66 : tm.getD 66 undef = undef := hk 66 (by kernel_rfl)
        have e67 : tm.getD 67 undef = undef := hk 67 (by kernel_rfl)
        have e68 : tm.getD 68 undef = undef := hk 68 (by kernel_rfl)
        have e69 : tm.getD 69 undef = undef := hk 69 (by kernel_rfl)
        have e70 : tm.getD 70 undef = undef := hk 70 (by kernel_rfl)
        have e71 : tm.getD 71 undef = undef := hk 71 (by kernel_rfl)
        have e72 : tm.getD 72 undef = undef := hk 72 (by kernel_rfl)
        have e73 : tm.getD 73 undef = undef := hk 73 (by kernel_rfl)
        have e74 : tm.getD 74 undef = undef := hk 74 (by kernel_rfl)
        have e75 : tm.getD 75 undef = undef := hk 75 (by kernel_rfl)
        have e76 : tm.getD 76 undef = undef := hk 76 (by kernel_rfl)
        have e77 : tm.getD 77 undef = undef := hk 77 (by kernel_rfl)
        have e78 : tm.getD 78 undef = undef := hk 78 (by kernel_rfl)
        have e79 : tm.getD 79 undef = undef := hk 79 (by kernel_rfl)
        have e80 : tm.getD 80 undef = undef := hk 80 (by kernel_rfl)
        have e81 : tm.getD 81 undef = undef := hk 81 (by kernel_rfl)
        have e82 : tm.getD 82 undef = undef := hk 82 (by kernel_rfl)
        have e83 : tm.getD 83 undef = undef := hk 83 (by kernel_rfl)
        have g28 : (tm.getD 28 undef) = .pointer (some ⟨w.heap.size, 0, none⟩) := hG 0 28 (by decide) rfl
        have g29 : LV t (tm.getD 29 undef) W := hG 1 29 (by decide) rfl
        have g30 : (tm.getD 30 undef) = .pointer (some ⟨w.heap.size, 2, none⟩) := hG 2 30 (by decide) rfl
        have g31 : LV tc (tm.getD 31 undef) W := hG 3 31 (by decide) rfl
        have g32 : (tm.getD 32 undef) = .int .i64 cat := hG 4 32 (by decide) rfl
        have g33 : (T3V oa ob oe) (tm.getD 33 undef) W := hG 5 33 (by decide) rfl
        have htm := arr_of tm ((.agg #[.int .i64 t.fst, .slice pt t.snd.length ct, .int .i64 tc.fst, .slice ptc tc.snd.length ctc] : Value) :: (.agg #[.int .i64 g.fst, .slice pg g.snd.length cg] : Value) :: (.int .i64 cat : Value) :: (.pointer (some ⟨w.heap.size, 0, none⟩) : Value) :: (.pointer (some ⟨w.heap.size + 1, 0, none⟩) : Value) :: (undef : Value) :: (.bool false : Value) :: (undef : Value) :: (undef : Value) :: (undef : Value) :: (undef : Value) :: (undef : Value) :: (undef : Value) :: (undef : Value) :: (undef : Value) :: (undef : Value) :: (undef : Value) :: (.bool true : Value) :: (.bool false : Value) :: (.pointer (some ⟨w.heap.size, 0, none⟩) : Value) :: (t20 : Value) :: (.pointer (some ⟨w.heap.size, 2, none⟩) : Value) :: (t22 : Value) :: (t23 : Value) :: (t24 : Value) :: (.bool true : Value) :: (.bool !true : Value) :: (undef : Value) :: (tm.getD 28 undef : Value) :: (tm.getD 29 undef : Value) :: (tm.getD 30 undef : Value) :: (tm.getD 31 undef : Value) :: (tm.getD 32 undef : Value) :: (tm.getD 33 undef : Value) :: (undef : Value) :: (undef : Value) :: (undef : Value) :: (undef : Value) :: (undef : Value) :: (undef : Value) :: (undef : Value) :: (undef : Value) :: (undef : Value) :: (undef : Value) :: (undef : Value) :: (undef : Value) :: (undef : Value) :: (undef : Value) :: (undef : Value) :: (undef : Value) :: (undef : Value) :: (undef : Value) :: (undef : Value) :: (undef : Value) :: (undef : Value) :: (undef : Value) :: (undef : Value) :: (undef : Value) :: (undef : Value) :: (undef : Value) :: (undef : Value) :: (undef : Value) :: (undef : Value) :: (undef : Value) :: (undef : Value) :: (undef : Value) :: (undef : Value) :: (undef : Value) :: (undef : Value) :: (undef : Value) :: (undef : Value) :: (undef : Value) :: (undef : Value) :: (undef : Value) :: (undef : Value) :: (undef : Value) :: (undef : Value) :: (undef : Value) :: (undef : Value) :: (undef : Value) :: (undef : Value) :: (undef : Value) :: (undef : Value) :: (undef : Value) :: []) hs (by show (tm.getD 0 undef :: tm.getD 1 undef :: tm.getD 2 undef :: tm.getD 3 undef :: tm.getD 4 undef :: tm.getD 5 undef :: tm.getD 6 undef :: tm.getD 7 undef :: tm.getD 8 undef :: tm.getD 9 undef :: tm.getD 10 undef :: tm.getD 11 undef :: tm.getD 12 undef :: tm.getD 13 undef :: tm.getD 14 undef :: tm.getD 15 undef :: tm.getD 16 undef :: tm.getD 17 undef :: tm.getD 18 undef :: tm.getD 19 undef :: tm.getD 20 undef :: tm.getD 21 undef :: tm.getD 22 undef :: tm.getD 23 undef :: tm.getD 24 undef :: tm.getD 25 undef :: tm.getD 26 undef :: tm.getD 27 undef :: tm.getD 28 undef :: tm.getD 29 undef :: tm.getD 30 undef :: tm.getD 31 undef :: tm.getD 32 undef :: tm.getD 33 undef :: tm.getD 34 undef :: tm.getD 35 undef :: tm.getD 36 undef :: tm.getD 37 undef :: tm.getD 38 undef :: tm.getD 39 undef :: tm.getD 40 undef :: tm.getD 41 undef :: tm.getD 42 undef :: tm.getD 43 undef :: tm.getD 44 undef :: tm.getD 45 undef :: tm.getD 46 undef :: tm.getD 47 undef :: tm.getD 48 undef :: tm.getD 49 undef :: tm.getD 50 undef :: tm.getD 51 undef :: tm.getD 52 undef :: tm.getD 53 undef :: tm.getD 54 undef :: tm.getD 55 undef :: tm.getD 56 undef :: tm.getD 57 undef :: tm.getD 58 undef :: tm.getD 59 undef :: tm.getD 60 undef :: tm.getD 61 undef :: tm.getD 62 undef :: tm.getD 63 undef :: tm.getD 64 undef :: tm.getD 65 undef :: tm.getD 66 undef :: tm.getD 67 undef :: tm.getD 68 undef :: tm.getD 69 undef :: tm.getD 70 undef :: tm.getD 71 undef :: tm.getD 72 undef :: tm.getD 73 undef :: tm.getD 74 undef :: tm.getD 75 undef :: tm.getD 76 undef :: tm.getD 77 undef :: tm.getD 78 undef :: tm.getD 79 undef :: tm.getD 80 undef :: tm.getD 81 undef :: tm.getD 82 undef :: tm.getD 83 undef :: []) = _; rw [e0, e1, e2, e3, e4, e5, e6, e7, e8, e9, e10, e11, e12, e13, e14, e15, e16, e17, e18, e19, e20, e21, e22, e23, e24, e25, e26, e27, e34, e35, e36, e37, e38, e39, e40, e41, e42, e43, e44, e45, e46, e47, e48, e49, e50, e51, e52, e53, e54, e55, e56, e57, e58, e59, e60, e61, e62, e63, e64, e65, e66, e67, e68, e69, e70, e71, e72, e73, e74, e75, e76, e77, e78, e79, e80, e81, e82, e83]; try rfl)
        clear hs hk hG e0 e1 e2 e3 e4 e5 e6 e7 e8 e9 e10 e11 e12 e13 e14 e15 e16 e17 e18 e19 e20 e21 e22 e23 e24 e25 e26 e27 e34 e35 e36 e37 e38 e39 e40 e41 e42 e43 e44 e45 e46 e47 e48 e49 e50 e51 e52 e53 e54 e55 e56 e57 e58 e59 e60 e61 e62 e63 e64 e65 e66 e67 e68 e69 e70 e71 e72 e73 e74 e75 e76 e77 e78 e79 e80 e81 e82 e83
        generalize tm.getD 28 undef = t28 at htm g28
        generalize tm.getD 29 undef = t29 at htm g29
        generalize tm.getD 30 undef = t30 at htm g30
        generalize tm.getD 31 undef = t31 at htm g31
        generalize tm.getD 32 undef = t32 at htm g32
        generalize tm.getD 33 undef = t33 at htm g33
        subst htm
        subst g28
        subst g30
        subst g32
        simp only [List.drop_succ_cons, List.drop_zero]
        obtain ⟨x5, y5, rfl, hx5, hy5⟩ := g33
        obtain ⟨px5, cx5, rfl, hxc5, hxl5, hxm5⟩ := hx5
        obtain ⟨py5, cy5, rfl, hyc5, hyl5, hym5⟩ := hy5
        have hPre : Below w.heap.size w W := hA2.trans (hB.mono hA2.size)
        have hqt := het.below hB
        have hqtc := hetc.below hB
        have hqg := heg.below hB
        clear g29 g31 het hetc heg hB hA2 
        go_upto_region 6 with fail
        obtain ⟨X5, hX5⟩ : ∃ X, X = (W.alloc (.cells #[.int .i64 oa.1, .slice px5 oa.2.length cx5] 24)).alloc (.cells #[.int .i64 ob.1, .slice py5 ob.2.length cy5] 24) := ⟨_, rfl⟩
        have hbX : Below W.heap.size W X5 := by rw [hX5]; go_grown
        obtain ⟨n5, hn5⟩ : ∃ n, n = W.heap.size := ⟨_, rfl⟩
        have hE5a : LBg oa X5 W.heap.size 0 := lbg_new (by rw [hX5]; simp <;> omega) (by rw [hX5]; simp [go_sem]) (by rw [hX5]; simp [go_sem]) hxc5 hbX hxl5 hxm5
        have hE5b : LBg ob X5 (W.heap.size + 1) 0 := lbg_new (by rw [hX5]; simp) (by rw [hX5]; simp [go_sem]) (by rw [hX5]; simp [go_sem]) hyc5 hbX hyl5 hym5
        have hft := hqt.below hbX
        have hftc := hqtc.below hbX
        have hfg := hqg.below hbX
        have hA3 : Below w.heap.size w X5 := hPre.trans (hbX.mono hPre.size)
        rw [← hX5]
        rw [← hn5] at hE5a hE5b ⊢
        clear hX5 hbX hn5 hPre hqt hqtc hqg  hxc5 hyc5
        refine wp_region_monoG 6 (fun kq v W => match kq with | 38 => v = .pointer (some ⟨w.heap.size, 0, none⟩) | 39 => LV t v W | 40 => v = .pointer (some ⟨w.heap.size, 2, none⟩) | 41 => LV tc v W | 42 => v = .int .i64 cat | 43 => (T3V oa ob oe) v W | _ => True) (by kernel_rfl) (by kernel_rfl) (by simp) ?_ ?_ ?_
        · intro kq v W W' h hb
          revert h
          try dsimp only
          split
          · intro h; exact h
          · intro h; exact LV.below h hb
          · intro h; exact h
          · intro h; exact LV.below h hb
          · intro h; exact h
          · intro h; exact T3V.below h hb
          · intro h; trivial
        · intro a' W hB hs hk i o d ho hd hG
          match i, ho with
          | 0, ho =>
            obtain rfl : _ = o := Option.some.inj ho
            obtain rfl : 38 = d := Option.some.inj hd
            exact .inr ⟨rfl, .inl ⟨_, W, run_fa0 (hk 3 (by kernel_rfl)), Below.refl _ _, rfl⟩⟩
          | 1, ho =>
            obtain rfl : _ = o := Option.some.inj ho
            obtain rfl : 39 = d := Option.some.inj hd
            have g38 : (a'.eval (.tmp 38)) = .pointer (some ⟨w.heap.size, 0, none⟩) := hG ⟨0, .data⟩ (by simp) rfl 38 rfl
            obtain ⟨v, hr, hv⟩ := run_loadL (ev := a'.eval) (W := W) g38 (hft.below hB)
            exact .inr ⟨rfl, .inl ⟨v, W, hr, Below.refl _ _, hv⟩⟩
          | 2, ho =>
            obtain rfl : _ = o := Option.some.inj ho
            obtain rfl : 40 = d := Option.some.inj hd
            exact .inr ⟨rfl, .inl ⟨_, W, run_fa1 (hk 3 (by kernel_rfl)), Below.refl _ _, rfl⟩⟩
          | 3, ho =>
            obtain rfl : _ = o := Option.some.inj ho
            obtain rfl : 41 = d := Option.some.inj hd
            have g40 : (a'.eval (.tmp 40)) = .pointer (some ⟨w.heap.size, 2, none⟩) := hG ⟨2, .data⟩ (by simp) rfl 40 rfl
            obtain ⟨v, hr, hv⟩ := run_loadL (ev := a'.eval) (W := W) g40 (hftc.below hB)
            exact .inr ⟨rfl, .inl ⟨v, W, hr, Below.refl _ _, hv⟩⟩
          | 4, ho =>
            obtain rfl : _ = o := Option.some.inj ho
            obtain rfl : 42 = d := Option.some.inj hd
            exact .inr ⟨rfl, .inl ⟨_, W, run_move (hk 2 (by kernel_rfl)), Below.refl _ _, rfl⟩⟩
          | 5, ho =>
            obtain rfl : _ = o := Option.some.inj ho
            obtain rfl : 43 = d := Option.some.inj hd
            have g39 : LV t (a'.eval (.tmp 39)) W := hG ⟨1, .data⟩ (by simp) rfl 39 rfl
            have g41 : LV tc (a'.eval (.tmp 41)) W := hG ⟨3, .data⟩ (by simp) rfl 41 rfl
            have g42 : (a'.eval (.tmp 42)) = .int .i64 cat := hG ⟨4, .data⟩ (by simp) rfl 42 rfl
            exact .inr ⟨rfl, .inr ⟨_, _, run_call rfl map_3 ent_gatehouseref07_Own, HO2.out _ _ _ _ g39 g41 g42⟩⟩
          | j + 6, ho => simp at ho
        · intro a' W hB hs hdf hk hG
          obtain ⟨tm, df⟩ := a'
          obtain rfl : df = [] := hdf
          have e0 : tm.getD 0 undef = .agg #[.int .i64 t.fst, .slice pt t.snd.length ct, .int .i64 tc.fst, .slice ptc tc.snd.length ctc] := hk 0 (by kernel_rfl)
          have e1 : tm.getD 1 undef = .agg #[.int .i64 g.fst, .slice pg g.snd.length cg] := hk 1 (by kernel_rfl)
          have e2 : tm.getD 2 undef = .int .i64 cat := hk 2 (by kernel_rfl)
          have e3 : tm.getD 3 undef = .pointer (some ⟨w.heap.size, 0, none⟩) := hk 3 (by kernel_rfl)
          have e4 : tm.getD 4 undef = .pointer (some ⟨w.heap.size + 1, 0, none⟩) := hk 4 (by kernel_rfl)
          have e5 : tm.getD 5 undef = undef := hk 5 (by kernel_rfl)
          have e6 : tm.getD 6 undef = .bool false := hk 6 (by kernel_rfl)
          have e7 : tm.getD 7 undef = .pointer (some ⟨n5, 0, none⟩) := hk 7 (by kernel_rfl)
          have e8 : tm.getD 8 undef = .pointer (some ⟨n5 + 1, 0, none⟩) := hk 8 (by kernel_rfl)
          have e9 : tm.getD 9 undef = .int .i64 oe := hk 9 (by kernel_rfl)
          have e10 : tm.getD 10 undef = undef := hk 10 (by kernel_rfl)
          have e11 : tm.getD 11 undef = undef := hk 11 (by kernel_rfl)
          have e12 : tm.getD 12 undef = undef := hk 12 (by kernel_rfl)
          have e13 : tm.getD 13 undef = undef := hk 13 (by kernel_rfl)
          have e14 : tm.getD 14 undef = undef := hk 14 (by kernel_rfl)
          have e15 : tm.getD 15 undef = undef := hk 15 (by kernel_rfl)
          have e16 : tm.getD 16 undef = undef := hk 16 (by kernel_rfl)
          have e17 : tm.getD 17 undef = .bool true := hk 17 (by kernel_rfl)
          have e18 : tm.getD 18 undef = .bool false := hk 18 (by kernel_rfl)
          have e19 : tm.getD 19 undef = .pointer (some ⟨w.heap.size, 0, none⟩) := hk 19 (by kernel_rfl)
          have e20 : tm.getD 20 undef = t20 := hk 20 (by kernel_rfl)
          have e21 : tm.getD 21 undef = .pointer (some ⟨w.heap.size, 2, none⟩) := hk 21 (by kernel_rfl)
          have e22 : tm.getD 22 undef = t22 := hk 22 (by kernel_rfl)
          have e23 : tm.getD 23 undef = t23 := hk 23 (by kernel_rfl)
          have e24 : tm.getD 24 undef = t24 := hk 24 (by kernel_rfl)
          have e25 : tm.getD 25 undef = .bool true := hk 25 (by kernel_rfl)
          have e26 : tm.getD 26 undef = .bool !true := hk 26 (by kernel_rfl)
          have e27 : tm.getD 27 undef = .tuple #[.agg #[.int .i64 oa.fst, .slice px5 oa.snd.length cx5], .agg #[.int .i64 ob.fst, .slice py5 ob.snd.length cy5], .int .i64 oe] := hk 27 (by kernel_rfl)
          have e28 : tm.getD 28 undef = .pointer (some ⟨w.heap.size, 0, none⟩) := hk 28 (by kernel_rfl)
          have e29 : tm.getD 29 undef = t29 := hk 29 (by kernel_rfl)
          have e30 : tm.getD 30 undef = .pointer (some ⟨w.heap.size, 2, none⟩) := hk 30 (by kernel_rfl)
          have e31 : tm.getD 31 undef = t31 := hk 31 (by kernel_rfl)
          have e32 : tm.getD 32 undef = .int .i64 cat := hk 32 (by kernel_rfl)
          have e33 : tm.getD 33 undef = .tuple #[.agg #[.int .i64 oa.fst, .slice px5 oa.snd.length cx5], .agg #[.int .i64 ob.fst, .slice py5 ob.snd.length cy5], .int .i64 oe] := hk 33 (by kernel_rfl)
          have e34 : tm.getD 34 undef = .agg #[.int .i64 oa.fst, .slice px5 oa.snd.length cx5] := hk 34 (by kernel_rfl)
          have e35 : tm.getD 35 undef = .agg #[.int .i64 ob.fst, .slice py5 ob.snd.length cy5] := hk 35 (by kernel_rfl)
          have e36 : tm.getD 36 undef = .int .i64 oe := hk 36 (by kernel_rfl)
          have e37 : tm.getD 37 undef = undef := hk 37 (by kernel_rfl)
          have e44 : tm.getD 44 undef = undef := hk 44 (by kernel_rfl)
          have e45 : tm.getD 45 undef = undef := hk 45 (by kernel_rfl)
          have e46 : tm.getD 46 undef = undef := hk 46 (by kernel_rfl)
          have e47 : tm.getD 47 undef = undef := hk 47 (by kernel_rfl)
          have e48 : tm.getD 48 undef = undef := hk 48 (by kernel_rfl)
          have e49 : tm.getD 49 undef = undef := hk 49 (by kernel_rfl)
          have e50 : tm.getD 50 undef = undef := hk 50 (by kernel_rfl)
          have e51 : tm.getD 51 undef = undef := hk 51 (by kernel_rfl)
          have e52 : tm.getD 52 undef = undef := hk 52 (by kernel_rfl)
          have e53 : tm.getD 53 undef = undef := hk 53 (by kernel_rfl)
          have e54 : tm.getD 54 undef = undef := hk 54 (by kernel_rfl)
          have e55 : tm.getD 55 undef = undef := hk 55 (by kernel_rfl)
          have e56 : tm.getD 56 undef = undef := hk 56 (by kernel_rfl)
          have e57 : tm.getD 57 undef = undef := hk 57 (by kernel_rfl)
          have e58 : tm.getD 58 undef = undef := hk 58 (by kernel_rfl)
          have e59 : tm.getD 59 undef = undef := hk 59 (by kernel_rfl)
          have e60 : tm.getD 60 undef = undef := hk 60 (by kernel_rfl)
          have e61 : tm.getD 61 undef = undef := hk 61 (by kernel_rfl)
          have e62 : tm.getD 62 undef = undef := hk 62 (by kernel_rfl)
          have e63 : tm.getD 63 undef = undef := hk 63 (by kernel_rfl)
          have e64 : tm.getD 64 undef = undef := hk 64 (by kernel_rfl)
          have e65 : tm.getD 65 undef = undef := hk 65 (by kernel_rfl)
          have e66 : tm.getD 66 undef = undef := hk 66 (by kernel_rfl)
          have e67 : tm.getD 67 undef = undef := hk 67 (by kernel_rfl)
          have e68 : tm.getD 68 undef = undef := hk 68 (by kernel_rfl)
          have e69 : tm.getD 69 undef = undef := hk 69 (by kernel_rfl)
          have e70 : tm.getD 70 undef = undef := hk 70 (by kernel_rfl)
          have e71 : tm.getD 71 undef = undef := hk 71 (by kernel_rfl)
          have e72 : tm.getD 72 undef = undef := hk 72 (by kernel_rfl)
          have e73 : tm.getD 73 undef = undef := hk 73 (by kernel_rfl)
          have e74 : tm.getD 74 undef = undef := hk 74 (by kernel_rfl)
          have e75 : tm.getD 75 undef = undef := hk 75 (by kernel_rfl)
          have e76 : tm.getD 76 undef = undef := hk 76 (by kernel_rfl)
          have e77 : tm.getD 77 undef = undef := hk 77 (by kernel_rfl)
          have e78 : tm.getD 78 undef = undef := hk 78 (by kernel_rfl)
          have e79 : tm.getD 79 undef = undef := hk 79 (by kernel_rfl)
          have e80 : tm.getD 80 undef = undef := hk 80 (by kernel_rfl)
          have e81 : tm.getD 81 undef = undef := hk 81 (by kernel_rfl)
          have e82 : tm.getD 82 undef = undef := hk 82 (by kernel_rfl)
          have e83 : tm.getD 83 undef = undef := hk 83 (by kernel_rfl)
          have g38 : (tm.getD 38 undef) = .pointer (some ⟨w.heap.size, 0, none⟩) := hG 0 38 (by decide) rfl
          have g39 : LV t (tm.getD 39 undef) W := hG 1 39 (by decide) rfl
          have g40 : (tm.getD 40 undef) = .pointer (some ⟨w.heap.size, 2, none⟩) := hG 2 40 (by decide) rfl
          have g41 : LV tc (tm.getD 41 undef) W := hG 3 41 (by decide) rfl
          have g42 : (tm.getD 42 undef) = .int .i64 cat := hG 4 42 (by decide) rfl
          have g43 : (T3V oa ob oe) (tm.getD 43 undef) W := hG 5 43 (by decide) rfl
          have htm := arr_of tm ((.agg #[.int .i64 t.fst, .slice pt t.snd.length ct, .int .i64 tc.fst, .slice ptc tc.snd.length ctc] : Value) :: (.agg #[.int .i64 g.fst, .slice pg g.snd.length cg] : Value) :: (.int .i64 cat : Value) :: (.pointer (some ⟨w.heap.size, 0, none⟩) : Value) :: (.pointer (some ⟨w.heap.size + 1, 0, none⟩) : Value) :: (undef : Value) :: (.bool false : Value) :: (.pointer (some ⟨n5, 0, none⟩) : Value) :: (.pointer (some ⟨n5 + 1, 0, none⟩) : Value) :: (.int .i64 oe : Value) :: (undef : Value) :: (undef : Value) :: (undef : Value) :: (undef : Value) :: (undef : Value) :: (undef : Value) :: (undef : Value) :: (.bool true : Value) :: (.bool false : Value) :: (.pointer (some ⟨w.heap.size, 0, none⟩) : Value) :: (t20 : Value) :: (.pointer (some ⟨w.heap.size, 2, none⟩) : Value) :: (t22 : Value) :: (t23 : Value) :: (t24 : Value) :: (.bool true : Value) :: (.bool !true : Value) :: (.tuple #[.agg #[.int .i64 oa.fst, .slice px5 oa.snd.length cx5], .agg #[.int .i64 ob.fst, .slice py5 ob.snd.length cy5], .int .i64 oe] : Value) :: (.pointer (some ⟨w.heap.size, 0, none⟩) : Value) :: (t29 : Value) :: (.pointer (some ⟨w.heap.size, 2, none⟩) : Value) :: (t31 : Value) :: (.int .i64 cat : Value) :: (.tuple #[.agg #[.int .i64 oa.fst, .slice px5 oa.snd.length cx5], .agg #[.int .i64 ob.fst, .slice py5 ob.snd.length cy5], .int .i64 oe] : Value) :: (.agg #[.int .i64 oa.fst, .slice px5 oa.snd.length cx5] : Value) :: (.agg #[.int .i64 ob.fst, .slice py5 ob.snd.length cy5] : Value) :: (.int .i64 oe : Value) :: (undef : Value) :: (tm.getD 38 undef : Value) :: (tm.getD 39 undef : Value) :: (tm.getD 40 undef : Value) :: (tm.getD 41 undef : Value) :: (tm.getD 42 undef : Value) :: (tm.getD 43 undef : Value) :: (undef : Value) :: (undef : Value) :: (undef : Value) :: (undef : Value) :: (undef : Value) :: (undef : Value) :: (undef : Value) :: (undef : Value) :: (undef : Value) :: (undef : Value) :: (undef : Value) :: (undef : Value) :: (undef : Value) :: (undef : Value) :: (undef : Value) :: (undef : Value) :: (undef : Value) :: (undef : Value) :: (undef : Value) :: (undef : Value) :: (undef : Value) :: (undef : Value) :: (undef : Value) :: (undef : Value) :: (undef : Value) :: (undef : Value) :: (undef : Value) :: (undef : Value) :: (undef : Value) :: (undef : Value) :: (undef : Value) :: (undef : Value) :: (undef : Value) :: (undef : Value) :: (undef : Value) :: (undef : Value) :: (undef : Value) :: (undef : Value) :: (undef : Value) :: (undef : Value) :: []) hs (by show (tm.getD 0 undef :: tm.getD 1 undef :: tm.getD 2 undef :: tm.getD 3 undef :: tm.getD 4 undef :: tm.getD 5 undef :: tm.getD 6 undef :: tm.getD 7 undef :: tm.getD 8 undef :: tm.getD 9 undef :: tm.getD 10 undef :: tm.getD 11 undef :: tm.getD 12 undef :: tm.getD 13 undef :: tm.getD 14 undef :: tm.getD 15 undef :: tm.getD 16 undef :: tm.getD 17 undef :: tm.getD 18 undef :: tm.getD 19 undef :: tm.getD 20 undef :: tm.getD 21 undef :: tm.getD 22 undef :: tm.getD 23 undef :: tm.getD 24 undef :: tm.getD 25 undef :: tm.getD 26 undef :: tm.getD 27 undef :: tm.getD 28 undef :: tm.getD 29 undef :: tm.getD 30 undef :: tm.getD 31 undef :: tm.getD 32 undef :: tm.getD 33 undef :: tm.getD 34 undef :: tm.getD 35 undef :: tm.getD 36 undef :: tm.getD 37 undef :: tm.getD 38 undef :: tm.getD 39 undef :: tm.getD 40 undef :: tm.getD 41 undef :: tm.getD 42 undef :: tm.getD 43 undef :: tm.getD 44 undef :: tm.getD 45 undef :: tm.getD 46 undef :: tm.getD 47 undef :: tm.getD 48 undef :: tm.getD 49 undef :: tm.getD 50 undef :: tm.getD 51 undef :: tm.getD 52 undef :: tm.getD 53 undef :: tm.getD 54 undef :: tm.getD 55 undef :: tm.getD 56 undef :: tm.getD 57 undef :: tm.getD 58 undef :: tm.getD 59 undef :: tm.getD 60 undef :: tm.getD 61 undef :: tm.getD 62 undef :: tm.getD 63 undef :: tm.getD 64 undef :: tm.getD 65 undef :: tm.getD 66 undef :: tm.getD 67 undef :: tm.getD 68 undef :: tm.getD 69 undef :: tm.getD 70 undef :: tm.getD 71 undef :: tm.getD 72 undef :: tm.getD 73 undef :: tm.getD 74 undef :: tm.getD 75 undef :: tm.getD 76 undef :: tm.getD 77 undef :: tm.getD 78 undef :: tm.getD 79 undef :: tm.getD 80 undef :: tm.getD 81 undef :: tm.getD 82 undef :: tm.getD 83 undef :: []) = _; rw [e0, e1, e2, e3, e4, e5, e6, e7, e8, e9, e10, e11, e12, e13, e14, e15, e16, e17, e18, e19, e20, e21, e22, e23, e24, e25, e26, e27, e28, e29, e30, e31, e32, e33, e34, e35, e36, e37, e44, e45, e46, e47, e48, e49, e50, e51, e52, e53, e54, e55, e56, e57, e58, e59, e60, e61, e62, e63, e64, e65, e66, e67, e68, e69, e70, e71, e72, e73, e74, e75, e76, e77, e78, e79, e80, e81, e82, e83]; try rfl)
          clear hs hk hG e0 e1 e2 e3 e4 e5 e6 e7 e8 e9 e10 e11 e12 e13 e14 e15 e16 e17 e18 e19 e20 e21 e22 e23 e24 e25 e26 e27 e28 e29 e30 e31 e32 e33 e34 e35 e36 e37 e44 e45 e46 e47 e48 e49 e50 e51 e52 e53 e54 e55 e56 e57 e58 e59 e60 e61 e62 e63 e64 e65 e66 e67 e68 e69 e70 e71 e72 e73 e74 e75 e76 e77 e78 e79 e80 e81 e82 e83
          generalize tm.getD 38 undef = t38 at htm g38
          generalize tm.getD 39 undef = t39 at htm g39
          generalize tm.getD 40 undef = t40 at htm g40
          generalize tm.getD 41 undef = t41 at htm g41
          generalize tm.getD 42 undef = t42 at htm g42
          generalize tm.getD 43 undef = t43 at htm g43
          subst htm
          subst g38
          subst g40
          subst g42
          simp only [List.drop_succ_cons, List.drop_zero]
          obtain ⟨x6, y6, rfl, hx6, hy6⟩ := g43
          obtain ⟨px6, cx6, rfl, hxc6, hxl6, hxm6⟩ := hx6
          obtain ⟨py6, cy6, rfl, hyc6, hyl6, hym6⟩ := hy6
          have hPre : Below w.heap.size w W := hA3.trans (hB.mono hA3.size)
          have hqt := hft.below hB
          have hqtc := hftc.below hB
          have hqg := hfg.below hB
          have hqE7 := hE5a.below hB
          have hqE8 := hE5b.below hB
          clear g39 g41 hft hftc hfg hB hA3 hE5a hE5b
          go_upto_region 7 with fail
          obtain ⟨X6, hX6⟩ : ∃ X, X = (W.alloc (.cells #[.int .i64 oa.1, .slice px6 oa.2.length cx6] 24)).alloc (.cells #[.int .i64 ob.1, .slice py6 ob.2.length cy6] 24) := ⟨_, rfl⟩
          have hbX : Below W.heap.size W X6 := by rw [hX6]; go_grown
          obtain ⟨n6, hn6⟩ : ∃ n, n = W.heap.size := ⟨_, rfl⟩
          have hE6a : LBg oa X6 W.heap.size 0 := lbg_new (by rw [hX6]; simp <;> omega) (by rw [hX6]; simp [go_sem]) (by rw [hX6]; simp [go_sem]) hxc6 hbX hxl6 hxm6
          have hE6b : LBg ob X6 (W.heap.size + 1) 0 := lbg_new (by rw [hX6]; simp) (by rw [hX6]; simp [go_sem]) (by rw [hX6]; simp [go_sem]) hyc6 hbX hyl6 hym6
          have hgt := hqt.below hbX
          have hgtc := hqtc.below hbX
          have hgg := hqg.below hbX
          have hE7_6 := hqE7.below hbX
          have hE8_6 := hqE8.below hbX
          have hA4 : Below w.heap.size w X6 := hPre.trans (hbX.mono hPre.size)
          rw [← hX6]
          rw [← hn6] at hE6a hE6b ⊢
          clear hX6 hbX hn6 hPre hqt hqtc hqg hqE7 hqE8 hxc6 hyc6
          refine wp_region_monoG 4 (fun kq v W => match kq with | 48 => v = .pointer (some ⟨w.heap.size, 0, none⟩) | 49 => LV t v W | 50 => LV g v W | 51 => (T2V fa fe) v W | _ => True) (by kernel_rfl) (by kernel_rfl) (by simp) ?_ ?_ ?_
          · intro kq v W W' h hb
            revert h
            try dsimp only
            split
            · intro h; exact h
            · intro h; exact LV.below h hb
            · intro h; exact LV.below h hb
            · intro h; exact T2V.below h hb
            · intro h; trivial
          · intro a' W hB hs hk i o d ho hd hG
            match i, ho with
            | 0, ho =>
              obtain rfl : _ = o := Option.some.inj ho
              obtain rfl : 48 = d := Option.some.inj hd
              exact .inr ⟨rfl, .inl ⟨_, W, run_fa0 (hk 3 (by kernel_rfl)), Below.refl _ _, rfl⟩⟩
            | 1, ho =>
              obtain rfl : _ = o := Option.some.inj ho
              obtain rfl : 49 = d := Option.some.inj hd
              have g48 : (a'.eval (.tmp 48)) = .pointer (some ⟨w.heap.size, 0, none⟩) := hG ⟨0, .data⟩ (by simp) rfl 48 rfl
              obtain ⟨v, hr, hv⟩ := run_loadL (ev := a'.eval) (W := W) g48 (hgt.below hB)
              exact .inr ⟨rfl, .inl ⟨v, W, hr, Below.refl _ _, hv⟩⟩
            | 2, ho =>
              obtain rfl : _ = o := Option.some.inj ho
              obtain rfl : 50 = d := Option.some.inj hd
              obtain ⟨v, hr, hv⟩ := run_loadL (ev := a'.eval) (W := W) (hk 4 (by kernel_rfl)) (hgg.below hB)
              exact .inr ⟨rfl, .inl ⟨v, W, hr, Below.refl _ _, hv⟩⟩
            | 3, ho =>
              obtain rfl : _ = o := Option.some.inj ho
              obtain rfl : 51 = d := Option.some.inj hd
              have g49 : LV t (a'.eval (.tmp 49)) W := hG ⟨1, .data⟩ (by simp) rfl 49 rfl
              have g50 : LV g (a'.eval (.tmp 50)) W := hG ⟨2, .data⟩ (by simp) rfl 50 rfl
              exact .inr ⟨rfl, .inr ⟨_, _, run_call rfl map_2 ent_passage_Floor, HF1.out _ _ _ g49 g50⟩⟩
            | j + 4, ho => simp at ho
          · intro a' W hB hs hdf hk hG
            obtain ⟨tm, df⟩ := a'
            obtain rfl : df = [] := hdf
            have e0 : tm.getD 0 undef = .agg #[.int .i64 t.fst, .slice pt t.snd.length ct, .int .i64 tc.fst, .slice ptc tc.snd.length ctc] := hk 0 (by kernel_rfl)
            have e1 : tm.getD 1 undef = .agg #[.int .i64 g.fst, .slice pg g.snd.length cg] := hk 1 (by kernel_rfl)
            have e2 : tm.getD 2 undef = .int .i64 cat := hk 2 (by kernel_rfl)
            have e3 : tm.getD 3 undef = .pointer (some ⟨w.heap.size, 0, none⟩) := hk 3 (by kernel_rfl)
            have e4 : tm.getD 4 undef = .pointer (some ⟨w.heap.size + 1, 0, none⟩) := hk 4 (by kernel_rfl)
            have e5 : tm.getD 5 undef = undef := hk 5 (by kernel_rfl)
            have e6 : tm.getD 6 undef = .bool false := hk 6 (by kernel_rfl)
            have e7 : tm.getD 7 undef = .pointer (some ⟨n5, 0, none⟩) := hk 7 (by kernel_rfl)
            have e8 : tm.getD 8 undef = .pointer (some ⟨n5 + 1, 0, none⟩) := hk 8 (by kernel_rfl)
            have e9 : tm.getD 9 undef = .int .i64 oe := hk 9 (by kernel_rfl)
            have e10 : tm.getD 10 undef = .pointer (some ⟨n6, 0, none⟩) := hk 10 (by kernel_rfl)
            have e11 : tm.getD 11 undef = .pointer (some ⟨n6 + 1, 0, none⟩) := hk 11 (by kernel_rfl)
            have e12 : tm.getD 12 undef = .int .i64 oe := hk 12 (by kernel_rfl)
            have e13 : tm.getD 13 undef = undef := hk 13 (by kernel_rfl)
            have e14 : tm.getD 14 undef = undef := hk 14 (by kernel_rfl)
            have e15 : tm.getD 15 undef = undef := hk 15 (by kernel_rfl)
            have e16 : tm.getD 16 undef = undef := hk 16 (by kernel_rfl)
            have e17 : tm.getD 17 undef = .bool true := hk 17 (by kernel_rfl)
            have e18 : tm.getD 18 undef = .bool false := hk 18 (by kernel_rfl)
            have e19 : tm.getD 19 undef = .pointer (some ⟨w.heap.size, 0, none⟩) := hk 19 (by kernel_rfl)
            have e20 : tm.getD 20 undef = t20 := hk 20 (by kernel_rfl)
            have e21 : tm.getD 21 undef = .pointer (some ⟨w.heap.size, 2, none⟩) := hk 21 (by kernel_rfl)
            have e22 : tm.getD 22 undef = t22 := hk 22 (by kernel_rfl)
            have e23 : tm.getD 23 undef = t23 := hk 23 (by kernel_rfl)
            have e24 : tm.getD 24 undef = t24 := hk 24 (by kernel_rfl)
            have e25 : tm.getD 25 undef = .bool true := hk 25 (by kernel_rfl)
            have e26 : tm.getD 26 undef = .bool !true := hk 26 (by kernel_rfl)
            have e27 : tm.getD 27 undef = .tuple #[.agg #[.int .i64 oa.fst, .slice px5 oa.snd.length cx5], .agg #[.int .i64 ob.fst, .slice py5 ob.snd.length cy5], .int .i64 oe] := hk 27 (by kernel_rfl)
            have e28 : tm.getD 28 undef = .pointer (some ⟨w.heap.size, 0, none⟩) := hk 28 (by kernel_rfl)
            have e29 : tm.getD 29 undef = t29 := hk 29 (by kernel_rfl)
            have e30 : tm.getD 30 undef = .pointer (some ⟨w.heap.size, 2, none⟩) := hk 30 (by kernel_rfl)
            have e31 : tm.getD 31 undef = t31 := hk 31 (by kernel_rfl)
            have e32 : tm.getD 32 undef = .int .i64 cat := hk 32 (by kernel_rfl)
            have e33 : tm.getD 33 undef = .tuple #[.agg #[.int .i64 oa.fst, .slice px5 oa.snd.length cx5], .agg #[.int .i64 ob.fst, .slice py5 ob.snd.length cy5], .int .i64 oe] := hk 33 (by kernel_rfl)
            have e34 : tm.getD 34 undef = .agg #[.int .i64 oa.fst, .slice px5 oa.snd.length cx5] := hk 34 (by kernel_rfl)
            have e35 : tm.getD 35 undef = .agg #[.int .i64 ob.fst, .slice py5 ob.snd.length cy5] := hk 35 (by kernel_rfl)
            have e36 : tm.getD 36 undef = .int .i64 oe := hk 36 (by kernel_rfl)
            have e37 : tm.getD 37 undef = .tuple #[.agg #[.int .i64 oa.fst, .slice px6 oa.snd.length cx6], .agg #[.int .i64 ob.fst, .slice py6 ob.snd.length cy6], .int .i64 oe] := hk 37 (by kernel_rfl)
            have e38 : tm.getD 38 undef = .pointer (some ⟨w.heap.size, 0, none⟩) := hk 38 (by kernel_rfl)
            have e39 : tm.getD 39 undef = t39 := hk 39 (by kernel_rfl)
            have e40 : tm.getD 40 undef = .pointer (some ⟨w.heap.size, 2, none⟩) := hk 40 (by kernel_rfl)
            have e41 : tm.getD 41 undef = t41 := hk 41 (by kernel_rfl)
            have e42 : tm.getD 42 undef = .int .i64 cat := hk 42 (by kernel_rfl)
            have e43 : tm.getD 43 undef = .tuple #[.agg #[.int .i64 oa.fst, .slice px6 oa.snd.length cx6], .agg #[.int .i64 ob.fst, .slice py6 ob.snd.length cy6], .int .i64 oe] := hk 43 (by kernel_rfl)
            have e44 : tm.getD 44 undef = .agg #[.int .i64 oa.fst, .slice px6 oa.snd.length cx6] := hk 44 (by kernel_rfl)
            have e45 : tm.getD 45 undef = .agg #[.int .i64 ob.fst, .slice py6 ob.snd.length cy6] := hk 45 (by kernel_rfl)
            have e46 : tm.getD 46 undef = .int .i64 oe := hk 46 (by kernel_rfl)
            have e47 : tm.getD 47 undef = undef := hk 47 (by kernel_rfl)
            have e52 : tm.getD 52 undef = undef := hk 52 (by kernel_rfl)
            have e53 : tm.getD 53 undef = undef := hk 53 (by kernel_rfl)
            have e54 : tm.getD 54 undef = undef := hk 54 (by kernel_rfl)
            have e55 : tm.getD 55 undef = undef := hk 55 (by kernel_rfl)
            have e56 : tm.getD 56 undef = undef := hk 56 (by kernel_rfl)
            have e57 : tm.getD 57 undef = undef := hk 57 (by kernel_rfl)
            have e58 : tm.getD 58 undef = undef := hk 58 (by kernel_rfl)
            have e59 : tm.getD 59 undef = undef := hk 59 (by kernel_rfl)
            have e60 : tm.getD 60 undef = undef := hk 60 (by kernel_rfl)
            have e61 : tm.getD 61 undef = undef := hk 61 (by kernel_rfl)
            have e62 : tm.getD 62 undef = undef := hk 62 (by kernel_rfl)
            have e63 : tm.getD 63 undef = undef := hk 63 (by kernel_rfl)
            have e64 : tm.getD 64 undef = undef := hk 64 (by kernel_rfl)
            have e65 : tm.getD 65 undef = undef := hk 65 (by kernel_rfl)
            have e66 : tm.getD 66 undef = undef := hk 66 (by kernel_rfl)
            have e67 : tm.getD 67 undef = undef := hk 67 (by kernel_rfl)
            have e68 : tm.getD 68 undef = undef := hk 68 (by kernel_rfl)
            have e69 : tm.getD 69 undef = undef := hk 69 (by kernel_rfl)
            have e70 : tm.getD 70 undef = undef := hk 70 (by kernel_rfl)
            have e71 : tm.getD 71 undef = undef := hk 71 (by kernel_rfl)
            have e72 : tm.getD 72 undef = undef := hk 72 (by kernel_rfl)
            have e73 : tm.getD 73 undef = undef := hk 73 (by kernel_rfl)
            have e74 : tm.getD 74 undef = undef := hk 74 (by kernel_rfl)
            have e75 : tm.getD 75 undef = undef := hk 75 (by kernel_rfl)
            have e76 : tm.getD 76 undef = undef := hk 76 (by kernel_rfl)
            have e77 : tm.getD 77 undef = undef := hk 77 (by kernel_rfl)
            have e78 : tm.getD 78 undef = undef := hk 78 (by kernel_rfl)
            have e79 : tm.getD 79 undef = undef := hk 79 (by kernel_rfl)
            have e80 : tm.getD 80 undef = undef := hk 80 (by kernel_rfl)
            have e81 : tm.getD 81 undef = undef := hk 81 (by kernel_rfl)
            have e82 : tm.getD 82 undef = undef := hk 82 (by kernel_rfl)
            have e83 : tm.getD 83 undef = undef := hk 83 (by kernel_rfl)
            have g48 : (tm.getD 48 undef) = .pointer (some ⟨w.heap.size, 0, none⟩) := hG 0 48 (by decide) rfl
            have g49 : LV t (tm.getD 49 undef) W := hG 1 49 (by decide) rfl
            have g50 : LV g (tm.getD 50 undef) W := hG 2 50 (by decide) rfl
            have g51 : (T2V fa fe) (tm.getD 51 undef) W := hG 3 51 (by decide) rfl
            have htm := arr_of tm ((.agg #[.int .i64 t.fst, .slice pt t.snd.length ct, .int .i64 tc.fst, .slice ptc tc.snd.length ctc] : Value) :: (.agg #[.int .i64 g.fst, .slice pg g.snd.length cg] : Value) :: (.int .i64 cat : Value) :: (.pointer (some ⟨w.heap.size, 0, none⟩) : Value) :: (.pointer (some ⟨w.heap.size + 1, 0, none⟩) : Value) :: (undef : Value) :: (.bool false : Value) :: (.pointer (some ⟨n5, 0, none⟩) : Value) :: (.pointer (some ⟨n5 + 1, 0, none⟩) : Value) :: (.int .i64 oe : Value) :: (.pointer (some ⟨n6, 0, none⟩) : Value) :: (.pointer (some ⟨n6 + 1, 0, none⟩) : Value) :: (.int .i64 oe : Value) :: (undef : Value) :: (undef : Value) :: (undef : Value) :: (undef : Value) :: (.bool true : Value) :: (.bool false : Value) :: (.pointer (some ⟨w.heap.size, 0, none⟩) : Value) :: (t20 : Value) :: (.pointer (some ⟨w.heap.size, 2, none⟩) : Value) :: (t22 : Value) :: (t23 : Value) :: (t24 : Value) :: (.bool true : Value) :: (.bool !true : Value) :: (.tuple #[.agg #[.int .i64 oa.fst, .slice px5 oa.snd.length cx5], .agg #[.int .i64 ob.fst, .slice py5 ob.snd.length cy5], .int .i64 oe] : Value) :: (.pointer (some ⟨w.heap.size, 0, none⟩) : Value) :: (t29 : Value) :: (.pointer (some ⟨w.heap.size, 2, none⟩) : Value) :: (t31 : Value) :: (.int .i64 cat : Value) :: (.tuple #[.agg #[.int .i64 oa.fst, .slice px5 oa.snd.length cx5], .agg #[.int .i64 ob.fst, .slice py5 ob.snd.length cy5], .int .i64 oe] : Value) :: (.agg #[.int .i64 oa.fst, .slice px5 oa.snd.length cx5] : Value) :: (.agg #[.int .i64 ob.fst, .slice py5 ob.snd.length cy5] : Value) :: (.int .i64 oe : Value) :: (.tuple #[.agg #[.int .i64 oa.fst, .slice px6 oa.snd.length cx6], .agg #[.int .i64 ob.fst, .slice py6 ob.snd.length cy6], .int .i64 oe] : Value) :: (.pointer (some ⟨w.heap.size, 0, none⟩) : Value) :: (t39 : Value) :: (.pointer (some ⟨w.heap.size, 2, none⟩) : Value) :: (t41 : Value) :: (.int .i64 cat : Value) :: (.tuple #[.agg #[.int .i64 oa.fst, .slice px6 oa.snd.length cx6], .agg #[.int .i64 ob.fst, .slice py6 ob.snd.length cy6], .int .i64 oe] : Value) :: (.agg #[.int .i64 oa.fst, .slice px6 oa.snd.length cx6] : Value) :: (.agg #[.int .i64 ob.fst, .slice py6 ob.snd.length cy6] : Value) :: (.int .i64 oe : Value) :: (undef : Value) :: (tm.getD 48 undef : Value) :: (tm.getD 49 undef : Value) :: (tm.getD 50 undef : Value) :: (tm.getD 51 undef : Value) :: (undef : Value) :: (undef : Value) :: (undef : Value) :: (undef : Value) :: (undef : Value) :: (undef : Value) :: (undef : Value) :: (undef : Value) :: (undef : Value) :: (undef : Value) :: (undef : Value) :: (undef : Value) :: (undef : Value) :: (undef : Value) :: (undef : Value) :: (undef : Value) :: (undef : Value) :: (undef : Value) :: (undef : Value) :: (undef : Value) :: (undef : Value) :: (undef : Value) :: (undef : Value) :: (undef : Value) :: (undef : Value) :: (undef : Value) :: (undef : Value) :: (undef : Value) :: (undef : Value) :: (undef : Value) :: (undef : Value) :: (undef : Value) :: []) hs (by show (tm.getD 0 undef :: tm.getD 1 undef :: tm.getD 2 undef :: tm.getD 3 undef :: tm.getD 4 undef :: tm.getD 5 undef :: tm.getD 6 undef :: tm.getD 7 undef :: tm.getD 8 undef :: tm.getD 9 undef :: tm.getD 10 undef :: tm.getD 11 undef :: tm.getD 12 undef :: tm.getD 13 undef :: tm.getD 14 undef :: tm.getD 15 undef :: tm.getD 16 undef :: tm.getD 17 undef :: tm.getD 18 undef :: tm.getD 19 undef :: tm.getD 20 undef :: tm.getD 21 undef :: tm.getD 22 undef :: tm.getD 23 undef :: tm.getD 24 undef :: tm.getD 25 undef :: tm.getD 26 undef :: tm.getD 27 undef :: tm.getD 28 undef :: tm.getD 29 undef :: tm.getD 30 undef :: tm.getD 31 undef :: tm.getD 32 undef :: tm.getD 33 undef :: tm.getD 34 undef :: tm.getD 35 undef :: tm.getD 36 undef :: tm.getD 37 undef :: tm.getD 38 undef :: tm.getD 39 undef :: tm.getD 40 undef :: tm.getD 41 undef :: tm.getD 42 undef :: tm.getD 43 undef :: tm.getD 44 undef :: tm.getD 45 undef :: tm.getD 46 undef :: tm.getD 47 undef :: tm.getD 48 undef :: tm.getD 49 undef :: tm.getD 50 undef :: tm.getD 51 undef :: tm.getD 52 undef :: tm.getD 53 undef :: tm.getD 54 undef :: tm.getD 55 undef :: tm.getD 56 undef :: tm.getD 57 undef :: tm.getD 58 undef :: tm.getD 59 undef :: tm.getD 60 undef :: tm.getD 61 undef :: tm.getD 62 undef :: tm.getD 63 undef :: tm.getD 64 undef :: tm.getD 65 undef :: tm.getD 66 undef :: tm.getD 67 undef :: tm.getD 68 undef :: tm.getD 69 undef :: tm.getD 70 undef :: tm.getD 71 undef :: tm.getD 72 undef :: tm.getD 73 undef :: tm.getD 74 undef :: tm.getD 75 undef :: tm.getD 76 undef :: tm.getD 77 undef :: tm.getD 78 undef :: tm.getD 79 undef :: tm.getD 80 undef :: tm.getD 81 undef :: tm.getD 82 undef :: tm.getD 83 undef :: []) = _; rw [e0, e1, e2, e3, e4, e5, e6, e7, e8, e9, e10, e11, e12, e13, e14, e15, e16, e17, e18, e19, e20, e21, e22, e23, e24, e25, e26, e27, e28, e29, e30, e31, e32, e33, e34, e35, e36, e37, e38, e39, e40, e41, e42, e43, e44, e45, e46, e47, e52, e53, e54, e55, e56, e57, e58, e59, e60, e61, e62, e63, e64, e65, e66, e67, e68, e69, e70, e71, e72, e73, e74, e75, e76, e77, e78, e79, e80, e81, e82, e83]; try rfl)
            clear hs hk hG e0 e1 e2 e3 e4 e5 e6 e7 e8 e9 e10 e11 e12 e13 e14 e15 e16 e17 e18 e19 e20 e21 e22 e23 e24 e25 e26 e27 e28 e29 e30 e31 e32 e33 e34 e35 e36 e37 e38 e39 e40 e41 e42 e43 e44 e45 e46 e47 e52 e53 e54 e55 e56 e57 e58 e59 e60 e61 e62 e63 e64 e65 e66 e67 e68 e69 e70 e71 e72 e73 e74 e75 e76 e77 e78 e79 e80 e81 e82 e83
            generalize tm.getD 48 undef = t48 at htm g48
            generalize tm.getD 49 undef = t49 at htm g49
            generalize tm.getD 50 undef = t50 at htm g50
            generalize tm.getD 51 undef = t51 at htm g51
            subst htm
            subst g48
            simp only [List.drop_succ_cons, List.drop_zero]
            obtain ⟨x7, rfl, hx7⟩ := g51
            obtain ⟨px7, cx7, rfl, hxc7, hxl7, hxm7⟩ := hx7
            have hPre : Below w.heap.size w W := hA4.trans (hB.mono hA4.size)
            have hqt := hgt.below hB
            have hqtc := hgtc.below hB
            have hqg := hgg.below hB
            have hqE7 := hE7_6.below hB
            have hqE8 := hE8_6.below hB
            have hqE10 := hE6a.below hB
            have hqE11 := hE6b.below hB
            clear g49 g50 hgt hgtc hgg hB hA4 hE7_6 hE8_6 hE6a hE6b
            go_upto_region 8 with fail
            obtain ⟨X7, hX7⟩ : ∃ X, X = W.alloc (.cells #[.int .i64 fa.1, .slice px7 fa.2.length cx7] 24) := ⟨_, rfl⟩
            have hbX : Below W.heap.size W X7 := by rw [hX7]; go_grown
            obtain ⟨n7, hn7⟩ : ∃ n, n = W.heap.size := ⟨_, rfl⟩
            have hE7a : LBg fa X7 W.heap.size 0 := lbg_new (by rw [hX7]; simp) (by rw [hX7]; simp [go_sem]) (by rw [hX7]; simp [go_sem]) hxc7 hbX hxl7 hxm7
            have hht := hqt.below hbX
            have hhtc := hqtc.below hbX
            have hhg := hqg.below hbX
            have hE7_7 := hqE7.below hbX
            have hE8_7 := hqE8.below hbX
            have hE10_7 := hqE10.below hbX
            have hE11_7 := hqE11.below hbX
            have hA5 : Below w.heap.size w X7 := hPre.trans (hbX.mono hPre.size)
            rw [← hX7]
            rw [← hn7] at hE7a ⊢
            clear hX7 hbX hn7 hPre hqt hqtc hqg hqE7 hqE8 hqE10 hqE11 hxc7
            refine wp_region_monoG 4 (fun kq v W => match kq with | 55 => v = .pointer (some ⟨w.heap.size, 0, none⟩) | 56 => LV t v W | 57 => LV g v W | 58 => (T2V fa fe) v W | _ => True) (by kernel_rfl) (by kernel_rfl) (by simp) ?_ ?_ ?_
            · intro kq v W W' h hb
              revert h
              try dsimp only
              split
              · intro h; exact h
              · intro h; exact LV.below h hb
              · intro h; exact LV.below h hb
              · intro h; exact T2V.below h hb
              · intro h; trivial
            · intro a' W hB hs hk i o d ho hd hG
              match i, ho with
              | 0, ho =>
                obtain rfl : _ = o := Option.some.inj ho
                obtain rfl : 55 = d := Option.some.inj hd
                exact .inr ⟨rfl, .inl ⟨_, W, run_fa0 (hk 3 (by kernel_rfl)), Below.refl _ _, rfl⟩⟩
              | 1, ho =>
                obtain rfl : _ = o := Option.some.inj ho
                obtain rfl : 56 = d := Option.some.inj hd
                have g55 : (a'.eval (.tmp 55)) = .pointer (some ⟨w.heap.size, 0, none⟩) := hG ⟨0, .data⟩ (by simp) rfl 55 rfl
                obtain ⟨v, hr, hv⟩ := run_loadL (ev := a'.eval) (W := W) g55 (hht.below hB)
                exact .inr ⟨rfl, .inl ⟨v, W, hr, Below.refl _ _, hv⟩⟩
              | 2, ho =>
                obtain rfl : _ = o := Option.some.inj ho
                obtain rfl : 57 = d := Option.some.inj hd
                obtain ⟨v, hr, hv⟩ := run_loadL (ev := a'.eval) (W := W) (hk 4 (by kernel_rfl)) (hhg.below hB)
                exact .inr ⟨rfl, .inl ⟨v, W, hr, Below.refl _ _, hv⟩⟩
              | 3, ho =>
                obtain rfl : _ = o := Option.some.inj ho
                obtain rfl : 58 = d := Option.some.inj hd
                have g56 : LV t (a'.eval (.tmp 56)) W := hG ⟨1, .data⟩ (by simp) rfl 56 rfl
                have g57 : LV g (a'.eval (.tmp 57)) W := hG ⟨2, .data⟩ (by simp) rfl 57 rfl
                exact .inr ⟨rfl, .inr ⟨_, _, run_call rfl map_2 ent_gatehouseref07_Floor, HF2.out _ _ _ g56 g57⟩⟩
              | j + 4, ho => simp at ho
            · intro a' W hB hs hdf hk hG
              obtain ⟨tm, df⟩ := a'
              obtain rfl : df = [] := hdf
              have e0 : tm.getD 0 undef = .agg #[.int .i64 t.fst, .slice pt t.snd.length ct, .int .i64 tc.fst, .slice ptc tc.snd.length ctc] := hk 0 (by kernel_rfl)
              have e1 : tm.getD 1 undef = .agg #[.int .i64 g.fst, .slice pg g.snd.length cg] := hk 1 (by kernel_rfl)
              have e2 : tm.getD 2 undef = .int .i64 cat := hk 2 (by kernel_rfl)
              have e3 : tm.getD 3 undef = .pointer (some ⟨w.heap.size, 0, none⟩) := hk 3 (by kernel_rfl)
              have e4 : tm.getD 4 undef = .pointer (some ⟨w.heap.size + 1, 0, none⟩) := hk 4 (by kernel_rfl)
              have e5 : tm.getD 5 undef = undef := hk 5 (by kernel_rfl)
              have e6 : tm.getD 6 undef = .bool false := hk 6 (by kernel_rfl)
              have e7 : tm.getD 7 undef = .pointer (some ⟨n5, 0, none⟩) := hk 7 (by kernel_rfl)
              have e8 : tm.getD 8 undef = .pointer (some ⟨n5 + 1, 0, none⟩) := hk 8 (by kernel_rfl)
              have e9 : tm.getD 9 undef = .int .i64 oe := hk 9 (by kernel_rfl)
              have e10 : tm.getD 10 undef = .pointer (some ⟨n6, 0, none⟩) := hk 10 (by kernel_rfl)
              have e11 : tm.getD 11 undef = .pointer (some ⟨n6 + 1, 0, none⟩) := hk 11 (by kernel_rfl)
              have e12 : tm.getD 12 undef = .int .i64 oe := hk 12 (by kernel_rfl)
              have e13 : tm.getD 13 undef = .pointer (some ⟨n7, 0, none⟩) := hk 13 (by kernel_rfl)
              have e14 : tm.getD 14 undef = .int .i64 fe := hk 14 (by kernel_rfl)
              have e15 : tm.getD 15 undef = undef := hk 15 (by kernel_rfl)
              have e16 : tm.getD 16 undef = undef := hk 16 (by kernel_rfl)
              have e17 : tm.getD 17 undef = .bool true := hk 17 (by kernel_rfl)
              have e18 : tm.getD 18 undef = .bool false := hk 18 (by kernel_rfl)
              have e19 : tm.getD 19 undef = .pointer (some ⟨w.heap.size, 0, none⟩) := hk 19 (by kernel_rfl)
              have e20 : tm.getD 20 undef = t20 := hk 20 (by kernel_rfl)
              have e21 : tm.getD 21 undef = .pointer (some ⟨w.heap.size, 2, none⟩) := hk 21 (by kernel_rfl)
              have e22 : tm.getD 22 undef = t22 := hk 22 (by kernel_rfl)
              have e23 : tm.getD 23 undef = t23 := hk 23 (by kernel_rfl)
              have e24 : tm.getD 24 undef = t24 := hk 24 (by kernel_rfl)
              have e25 : tm.getD 25 undef = .bool true := hk 25 (by kernel_rfl)
              have e26 : tm.getD 26 undef = .bool !true := hk 26 (by kernel_rfl)
              have e27 : tm.getD 27 undef = .tuple #[.agg #[.int .i64 oa.fst, .slice px5 oa.snd.length cx5], .agg #[.int .i64 ob.fst, .slice py5 ob.snd.length cy5], .int .i64 oe] := hk 27 (by kernel_rfl)
              have e28 : tm.getD 28 undef = .pointer (some ⟨w.heap.size, 0, none⟩) := hk 28 (by kernel_rfl)
              have e29 : tm.getD 29 undef = t29 := hk 29 (by kernel_rfl)
              have e30 : tm.getD 30 undef = .pointer (some ⟨w.heap.size, 2, none⟩) := hk 30 (by kernel_rfl)
              have e31 : tm.getD 31 undef = t31 := hk 31 (by kernel_rfl)
              have e32 : tm.getD 32 undef = .int .i64 cat := hk 32 (by kernel_rfl)
              have e33 : tm.getD 33 undef = .tuple #[.agg #[.int .i64 oa.fst, .slice px5 oa.snd.length cx5], .agg #[.int .i64 ob.fst, .slice py5 ob.snd.length cy5], .int .i64 oe] := hk 33 (by kernel_rfl)
              have e34 : tm.getD 34 undef = .agg #[.int .i64 oa.fst, .slice px5 oa.snd.length cx5] := hk 34 (by kernel_rfl)
              have e35 : tm.getD 35 undef = .agg #[.int .i64 ob.fst, .slice py5 ob.snd.length cy5] := hk 35 (by kernel_rfl)
              have e36 : tm.getD 36 undef = .int .i64 oe := hk 36 (by kernel_rfl)
              have e37 : tm.getD 37 undef = .tuple #[.agg #[.int .i64 oa.fst, .slice px6 oa.snd.length cx6], .agg #[.int .i64 ob.fst, .slice py6 ob.snd.length cy6], .int .i64 oe] := hk 37 (by kernel_rfl)
              have e38 : tm.getD 38 undef = .pointer (some ⟨w.heap.size, 0, none⟩) := hk 38 (by kernel_rfl)
              have e39 : tm.getD 39 undef = t39 := hk 39 (by kernel_rfl)
              have e40 : tm.getD 40 undef = .pointer (some ⟨w.heap.size, 2, none⟩) := hk 40 (by kernel_rfl)
              have e41 : tm.getD 41 undef = t41 := hk 41 (by kernel_rfl)
              have e42 : tm.getD 42 undef = .int .i64 cat := hk 42 (by kernel_rfl)
              have e43 : tm.getD 43 undef = .tuple #[.agg #[.int .i64 oa.fst, .slice px6 oa.snd.length cx6], .agg #[.int .i64 ob.fst, .slice py6 ob.snd.length cy6], .int .i64 oe] := hk 43 (by kernel_rfl)
              have e44 : tm.getD 44 undef = .agg #[.int .i64 oa.fst, .slice px6 oa.snd.length cx6] := hk 44 (by kernel_rfl)
              have e45 : tm.getD 45 undef = .agg #[.int .i64 ob.fst, .slice py6 ob.snd.length cy6] := hk 45 (by kernel_rfl)
              have e46 : tm.getD 46 undef = .int .i64 oe := hk 46 (by kernel_rfl)
              have e47 : tm.getD 47 undef = .tuple #[.agg #[.int .i64 fa.fst, .slice px7 fa.snd.length cx7], .int .i64 fe] := hk 47 (by kernel_rfl)
              have e48 : tm.getD 48 undef = .pointer (some ⟨w.heap.size, 0, none⟩) := hk 48 (by kernel_rfl)
              have e49 : tm.getD 49 undef = t49 := hk 49 (by kernel_rfl)
              have e50 : tm.getD 50 undef = t50 := hk 50 (by kernel_rfl)
              have e51 : tm.getD 51 undef = .tuple #[.agg #[.int .i64 fa.fst, .slice px7 fa.snd.length cx7], .int .i64 fe] := hk 51 (by kernel_rfl)
              have e52 : tm.getD 52 undef = .agg #[.int .i64 fa.fst, .slice px7 fa.snd.length cx7] := hk 52 (by kernel_rfl)
              have e53 : tm.getD 53 undef = .int .i64 fe := hk 53 (by kernel_rfl)
              have e54 : tm.getD 54 undef = undef := hk 54 (by kernel_rfl)
              have e59 : tm.getD 59 undef = undef := hk 59 (by kernel_rfl)
              have e60 : tm.getD 60 undef = undef := hk 60 (by kernel_rfl)
              have e61 : tm.getD 61 undef = undef := hk 61 (by kernel_rfl)
              have e62 : tm.getD 62 undef = undef := hk 62 (by kernel_rfl)
              have e63 : tm.getD 63 undef = undef := hk 63 (by kernel_rfl)
              have e64 : tm.getD 64 undef = undef := hk 64 (by kernel_rfl)
              have e65 : tm.getD 65 undef = undef := hk 65 (by kernel_rfl)
              have e66 : tm.getD 66 undef = undef := hk 66 (by kernel_rfl)
              have e67 : tm.getD 67 undef = undef := hk 67 (by kernel_rfl)
              have e68 : tm.getD 68 undef = undef := hk 68 (by kernel_rfl)
              have e69 : tm.getD 69 undef = undef := hk 69 (by kernel_rfl)
              have e70 : tm.getD 70 undef = undef := hk 70 (by kernel_rfl)
              have e71 : tm.getD 71 undef = undef := hk 71 (by kernel_rfl)
              have e72 : tm.getD 72 undef = undef := hk 72 (by kernel_rfl)
              have e73 : tm.getD 73 undef = undef := hk 73 (by kernel_rfl)
              have e74 : tm.getD 74 undef = undef := hk 74 (by kernel_rfl)
              have e75 : tm.getD 75 undef = undef := hk 75 (by kernel_rfl)
              have e76 : tm.getD 76 undef = undef := hk 76 (by kernel_rfl)
              have e77 : tm.getD 77 undef = undef := hk 77 (by kernel_rfl)
              have e78 : tm.getD 78 undef = undef := hk 78 (by kernel_rfl)
              have e79 : tm.getD 79 undef = undef := hk 79 (by kernel_rfl)
              have e80 : tm.getD 80 undef = undef := hk 80 (by kernel_rfl)
              have e81 : tm.getD 81 undef = undef := hk 81 (by kernel_rfl)
              have e82 : tm.getD 82 undef = undef := hk 82 (by kernel_rfl)
              have e83 : tm.getD 83 undef = undef := hk 83 (by kernel_rfl)
              have g55 : (tm.getD 55 undef) = .pointer (some ⟨w.heap.size, 0, none⟩) := hG 0 55 (by decide) rfl
              have g56 : LV t (tm.getD 56 undef) W := hG 1 56 (by decide) rfl
              have g57 : LV g (tm.getD 57 undef) W := hG 2 57 (by decide) rfl
              have g58 : (T2V fa fe) (tm.getD 58 undef) W := hG 3 58 (by decide) rfl
              have htm := arr_of tm ((.agg #[.int .i64 t.fst, .slice pt t.snd.length ct, .int .i64 tc.fst, .slice ptc tc.snd.length ctc] : Value) :: (.agg #[.int .i64 g.fst, .slice pg g.snd.length cg] : Value) :: (.int .i64 cat : Value) :: (.pointer (some ⟨w.heap.size, 0, none⟩) : Value) :: (.pointer (some ⟨w.heap.size + 1, 0, none⟩) : Value) :: (undef : Value) :: (.bool false : Value) :: (.pointer (some ⟨n5, 0, none⟩) : Value) :: (.pointer (some ⟨n5 + 1, 0, none⟩) : Value) :: (.int .i64 oe : Value) :: (.pointer (some ⟨n6, 0, none⟩) : Value) :: (.pointer (some ⟨n6 + 1, 0, none⟩) : Value) :: (.int .i64 oe : Value) :: (.pointer (some ⟨n7, 0, none⟩) : Value) :: (.int .i64 fe : Value) :: (undef : Value) :: (undef : Value) :: (.bool true : Value) :: (.bool false : Value) :: (.pointer (some ⟨w.heap.size, 0, none⟩) : Value) :: (t20 : Value) :: (.pointer (some ⟨w.heap.size, 2, none⟩) : Value) :: (t22 : Value) :: (t23 : Value) :: (t24 : Value) :: (.bool true : Value) :: (.bool !true : Value) :: (.tuple #[.agg #[.int .i64 oa.fst, .slice px5 oa.snd.length cx5], .agg #[.int .i64 ob.fst, .slice py5 ob.snd.length cy5], .int .i64 oe] : Value) :: (.pointer (some ⟨w.heap.size, 0, none⟩) : Value) :: (t29 : Value) :: (.pointer (some ⟨w.heap.size, 2, none⟩) : Value) :: (t31 : Value) :: (.int .i64 cat : Value) :: (.tuple #[.agg #[.int .i64 oa.fst, .slice px5 oa.snd.length cx5], .agg #[.int .i64 ob.fst, .slice py5 ob.snd.length cy5], .int .i64 oe] : Value) :: (.agg #[.int .i64 oa.fst, .slice px5 oa.snd.length cx5] : Value) :: (.agg #[.int .i64 ob.fst, .slice py5 ob.snd.length cy5] : Value) :: (.int .i64 oe : Value) :: (.tuple #[.agg #[.int .i64 oa.fst, .slice px6 oa.snd.length cx6], .agg #[.int .i64 ob.fst, .slice py6 ob.snd.length cy6], .int .i64 oe] : Value) :: (.pointer (some ⟨w.heap.size, 0, none⟩) : Value) :: (t39 : Value) :: (.pointer (some ⟨w.heap.size, 2, none⟩) : Value) :: (t41 : Value) :: (.int .i64 cat : Value) :: (.tuple #[.agg #[.int .i64 oa.fst, .slice px6 oa.snd.length cx6], .agg #[.int .i64 ob.fst, .slice py6 ob.snd.length cy6], .int .i64 oe] : Value) :: (.agg #[.int .i64 oa.fst, .slice px6 oa.snd.length cx6] : Value) :: (.agg #[.int .i64 ob.fst, .slice py6 ob.snd.length cy6] : Value) :: (.int .i64 oe : Value) :: (.tuple #[.agg #[.int .i64 fa.fst, .slice px7 fa.snd.length cx7], .int .i64 fe] : Value) :: (.pointer (some ⟨w.heap.size, 0, none⟩) : Value) :: (t49 : Value) :: (t50 : Value) :: (.tuple #[.agg #[.int .i64 fa.fst, .slice px7 fa.snd.length cx7], .int .i64 fe] : Value) :: (.agg #[.int .i64 fa.fst, .slice px7 fa.snd.length cx7] : Value) :: (.int .i64 fe : Value) :: (undef : Value) :: (tm.getD 55 undef : Value) :: (tm.getD 56 undef : Value) :: (tm.getD 57 undef : Value) :: (tm.getD 58 undef : Value) :: (undef : Value) :: (undef : Value) :: (undef : Value) :: (undef : Value) :: (undef : Value) :: (undef : Value) :: (undef : Value) :: (undef : Value) :: (undef : Value) :: (undef : Value) :: (undef : Value) :: (undef : Value) :: (undef : Value) :: (undef : Value) :: (undef : Value) :: (undef : Value) :: (undef : Value) :: (undef : Value) :: (undef : Value) :: (undef : Value) :: (undef : Value) :: (undef : Value) :: (undef : Value) :: (undef : Value) :: (undef : Value) :: []) hs (by show (tm.getD 0 undef :: tm.getD 1 undef :: tm.getD 2 undef :: tm.getD 3 undef :: tm.getD 4 undef :: tm.getD 5 undef :: tm.getD 6 undef :: tm.getD 7 undef :: tm.getD 8 undef :: tm.getD 9 undef :: tm.getD 10 undef :: tm.getD 11 undef :: tm.getD 12 undef :: tm.getD 13 undef :: tm.getD 14 undef :: tm.getD 15 undef :: tm.getD 16 undef :: tm.getD 17 undef :: tm.getD 18 undef :: tm.getD 19 undef :: tm.getD 20 undef :: tm.getD 21 undef :: tm.getD 22 undef :: tm.getD 23 undef :: tm.getD 24 undef :: tm.getD 25 undef :: tm.getD 26 undef :: tm.getD 27 undef :: tm.getD 28 undef :: tm.getD 29 undef :: tm.getD 30 undef :: tm.getD 31 undef :: tm.getD 32 undef :: tm.getD 33 undef :: tm.getD 34 undef :: tm.getD 35 undef :: tm.getD 36 undef :: tm.getD 37 undef :: tm.getD 38 undef :: tm.getD 39 undef :: tm.getD 40 undef :: tm.getD 41 undef :: tm.getD 42 undef :: tm.getD 43 undef :: tm.getD 44 undef :: tm.getD 45 undef :: tm.getD 46 undef :: tm.getD 47 undef :: tm.getD 48 undef :: tm.getD 49 undef :: tm.getD 50 undef :: tm.getD 51 undef :: tm.getD 52 undef :: tm.getD 53 undef :: tm.getD 54 undef :: tm.getD 55 undef :: tm.getD 56 undef :: tm.getD 57 undef :: tm.getD 58 undef :: tm.getD 59 undef :: tm.getD 60 undef :: tm.getD 61 undef :: tm.getD 62 undef :: tm.getD 63 undef :: tm.getD 64 undef :: tm.getD 65 undef :: tm.getD 66 undef :: tm.getD 67 undef :: tm.getD 68 undef :: tm.getD 69 undef :: tm.getD 70 undef :: tm.getD 71 undef :: tm.getD 72 undef :: tm.getD 73 undef :: tm.getD 74 undef :: tm.getD 75 undef :: tm.getD 76 undef :: tm.getD 77 undef :: tm.getD 78 undef :: tm.getD 79 undef :: tm.getD 80 undef :: tm.getD 81 undef :: tm.getD 82 undef :: tm.getD 83 undef :: []) = _; rw [e0, e1, e2, e3, e4, e5, e6, e7, e8, e9, e10, e11, e12, e13, e14, e15, e16, e17, e18, e19, e20, e21, e22, e23, e24, e25, e26, e27, e28, e29, e30, e31, e32, e33, e34, e35, e36, e37, e38, e39, e40, e41, e42, e43, e44, e45, e46, e47, e48, e49, e50, e51, e52, e53, e54, e59, e60, e61, e62, e63, e64, e65, e66, e67, e68, e69, e70, e71, e72, e73, e74, e75, e76, e77, e78, e79, e80, e81, e82, e83]; try rfl)
              clear hs hk hG e0 e1 e2 e3 e4 e5 e6 e7 e8 e9 e10 e11 e12 e13 e14 e15 e16 e17 e18 e19 e20 e21 e22 e23 e24 e25 e26 e27 e28 e29 e30 e31 e32 e33 e34 e35 e36 e37 e38 e39 e40 e41 e42 e43 e44 e45 e46 e47 e48 e49 e50 e51 e52 e53 e54 e59 e60 e61 e62 e63 e64 e65 e66 e67 e68 e69 e70 e71 e72 e73 e74 e75 e76 e77 e78 e79 e80 e81 e82 e83
              generalize tm.getD 55 undef = t55 at htm g55
              generalize tm.getD 56 undef = t56 at htm g56
              generalize tm.getD 57 undef = t57 at htm g57
              generalize tm.getD 58 undef = t58 at htm g58
              subst htm
              subst g55
              simp only [List.drop_succ_cons, List.drop_zero]
              obtain ⟨x8, rfl, hx8⟩ := g58
              obtain ⟨px8, cx8, rfl, hxc8, hxl8, hxm8⟩ := hx8
              have hPre : Below w.heap.size w W := hA5.trans (hB.mono hA5.size)
              have hqt := hht.below hB
              have hqtc := hhtc.below hB
              have hqg := hhg.below hB
              have hqE7 := hE7_7.below hB
              have hqE8 := hE8_7.below hB
              have hqE10 := hE10_7.below hB
              have hqE11 := hE11_7.below hB
              have hqE13 := hE7a.below hB
              clear g56 g57 hht hhtc hhg hB hA5 hE7_7 hE8_7 hE10_7 hE11_7 hE7a
              go_upto_region 9 with fail
              obtain ⟨X8, hX8⟩ : ∃ X, X = W.alloc (.cells #[.int .i64 fa.1, .slice px8 fa.2.length cx8] 24) := ⟨_, rfl⟩
              have hbX : Below W.heap.size W X8 := by rw [hX8]; go_grown
              obtain ⟨n8, hn8⟩ : ∃ n, n = W.heap.size := ⟨_, rfl⟩
              have hE8a : LBg fa X8 W.heap.size 0 := lbg_new (by rw [hX8]; simp) (by rw [hX8]; simp [go_sem]) (by rw [hX8]; simp [go_sem]) hxc8 hbX hxl8 hxm8
              have hit := hqt.below hbX
              have hitc := hqtc.below hbX
              have hig := hqg.below hbX
              have hE7_8 := hqE7.below hbX
              have hE8_8 := hqE8.below hbX
              have hE10_8 := hqE10.below hbX
              have hE11_8 := hqE11.below hbX
              have hE13_8 := hqE13.below hbX
              have hA6 : Below w.heap.size w X8 := hPre.trans (hbX.mono hPre.size)
              rw [← hX8]
              rw [← hn8] at hE8a ⊢
              clear hX8 hbX hn8 hPre hqt hqtc hqg hqE7 hqE8 hqE10 hqE11 hqE13 hxc8
              refine wp_region_monoF 23 (fun kq v W => match kq with | 61 => v = .int .i64 oe | 62 => v = .int .i64 oe | 63 => v = .bool (oe == oe) | 64 => v = .bool (oe == oe) | 65 => ((oe == oe) = true → LVg oa v W) | 66 => ((oe == oe) = true → LVg oa v W) | 67 => ((oe == oe) = true → v = .bool (sameS oa.1 oa.1 oa.2 oa.2)) | 68 => v = .bool ((oe == oe) && (sameS oa.1 oa.1 oa.2 oa.2)) | 69 => v = .bool ((oe == oe) && (sameS oa.1 oa.1 oa.2 oa.2)) | 70 => (((oe == oe) && (sameS oa.1 oa.1 oa.2 oa.2)) = true → LVg ob v W) | 71 => (((oe == oe) && (sameS oa.1 oa.1 oa.2 oa.2)) = true → LVg ob v W) | 72 => (((oe == oe) && (sameS oa.1 oa.1 oa.2 oa.2)) = true → v = .bool (sameS ob.1 ob.1 ob.2 ob.2)) | 73 => v = .bool (((oe == oe) && (sameS oa.1 oa.1 oa.2 oa.2)) && (sameS ob.1 ob.1 ob.2 ob.2)) | 74 => v = .bool (((oe == oe) && (sameS oa.1 oa.1 oa.2 oa.2)) && (sameS ob.1 ob.1 ob.2 ob.2)) | 75 => ((((oe == oe) && (sameS oa.1 oa.1 oa.2 oa.2)) && (sameS ob.1 ob.1 ob.2 ob.2)) = true → v = .int .i64 fe) | 76 => ((((oe == oe) && (sameS oa.1 oa.1 oa.2 oa.2)) && (sameS ob.1 ob.1 ob.2 ob.2)) = true → v = .int .i64 fe) | 77 => ((((oe == oe) && (sameS oa.1 oa.1 oa.2 oa.2)) && (sameS ob.1 ob.1 ob.2 ob.2)) = true → v = .bool (fe == fe)) | 78 => v = .bool ((((oe == oe) && (sameS oa.1 oa.1 oa.2 oa.2)) && (sameS ob.1 ob.1 ob.2 ob.2)) && (fe == fe)) | 79 => v = .bool ((((oe == oe) && (sameS oa.1 oa.1 oa.2 oa.2)) && (sameS ob.1 ob.1 ob.2 ob.2)) && (fe == fe)) | 80 => (((((oe == oe) && (sameS oa.1 oa.1 oa.2 oa.2)) && (sameS ob.1 ob.1 ob.2 ob.2)) && (fe == fe)) = true → LVg fa v W) | 81 => (((((oe == oe) && (sameS oa.1 oa.1 oa.2 oa.2)) && (sameS ob.1 ob.1 ob.2 ob.2)) && (fe == fe)) = true → LVg fa v W) | 82 => (((((oe == oe) && (sameS oa.1 oa.1 oa.2 oa.2)) && (sameS ob.1 ob.1 ob.2 ob.2)) && (fe == fe)) = true → v = .bool (sameS fa.1 fa.1 fa.2 fa.2)) | 83 => v = .bool (((((oe == oe) && (sameS oa.1 oa.1 oa.2 oa.2)) && (sameS ob.1 ob.1 ob.2 ob.2)) && (fe == fe)) && (sameS fa.1 fa.1 fa.2 fa.2)) | _ => True) (by kernel_rfl) (by kernel_rfl) (by simp) ?_ ?_ ?_
              · intro kq v W W' h hb
                revert h
                try dsimp only
                split
                · intro h; exact h
                · intro h; exact h
                · intro h; exact h
                · intro h; exact h
                · intro h' e; have h := h' e; exact LVg.below h hb
                · intro h' e; have h := h' e; exact LVg.below h hb
                · intro h' e; have h := h' e; exact h
                · intro h; exact h
                · intro h; exact h
                · intro h' e; have h := h' e; exact LVg.below h hb
                · intro h' e; have h := h' e; exact LVg.below h hb
                · intro h' e; have h := h' e; exact h
                · intro h; exact h
                · intro h; exact h
                · intro h' e; have h := h' e; exact h
                · intro h' e; have h := h' e; exact h
                · intro h' e; have h := h' e; exact h
                · intro h; exact h
                · intro h; exact h
                · intro h' e; have h := h' e; exact LVg.below h hb
                · intro h' e; have h := h' e; exact LVg.below h hb
                · intro h' e; have h := h' e; exact h
                · intro h; exact h
                · intro h; trivial
              · intro a' W hB hs hk i o d ho hd hG
                match i, ho with
                | 0, ho =>
                  obtain rfl : _ = o := Option.some.inj ho
                  obtain rfl : 61 = d := Option.some.inj hd
                  exact .inr ⟨rfl, .inl ⟨_, W, run_move (hk 9 (by kernel_rfl)), Below.refl _ _, rfl⟩⟩
                | 1, ho =>
                  obtain rfl : _ = o := Option.some.inj ho
                  obtain rfl : 62 = d := Option.some.inj hd
                  exact .inr ⟨rfl, .inl ⟨_, W, run_move (hk 12 (by kernel_rfl)), Below.refl _ _, rfl⟩⟩
                | 2, ho =>
                  obtain rfl : _ = o := Option.some.inj ho
                  obtain rfl : 63 = d := Option.some.inj hd
                  have g61 : (a'.eval (.tmp 61)) = .int .i64 oe := hG ⟨0, .data⟩ (by simp) rfl 61 rfl
                  have g62 : (a'.eval (.tmp 62)) = .int .i64 oe := hG ⟨1, .data⟩ (by simp) rfl 62 rfl
                  exact .inr ⟨rfl, .inl ⟨_, W, run_eqE g61 g62, Below.refl _ _, rfl⟩⟩
                | 3, ho =>
                  obtain rfl : _ = o := Option.some.inj ho
                  obtain rfl : 64 = d := Option.some.inj hd
                  have g63 : (a'.eval (.tmp 63)) = .bool (oe == oe) := hG ⟨2, .data⟩ (by simp) rfl 63 rfl
                  exact .inr ⟨rfl, .inl ⟨_, W, run_move rfl, Below.refl _ _, g63⟩⟩
                | 4, ho =>
                  obtain rfl : _ = o := Option.some.inj ho
                  obtain rfl : 65 = d := Option.some.inj hd
                  have gg : a'.eval (.tmp 64) = .bool (oe == oe) := hG ⟨3, .guard⟩ (by simp) rfl 64 rfl
                  by_cases hgc_ : (oe == oe) = true
                  · obtain ⟨v, hr, hv⟩ := run_loadLg (ev := a'.eval) (W := W) (hk 7 (by kernel_rfl)) (hE7_8.below hB)
                    exact .inr ⟨want_yes (n := 84) (d := 64) rfl hs (by decide) rfl (gg.trans (by rw [hgc_])), .inl ⟨v, W, hr, Below.refl _ _, fun _ => hv⟩⟩
                  · exact .inl ⟨want_no (n := 84) (d := 64) rfl hs (by decide) rfl gg hgc_, fun e => absurd e hgc_⟩
                | 5, ho =>
                  obtain rfl : _ = o := Option.some.inj ho
                  obtain rfl : 66 = d := Option.some.inj hd
                  have gg : a'.eval (.tmp 64) = .bool (oe == oe) := hG ⟨3, .guard⟩ (by simp) rfl 64 rfl
                  by_cases hgc_ : (oe == oe) = true
                  · obtain ⟨v, hr, hv⟩ := run_loadLg (ev := a'.eval) (W := W) (hk 10 (by kernel_rfl)) (hE10_8.below hB)
                    exact .inr ⟨want_yes (n := 84) (d := 64) rfl hs (by decide) rfl (gg.trans (by rw [hgc_])), .inl ⟨v, W, hr, Below.refl _ _, fun _ => hv⟩⟩
                  · exact .inl ⟨want_no (n := 84) (d := 64) rfl hs (by decide) rfl gg hgc_, fun e => absurd e hgc_⟩
                | 6, ho =>
                  obtain rfl : _ = o := Option.some.inj ho
                  obtain rfl : 67 = d := Option.some.inj hd
                  have gg : a'.eval (.tmp 64) = .bool (oe == oe) := hG ⟨3, .guard⟩ (by simp) rfl 64 rfl
                  by_cases hgc_ : (oe == oe) = true
                  · have g65 : LVg oa (a'.eval (.tmp 65)) W := hG ⟨4, .data⟩ (by simp) rfl 65 rfl hgc_
                    have g66 : LVg oa (a'.eval (.tmp 66)) W := hG ⟨5, .data⟩ (by simp) rfl 66 rfl hgc_
                    exact .inr ⟨want_yes (n := 84) (d := 64) rfl hs (by decide) rfl (gg.trans (by rw [hgc_])), .inr ⟨_, _, run_call rfl map_2 ent_gatehouseref01_Same, (Same_g g65 g66).mono (fun e W' ⟨v, he, hb, hv⟩ => ⟨v, he, hb, fun _ => hv⟩)⟩⟩
                  · exact .inl ⟨want_no (n := 84) (d := 64) rfl hs (by decide) rfl gg hgc_, fun e => absurd e hgc_⟩
                | 7, ho =>
                  obtain rfl : _ = o := Option.some.inj ho
                  obtain rfl : 68 = d := Option.some.inj hd
                  have g64 : (a'.eval (.tmp 64)) = .bool (oe == oe) := hG ⟨3, .data⟩ (by simp) rfl 64 rfl
                  by_cases hq : (oe == oe) = true
                  · exact .inr ⟨rfl, .inl ⟨_, W, run_pick_yes (g64.trans (by rw [hq])) (hG ⟨6, .data⟩ (by simp) rfl 67 rfl hq), Below.refl _ _, by rw [hq]; rfl⟩⟩
                  · have hq' : (oe == oe) = false := eq_false_of_ne_true hq
                    exact .inr ⟨rfl, .inl ⟨_, W, run_pick_no (g64.trans (by rw [hq'])) rfl, Below.refl _ _, by rw [hq']; rfl⟩⟩
                | 8, ho =>
                  obtain rfl : _ = o := Option.some.inj ho
                  obtain rfl : 69 = d := Option.some.inj hd
                  have g68 : (a'.eval (.tmp 68)) = .bool ((oe == oe) && (sameS oa.1 oa.1 oa.2 oa.2)) := hG ⟨7, .data⟩ (by simp) rfl 68 rfl
                  exact .inr ⟨rfl, .inl ⟨_, W, run_move rfl, Below.refl _ _, g68⟩⟩
                | 9, ho =>
                  obtain rfl : _ = o := Option.some.inj ho
                  obtain rfl : 70 = d := Option.some.inj hd
                  have gg : a'.eval (.tmp 69) = .bool ((oe == oe) && (sameS oa.1 oa.1 oa.2 oa.2)) := hG ⟨8, .guard⟩ (by simp) rfl 69 rfl
                  by_cases hgc_ : ((oe == oe) && (sameS oa.1 oa.1 oa.2 oa.2)) = true
                  · obtain ⟨v, hr, hv⟩ := run_loadLg (ev := a'.eval) (W := W) (hk 8 (by kernel_rfl)) (hE8_8.below hB)
                    exact .inr ⟨want_yes (n := 84) (d := 69) rfl hs (by decide) rfl (gg.trans (by rw [hgc_])), .inl ⟨v, W, hr, Below.refl _ _, fun _ => hv⟩⟩
                  · exact .inl ⟨want_no (n := 84) (d := 69) rfl hs (by decide) rfl gg hgc_, fun e => absurd e hgc_⟩
                | 10, ho =>
                  obtain rfl : _ = o := Option.some.inj ho
                  obtain rfl : 71 = d := Option.some.inj hd
                  have gg : a'.eval (.tmp 69) = .bool ((oe == oe) && (sameS oa.1 oa.1 oa.2 oa.2)) := hG ⟨8, .guard⟩ (by simp) rfl 69 rfl
                  by_cases hgc_ : ((oe == oe) && (sameS oa.1 oa.1 oa.2 oa.2)) = true
                  · obtain ⟨v, hr, hv⟩ := run_loadLg (ev := a'.eval) (W := W) (hk 11 (by kernel_rfl)) (hE11_8.below hB)
                    exact .inr ⟨want_yes (n := 84) (d := 69) rfl hs (by decide) rfl (gg.trans (by rw [hgc_])), .inl ⟨v, W, hr, Below.refl _ _, fun _ => hv⟩⟩
                  · exact .inl ⟨want_no (n := 84) (d := 69) rfl hs (by decide) rfl gg hgc_, fun e => absurd e hgc_⟩
                | 11, ho =>
                  obtain rfl : _ = o := Option.some.inj ho
                  obtain rfl : 72 = d := Option.some.inj hd
                  have gg : a'.eval (.tmp 69) = .bool ((oe == oe) && (sameS oa.1 oa.1 oa.2 oa.2)) := hG ⟨8, .guard⟩ (by simp) rfl 69 rfl
                  by_cases hgc_ : ((oe == oe) && (sameS oa.1 oa.1 oa.2 oa.2)) = true
                  · have g70 : LVg ob (a'.eval (.tmp 70)) W := hG ⟨9, .data⟩ (by simp) rfl 70 rfl hgc_
                    have g71 : LVg ob (a'.eval (.tmp 71)) W := hG ⟨10, .data⟩ (by simp) rfl 71 rfl hgc_
                    exact .inr ⟨want_yes (n := 84) (d := 69) rfl hs (by decide) rfl (gg.trans (by rw [hgc_])), .inr ⟨_, _, run_call rfl map_2 ent_gatehouseref01_Same, (Same_g g70 g71).mono (fun e W' ⟨v, he, hb, hv⟩ => ⟨v, he, hb, fun _ => hv⟩)⟩⟩
                  · exact .inl ⟨want_no (n := 84) (d := 69) rfl hs (by decide) rfl gg hgc_, fun e => absurd e hgc_⟩
                | 12, ho =>
                  obtain rfl : _ = o := Option.some.inj ho
                  obtain rfl : 73 = d := Option.some.inj hd
                  have g69 : (a'.eval (.tmp 69)) = .bool ((oe == oe) && (sameS oa.1 oa.1 oa.2 oa.2)) := hG ⟨8, .data⟩ (by simp) rfl 69 rfl
                  by_cases hq : ((oe == oe) && (sameS oa.1 oa.1 oa.2 oa.2)) = true
                  · exact .inr ⟨rfl, .inl ⟨_, W, run_pick_yes (g69.trans (by rw [hq])) (hG ⟨11, .data⟩ (by simp) rfl 72 rfl hq), Below.refl _ _, by rw [hq]; rfl⟩⟩
                  · have hq' : ((oe == oe) && (sameS oa.1 oa.1 oa.2 oa.2)) = false := eq_false_of_ne_true hq
                    exact .inr ⟨rfl, .inl ⟨_, W, run_pick_no (g69.trans (by rw [hq'])) rfl, Below.refl _ _, by rw [hq']; rfl⟩⟩
                | 13, ho =>
                  obtain rfl : _ = o := Option.some.inj ho
                  obtain rfl : 74 = d := Option.some.inj hd
                  have g73 : (a'.eval (.tmp 73)) = .bool (((oe == oe) && (sameS oa.1 oa.1 oa.2 oa.2)) && (sameS ob.1 ob.1 ob.2 ob.2)) := hG ⟨12, .data⟩ (by simp) rfl 73 rfl
                  exact .inr ⟨rfl, .inl ⟨_, W, run_move rfl, Below.refl _ _, g73⟩⟩
                | 14, ho =>
                  obtain rfl : _ = o := Option.some.inj ho
                  obtain rfl : 75 = d := Option.some.inj hd
                  have gg : a'.eval (.tmp 74) = .bool (((oe == oe) && (sameS oa.1 oa.1 oa.2 oa.2)) && (sameS ob.1 ob.1 ob.2 ob.2)) := hG ⟨13, .guard⟩ (by simp) rfl 74 rfl
                  by_cases hgc_ : (((oe == oe) && (sameS oa.1 oa.1 oa.2 oa.2)) && (sameS ob.1 ob.1 ob.2 ob.2)) = true
                  · exact .inr ⟨want_yes (n := 84) (d := 74) rfl hs (by decide) rfl (gg.trans (by rw [hgc_])), .inl ⟨_, W, run_move (hk 14 (by kernel_rfl)), Below.refl _ _, fun _ => rfl⟩⟩
                  · exact .inl ⟨want_no (n := 84) (d := 74) rfl hs (by decide) rfl gg hgc_, fun e => absurd e hgc_⟩
                | 15, ho =>
                  obtain rfl : _ = o := Option.some.inj ho
                  obtain rfl : 76 = d := Option.some.inj hd
                  have gg : a'.eval (.tmp 74) = .bool (((oe == oe) && (sameS oa.1 oa.1 oa.2 oa.2)) && (sameS ob.1 ob.1 ob.2 ob.2)) := hG ⟨13, .guard⟩ (by simp) rfl 74 rfl
                  by_cases hgc_ : (((oe == oe) && (sameS oa.1 oa.1 oa.2 oa.2)) && (sameS ob.1 ob.1 ob.2 ob.2)) = true
                  · exact .inr ⟨want_yes (n := 84) (d := 74) rfl hs (by decide) rfl (gg.trans (by rw [hgc_])), .inl ⟨_, W, run_move (hk 16 (by kernel_rfl)), Below.refl _ _, fun _ => rfl⟩⟩
                  · exact .inl ⟨want_no (n := 84) (d := 74) rfl hs (by decide) rfl gg hgc_, fun e => absurd e hgc_⟩
                | 16, ho =>
                  obtain rfl : _ = o := Option.some.inj ho
                  obtain rfl : 77 = d := Option.some.inj hd
                  have gg : a'.eval (.tmp 74) = .bool (((oe == oe) && (sameS oa.1 oa.1 oa.2 oa.2)) && (sameS ob.1 ob.1 ob.2 ob.2)) := hG ⟨13, .guard⟩ (by simp) rfl 74 rfl
                  by_cases hgc_ : (((oe == oe) && (sameS oa.1 oa.1 oa.2 oa.2)) && (sameS ob.1 ob.1 ob.2 ob.2)) = true
                  · have g75 : (a'.eval (.tmp 75)) = .int .i64 fe := hG ⟨14, .data⟩ (by simp) rfl 75 rfl hgc_
                    have g76 : (a'.eval (.tmp 76)) = .int .i64 fe := hG ⟨15, .data⟩ (by simp) rfl 76 rfl hgc_
                    exact .inr ⟨want_yes (n := 84) (d := 74) rfl hs (by decide) rfl (gg.trans (by rw [hgc_])), .inl ⟨_, W, run_eqE g75 g76, Below.refl _ _, fun _ => rfl⟩⟩
                  · exact .inl ⟨want_no (n := 84) (d := 74) rfl hs (by decide) rfl gg hgc_, fun e => absurd e hgc_⟩
                | 17, ho =>
                  obtain rfl : _ = o := Option.some.inj ho
                  obtain rfl : 78 = d := Option.some.inj hd
                  have g74 : (a'.eval (.tmp 74)) = .bool (((oe == oe) && (sameS oa.1 oa.1 oa.2 oa.2)) && (sameS ob.1 ob.1 ob.2 ob.2)) := hG ⟨13, .data⟩ (by simp) rfl 74 rfl
                  by_cases hq : (((oe == oe) && (sameS oa.1 oa.1 oa.2 oa.2)) && (sameS ob.1 ob.1 ob.2 ob.2)) = true
                  · exact .inr ⟨rfl, .inl ⟨_, W, run_pick_yes (g74.trans (by rw [hq])) (hG ⟨16, .data⟩ (by simp) rfl 77 rfl hq), Below.refl _ _, by rw [hq]; rfl⟩⟩
                  · have hq' : (((oe == oe) && (sameS oa.1 oa.1 oa.2 oa.2)) && (sameS ob.1 ob.1 ob.2 ob.2)) = false := eq_false_of_ne_true hq
                    exact .inr ⟨rfl, .inl ⟨_, W, run_pick_no (g74.trans (by rw [hq'])) rfl, Below.refl _ _, by rw [hq']; rfl⟩⟩
                | 18, ho =>
                  obtain rfl : _ = o := Option.some.inj ho
                  obtain rfl : 79 = d := Option.some.inj hd
                  have g78 : (a'.eval (.tmp 78)) = .bool ((((oe == oe) && (sameS oa.1 oa.1 oa.2 oa.2)) && (sameS ob.1 ob.1 ob.2 ob.2)) && (fe == fe)) := hG ⟨17, .data⟩ (by simp) rfl 78 rfl
                  exact .inr ⟨rfl, .inl ⟨_, W, run_move rfl, Below.refl _ _, g78⟩⟩
                | 19, ho =>
                  obtain rfl : _ = o := Option.some.inj ho
                  obtain rfl : 80 = d := Option.some.inj hd
                  have gg : a'.eval (.tmp 79) = .bool ((((oe == oe) && (sameS oa.1 oa.1 oa.2 oa.2)) && (sameS ob.1 ob.1 ob.2 ob.2)) && (fe == fe)) := hG ⟨18, .guard⟩ (by simp) rfl 79 rfl
                  by_cases hgc_ : ((((oe == oe) && (sameS oa.1 oa.1 oa.2 oa.2)) && (sameS ob.1 ob.1 ob.2 ob.2)) && (fe == fe)) = true
                  · obtain ⟨v, hr, hv⟩ := run_loadLg (ev := a'.eval) (W := W) (hk 13 (by kernel_rfl)) (hE13_8.below hB)
                    exact .inr ⟨want_yes (n := 84) (d := 79) rfl hs (by decide) rfl (gg.trans (by rw [hgc_])), .inl ⟨v, W, hr, Below.refl _ _, fun _ => hv⟩⟩
                  · exact .inl ⟨want_no (n := 84) (d := 79) rfl hs (by decide) rfl gg hgc_, fun e => absurd e hgc_⟩
                | 20, ho =>
                  obtain rfl : _ = o := Option.some.inj ho
                  obtain rfl : 81 = d := Option.some.inj hd
                  have gg : a'.eval (.tmp 79) = .bool ((((oe == oe) && (sameS oa.1 oa.1 oa.2 oa.2)) && (sameS ob.1 ob.1 ob.2 ob.2)) && (fe == fe)) := hG ⟨18, .guard⟩ (by simp) rfl 79 rfl
                  by_cases hgc_ : ((((oe == oe) && (sameS oa.1 oa.1 oa.2 oa.2)) && (sameS ob.1 ob.1 ob.2 ob.2)) && (fe == fe)) = true
                  · obtain ⟨v, hr, hv⟩ := run_loadLg (ev := a'.eval) (W := W) (hk 15 (by kernel_rfl)) (hE8a.below hB)
                    exact .inr ⟨want_yes (n := 84) (d := 79) rfl hs (by decide) rfl (gg.trans (by rw [hgc_])), .inl ⟨v, W, hr, Below.refl _ _, fun _ => hv⟩⟩
                  · exact .inl ⟨want_no (n := 84) (d := 79) rfl hs (by decide) rfl gg hgc_, fun e => absurd e hgc_⟩
                | 21, ho =>
                  obtain rfl : _ = o := Option.some.inj ho
                  obtain rfl : 82 = d := Option.some.inj hd
                  have gg : a'.eval (.tmp 79) = .bool ((((oe == oe) && (sameS oa.1 oa.1 oa.2 oa.2)) && (sameS ob.1 ob.1 ob.2 ob.2)) && (fe == fe)) := hG ⟨18, .guard⟩ (by simp) rfl 79 rfl
                  by_cases hgc_ : ((((oe == oe) && (sameS oa.1 oa.1 oa.2 oa.2)) && (sameS ob.1 ob.1 ob.2 ob.2)) && (fe == fe)) = true
                  · have g80 : LVg fa (a'.eval (.tmp 80)) W := hG ⟨19, .data⟩ (by simp) rfl 80 rfl hgc_
                    have g81 : LVg fa (a'.eval (.tmp 81)) W := hG ⟨20, .data⟩ (by simp) rfl 81 rfl hgc_
                    exact .inr ⟨want_yes (n := 84) (d := 79) rfl hs (by decide) rfl (gg.trans (by rw [hgc_])), .inr ⟨_, _, run_call rfl map_2 ent_gatehouseref01_Same, (Same_g g80 g81).mono (fun e W' ⟨v, he, hb, hv⟩ => ⟨v, he, hb, fun _ => hv⟩)⟩⟩
                  · exact .inl ⟨want_no (n := 84) (d := 79) rfl hs (by decide) rfl gg hgc_, fun e => absurd e hgc_⟩
                | 22, ho =>
                  obtain rfl : _ = o := Option.some.inj ho
                  obtain rfl : 83 = d := Option.some.inj hd
                  have g79 : (a'.eval (.tmp 79)) = .bool ((((oe == oe) && (sameS oa.1 oa.1 oa.2 oa.2)) && (sameS ob.1 ob.1 ob.2 ob.2)) && (fe == fe)) := hG ⟨18, .data⟩ (by simp) rfl 79 rfl
                  by_cases hq : ((((oe == oe) && (sameS oa.1 oa.1 oa.2 oa.2)) && (sameS ob.1 ob.1 ob.2 ob.2)) && (fe == fe)) = true
                  · exact .inr ⟨rfl, .inl ⟨_, W, run_pick_yes (g79.trans (by rw [hq])) (hG ⟨21, .data⟩ (by simp) rfl 82 rfl hq), Below.refl _ _, by rw [hq]; rfl⟩⟩
                  · have hq' : ((((oe == oe) && (sameS oa.1 oa.1 oa.2 oa.2)) && (sameS ob.1 ob.1 ob.2 ob.2)) && (fe == fe)) = false := eq_false_of_ne_true hq
                    exact .inr ⟨rfl, .inl ⟨_, W, run_pick_no (g79.trans (by rw [hq'])) rfl, Below.refl _ _, by rw [hq']; rfl⟩⟩
                | j + 23, ho => simp at ho
              · intro a' W hB hs hdf hk hG
                obtain ⟨tm, df⟩ := a'
                obtain rfl : df = [] := hdf
                have e0 : tm.getD 0 undef = .agg #[.int .i64 t.fst, .slice pt t.snd.length ct, .int .i64 tc.fst, .slice ptc tc.snd.length ctc] := hk 0 (by kernel_rfl)
                have e1 : tm.getD 1 undef = .agg #[.int .i64 g.fst, .slice pg g.snd.length cg] := hk 1 (by kernel_rfl)
                have e2 : tm.getD 2 undef = .int .i64 cat := hk 2 (by kernel_rfl)
                have e3 : tm.getD 3 undef = .pointer (some ⟨w.heap.size, 0, none⟩) := hk 3 (by kernel_rfl)
                have e4 : tm.getD 4 undef = .pointer (some ⟨w.heap.size + 1, 0, none⟩) := hk 4 (by kernel_rfl)
                have e5 : tm.getD 5 undef = undef := hk 5 (by kernel_rfl)
                have e6 : tm.getD 6 undef = .bool false := hk 6 (by kernel_rfl)
                have e7 : tm.getD 7 undef = .pointer (some ⟨n5, 0, none⟩) := hk 7 (by kernel_rfl)
                have e8 : tm.getD 8 undef = .pointer (some ⟨n5 + 1, 0, none⟩) := hk 8 (by kernel_rfl)
                have e9 : tm.getD 9 undef = .int .i64 oe := hk 9 (by kernel_rfl)
                have e10 : tm.getD 10 undef = .pointer (some ⟨n6, 0, none⟩) := hk 10 (by kernel_rfl)
                have e11 : tm.getD 11 undef = .pointer (some ⟨n6 + 1, 0, none⟩) := hk 11 (by kernel_rfl)
                have e12 : tm.getD 12 undef = .int .i64 oe := hk 12 (by kernel_rfl)
                have e13 : tm.getD 13 undef = .pointer (some ⟨n7, 0, none⟩) := hk 13 (by kernel_rfl)
                have e14 : tm.getD 14 undef = .int .i64 fe := hk 14 (by kernel_rfl)
                have e15 : tm.getD 15 undef = .pointer (some ⟨n8, 0, none⟩) := hk 15 (by kernel_rfl)
                have e16 : tm.getD 16 undef = .int .i64 fe := hk 16 (by kernel_rfl)
                have e17 : tm.getD 17 undef = .bool true := hk 17 (by kernel_rfl)
                have e18 : tm.getD 18 undef = .bool false := hk 18 (by kernel_rfl)
                have e19 : tm.getD 19 undef = .pointer (some ⟨w.heap.size, 0, none⟩) := hk 19 (by kernel_rfl)
                have e20 : tm.getD 20 undef = t20 := hk 20 (by kernel_rfl)
                have e21 : tm.getD 21 undef = .pointer (some ⟨w.heap.size, 2, none⟩) := hk 21 (by kernel_rfl)
                have e22 : tm.getD 22 undef = t22 := hk 22 (by kernel_rfl)
                have e23 : tm.getD 23 undef = t23 := hk 23 (by kernel_rfl)
                have e24 : tm.getD 24 undef = t24 := hk 24 (by kernel_rfl)
                have e25 : tm.getD 25 undef = .bool true := hk 25 (by kernel_rfl)
                have e26 : tm.getD 26 undef = .bool !true := hk 26 (by kernel_rfl)
                have e27 : tm.getD 27 undef = .tuple #[.agg #[.int .i64 oa.fst, .slice px5 oa.snd.length cx5], .agg #[.int .i64 ob.fst, .slice py5 ob.snd.length cy5], .int .i64 oe] := hk 27 (by kernel_rfl)
                have e28 : tm.getD 28 undef = .pointer (some ⟨w.heap.size, 0, none⟩) := hk 28 (by kernel_rfl)
                have e29 : tm.getD 29 undef = t29 := hk 29 (by kernel_rfl)
                have e30 : tm.getD 30 undef = .pointer (some ⟨w.heap.size, 2, none⟩) := hk 30 (by kernel_rfl)
                have e31 : tm.getD 31 undef = t31 := hk 31 (by kernel_rfl)
                have e32 : tm.getD 32 undef = .int .i64 cat := hk 32 (by kernel_rfl)
                have e33 : tm.getD 33 undef = .tuple #[.agg #[.int .i64 oa.fst, .slice px5 oa.snd.length cx5], .agg #[.int .i64 ob.fst, .slice py5 ob.snd.length cy5], .int .i64 oe] := hk 33 (by kernel_rfl)
                have e34 : tm.getD 34 undef = .agg #[.int .i64 oa.fst, .slice px5 oa.snd.length cx5] := hk 34 (by kernel_rfl)
                have e35 : tm.getD 35 undef = .agg #[.int .i64 ob.fst, .slice py5 ob.snd.length cy5] := hk 35 (by kernel_rfl)
                have e36 : tm.getD 36 undef = .int .i64 oe := hk 36 (by kernel_rfl)
                have e37 : tm.getD 37 undef = .tuple #[.agg #[.int .i64 oa.fst, .slice px6 oa.snd.length cx6], .agg #[.int .i64 ob.fst, .slice py6 ob.snd.length cy6], .int .i64 oe] := hk 37 (by kernel_rfl)
                have e38 : tm.getD 38 undef = .pointer (some ⟨w.heap.size, 0, none⟩) := hk 38 (by kernel_rfl)
                have e39 : tm.getD 39 undef = t39 := hk 39 (by kernel_rfl)
                have e40 : tm.getD 40 undef = .pointer (some ⟨w.heap.size, 2, none⟩) := hk 40 (by kernel_rfl)
                have e41 : tm.getD 41 undef = t41 := hk 41 (by kernel_rfl)
                have e42 : tm.getD 42 undef = .int .i64 cat := hk 42 (by kernel_rfl)
                have e43 : tm.getD 43 undef = .tuple #[.agg #[.int .i64 oa.fst, .slice px6 oa.snd.length cx6], .agg #[.int .i64 ob.fst, .slice py6 ob.snd.length cy6], .int .i64 oe] := hk 43 (by kernel_rfl)
                have e44 : tm.getD 44 undef = .agg #[.int .i64 oa.fst, .slice px6 oa.snd.length cx6] := hk 44 (by kernel_rfl)
                have e45 : tm.getD 45 undef = .agg #[.int .i64 ob.fst, .slice py6 ob.snd.length cy6] := hk 45 (by kernel_rfl)
                have e46 : tm.getD 46 undef = .int .i64 oe := hk 46 (by kernel_rfl)
                have e47 : tm.getD 47 undef = .tuple #[.agg #[.int .i64 fa.fst, .slice px7 fa.snd.length cx7], .int .i64 fe] := hk 47 (by kernel_rfl)
                have e48 : tm.getD 48 undef = .pointer (some ⟨w.heap.size, 0, none⟩) := hk 48 (by kernel_rfl)
                have e49 : tm.getD 49 undef = t49 := hk 49 (by kernel_rfl)
                have e50 : tm.getD 50 undef = t50 := hk 50 (by kernel_rfl)
                have e51 : tm.getD 51 undef = .tuple #[.agg #[.int .i64 fa.fst, .slice px7 fa.snd.length cx7], .int .i64 fe] := hk 51 (by kernel_rfl)
                have e52 : tm.getD 52 undef = .agg #[.int .i64 fa.fst, .slice px7 fa.snd.length cx7] := hk 52 (by kernel_rfl)
                have e53 : tm.getD 53 undef = .int .i64 fe := hk 53 (by kernel_rfl)
                have e54 : tm.getD 54 undef = .tuple #[.agg #[.int .i64 fa.fst, .slice px8 fa.snd.length cx8], .int .i64 fe] := hk 54 (by kernel_rfl)
                have e55 : tm.getD 55 undef = .pointer (some ⟨w.heap.size, 0, none⟩) := hk 55 (by kernel_rfl)
                have e56 : tm.getD 56 undef = t56 := hk 56 (by kernel_rfl)
                have e57 : tm.getD 57 undef = t57 := hk 57 (by kernel_rfl)
                have e58 : tm.getD 58 undef = .tuple #[.agg #[.int .i64 fa.fst, .slice px8 fa.snd.length cx8], .int .i64 fe] := hk 58 (by kernel_rfl)
                have e59 : tm.getD 59 undef = .agg #[.int .i64 fa.fst, .slice px8 fa.snd.length cx8] := hk 59 (by kernel_rfl)
                have e60 : tm.getD 60 undef = .int .i64 fe := hk 60 (by kernel_rfl)
                have g61 : (tm.getD 61 undef) = .int .i64 oe := hG 0 61 (by decide) rfl
                have g62 : (tm.getD 62 undef) = .int .i64 oe := hG 1 62 (by decide) rfl
                have g63 : (tm.getD 63 undef) = .bool (oe == oe) := hG 2 63 (by decide) rfl
                have g64 : (tm.getD 64 undef) = .bool (oe == oe) := hG 3 64 (by decide) rfl
                have g65 : (oe == oe) = true → LVg oa (tm.getD 65 undef) W := hG 4 65 (by decide) rfl
                have g66 : (oe == oe) = true → LVg oa (tm.getD 66 undef) W := hG 5 66 (by decide) rfl
                have g67 : (oe == oe) = true → (tm.getD 67 undef) = .bool (sameS oa.1 oa.1 oa.2 oa.2) := hG 6 67 (by decide) rfl
                have g68 : (tm.getD 68 undef) = .bool ((oe == oe) && (sameS oa.1 oa.1 oa.2 oa.2)) := hG 7 68 (by decide) rfl
                have g69 : (tm.getD 69 undef) = .bool ((oe == oe) && (sameS oa.1 oa.1 oa.2 oa.2)) := hG 8 69 (by decide) rfl
                have g70 : ((oe == oe) && (sameS oa.1 oa.1 oa.2 oa.2)) = true → LVg ob (tm.getD 70 undef) W := hG 9 70 (by decide) rfl
                have g71 : ((oe == oe) && (sameS oa.1 oa.1 oa.2 oa.2)) = true → LVg ob (tm.getD 71 undef) W := hG 10 71 (by decide) rfl
                have g72 : ((oe == oe) && (sameS oa.1 oa.1 oa.2 oa.2)) = true → (tm.getD 72 undef) = .bool (sameS ob.1 ob.1 ob.2 ob.2) := hG 11 72 (by decide) rfl
                have g73 : (tm.getD 73 undef) = .bool (((oe == oe) && (sameS oa.1 oa.1 oa.2 oa.2)) && (sameS ob.1 ob.1 ob.2 ob.2)) := hG 12 73 (by decide) rfl
                have g74 : (tm.getD 74 undef) = .bool (((oe == oe) && (sameS oa.1 oa.1 oa.2 oa.2)) && (sameS ob.1 ob.1 ob.2 ob.2)) := hG 13 74 (by decide) rfl
                have g75 : (((oe == oe) && (sameS oa.1 oa.1 oa.2 oa.2)) && (sameS ob.1 ob.1 ob.2 ob.2)) = true → (tm.getD 75 undef) = .int .i64 fe := hG 14 75 (by decide) rfl
                have g76 : (((oe == oe) && (sameS oa.1 oa.1 oa.2 oa.2)) && (sameS ob.1 ob.1 ob.2 ob.2)) = true → (tm.getD 76 undef) = .int .i64 fe := hG 15 76 (by decide) rfl
                have g77 : (((oe == oe) && (sameS oa.1 oa.1 oa.2 oa.2)) && (sameS ob.1 ob.1 ob.2 ob.2)) = true → (tm.getD 77 undef) = .bool (fe == fe) := hG 16 77 (by decide) rfl
                have g78 : (tm.getD 78 undef) = .bool ((((oe == oe) && (sameS oa.1 oa.1 oa.2 oa.2)) && (sameS ob.1 ob.1 ob.2 ob.2)) && (fe == fe)) := hG 17 78 (by decide) rfl
                have g79 : (tm.getD 79 undef) = .bool ((((oe == oe) && (sameS oa.1 oa.1 oa.2 oa.2)) && (sameS ob.1 ob.1 ob.2 ob.2)) && (fe == fe)) := hG 18 79 (by decide) rfl
                have g80 : ((((oe == oe) && (sameS oa.1 oa.1 oa.2 oa.2)) && (sameS ob.1 ob.1 ob.2 ob.2)) && (fe == fe)) = true → LVg fa (tm.getD 80 undef) W := hG 19 80 (by decide) rfl
                have g81 : ((((oe == oe) && (sameS oa.1 oa.1 oa.2 oa.2)) && (sameS ob.1 ob.1 ob.2 ob.2)) && (fe == fe)) = true → LVg fa (tm.getD 81 undef) W := hG 20 81 (by decide) rfl
                have g82 : ((((oe == oe) && (sameS oa.1 oa.1 oa.2 oa.2)) && (sameS ob.1 ob.1 ob.2 ob.2)) && (fe == fe)) = true → (tm.getD 82 undef) = .bool (sameS fa.1 fa.1 fa.2 fa.2) := hG 21 82 (by decide) rfl
                have g83 : (tm.getD 83 undef) = .bool (((((oe == oe) && (sameS oa.1 oa.1 oa.2 oa.2)) && (sameS ob.1 ob.1 ob.2 ob.2)) && (fe == fe)) && (sameS fa.1 fa.1 fa.2 fa.2)) := hG 22 83 (by decide) rfl
                have htm := arr_of tm ((.agg #[.int .i64 t.fst, .slice pt t.snd.length ct, .int .i64 tc.fst, .slice ptc tc.snd.length ctc] : Value) :: (.agg #[.int .i64 g.fst, .slice pg g.snd.length cg] : Value) :: (.int .i64 cat : Value) :: (.pointer (some ⟨w.heap.size, 0, none⟩) : Value) :: (.pointer (some ⟨w.heap.size + 1, 0, none⟩) : Value) :: (undef : Value) :: (.bool false : Value) :: (.pointer (some ⟨n5, 0, none⟩) : Value) :: (.pointer (some ⟨n5 + 1, 0, none⟩) : Value) :: (.int .i64 oe : Value) :: (.pointer (some ⟨n6, 0, none⟩) : Value) :: (.pointer (some ⟨n6 + 1, 0, none⟩) : Value) :: (.int .i64 oe : Value) :: (.pointer (some ⟨n7, 0, none⟩) : Value) :: (.int .i64 fe : Value) :: (.pointer (some ⟨n8, 0, none⟩) : Value) :: (.int .i64 fe : Value) :: (.bool true : Value) :: (.bool false : Value) :: (.pointer (some ⟨w.heap.size, 0, none⟩) : Value) :: (t20 : Value) :: (.pointer (some ⟨w.heap.size, 2, none⟩) : Value) :: (t22 : Value) :: (t23 : Value) :: (t24 : Value) :: (.bool true : Value) :: (.bool !true : Value) :: (.tuple #[.agg #[.int .i64 oa.fst, .slice px5 oa.snd.length cx5], .agg #[.int .i64 ob.fst, .slice py5 ob.snd.length cy5], .int .i64 oe] : Value) :: (.pointer (some ⟨w.heap.size, 0, none⟩) : Value) :: (t29 : Value) :: (.pointer (some ⟨w.heap.size, 2, none⟩) : Value) :: (t31 : Value) :: (.int .i64 cat : Value) :: (.tuple #[.agg #[.int .i64 oa.fst, .slice px5 oa.snd.length cx5], .agg #[.int .i64 ob.fst, .slice py5 ob.snd.length cy5], .int .i64 oe] : Value) :: (.agg #[.int .i64 oa.fst, .slice px5 oa.snd.length cx5] : Value) :: (.agg #[.int .i64 ob.fst, .slice py5 ob.snd.length cy5] : Value) :: (.int .i64 oe : Value) :: (.tuple #[.agg #[.int .i64 oa.fst, .slice px6 oa.snd.length cx6], .agg #[.int .i64 ob.fst, .slice py6 ob.snd.length cy6], .int .i64 oe] : Value) :: (.pointer (some ⟨w.heap.size, 0, none⟩) : Value) :: (t39 : Value) :: (.pointer (some ⟨w.heap.size, 2, none⟩) : Value) :: (t41 : Value) :: (.int .i64 cat : Value) :: (.tuple #[.agg #[.int .i64 oa.fst, .slice px6 oa.snd.length cx6], .agg #[.int .i64 ob.fst, .slice py6 ob.snd.length cy6], .int .i64 oe] : Value) :: (.agg #[.int .i64 oa.fst, .slice px6 oa.snd.length cx6] : Value) :: (.agg #[.int .i64 ob.fst, .slice py6 ob.snd.length cy6] : Value) :: (.int .i64 oe : Value) :: (.tuple #[.agg #[.int .i64 fa.fst, .slice px7 fa.snd.length cx7], .int .i64 fe] : Value) :: (.pointer (some ⟨w.heap.size, 0, none⟩) : Value) :: (t49 : Value) :: (t50 : Value) :: (.tuple #[.agg #[.int .i64 fa.fst, .slice px7 fa.snd.length cx7], .int .i64 fe] : Value) :: (.agg #[.int .i64 fa.fst, .slice px7 fa.snd.length cx7] : Value) :: (.int .i64 fe : Value) :: (.tuple #[.agg #[.int .i64 fa.fst, .slice px8 fa.snd.length cx8], .int .i64 fe] : Value) :: (.pointer (some ⟨w.heap.size, 0, none⟩) : Value) :: (t56 : Value) :: (t57 : Value) :: (.tuple #[.agg #[.int .i64 fa.fst, .slice px8 fa.snd.length cx8], .int .i64 fe] : Value) :: (.agg #[.int .i64 fa.fst, .slice px8 fa.snd.length cx8] : Value) :: (.int .i64 fe : Value) :: (tm.getD 61 undef : Value) :: (tm.getD 62 undef : Value) :: (tm.getD 63 undef : Value) :: (tm.getD 64 undef : Value) :: (tm.getD 65 undef : Value) :: (tm.getD 66 undef : Value) :: (tm.getD 67 undef : Value) :: (tm.getD 68 undef : Value) :: (tm.getD 69 undef : Value) :: (tm.getD 70 undef : Value) :: (tm.getD 71 undef : Value) :: (tm.getD 72 undef : Value) :: (tm.getD 73 undef : Value) :: (tm.getD 74 undef : Value) :: (tm.getD 75 undef : Value) :: (tm.getD 76 undef : Value) :: (tm.getD 77 undef : Value) :: (tm.getD 78 undef : Value) :: (tm.getD 79 undef : Value) :: (tm.getD 80 undef : Value) :: (tm.getD 81 undef : Value) :: (tm.getD 82 undef : Value) :: (tm.getD 83 undef : Value) :: []) hs (by show (tm.getD 0 undef :: tm.getD 1 undef :: tm.getD 2 undef :: tm.getD 3 undef :: tm.getD 4 undef :: tm.getD 5 undef :: tm.getD 6 undef :: tm.getD 7 undef :: tm.getD 8 undef :: tm.getD 9 undef :: tm.getD 10 undef :: tm.getD 11 undef :: tm.getD 12 undef :: tm.getD 13 undef :: tm.getD 14 undef :: tm.getD 15 undef :: tm.getD 16 undef :: tm.getD 17 undef :: tm.getD 18 undef :: tm.getD 19 undef :: tm.getD 20 undef :: tm.getD 21 undef :: tm.getD 22 undef :: tm.getD 23 undef :: tm.getD 24 undef :: tm.getD 25 undef :: tm.getD 26 undef :: tm.getD 27 undef :: tm.getD 28 undef :: tm.getD 29 undef :: tm.getD 30 undef :: tm.getD 31 undef :: tm.getD 32 undef :: tm.getD 33 undef :: tm.getD 34 undef :: tm.getD 35 undef :: tm.getD 36 undef :: tm.getD 37 undef :: tm.getD 38 undef :: tm.getD 39 undef :: tm.getD 40 undef :: tm.getD 41 undef :: tm.getD 42 undef :: tm.getD 43 undef :: tm.getD 44 undef :: tm.getD 45 undef :: tm.getD 46 undef :: tm.getD 47 undef :: tm.getD 48 undef :: tm.getD 49 undef :: tm.getD 50 undef :: tm.getD 51 undef :: tm.getD 52 undef :: tm.getD 53 undef :: tm.getD 54 undef :: tm.getD 55 undef :: tm.getD 56 undef :: tm.getD 57 undef :: tm.getD 58 undef :: tm.getD 59 undef :: tm.getD 60 undef :: tm.getD 61 undef :: tm.getD 62 undef :: tm.getD 63 undef :: tm.getD 64 undef :: tm.getD 65 undef :: tm.getD 66 undef :: tm.getD 67 undef :: tm.getD 68 undef :: tm.getD 69 undef :: tm.getD 70 undef :: tm.getD 71 undef :: tm.getD 72 undef :: tm.getD 73 undef :: tm.getD 74 undef :: tm.getD 75 undef :: tm.getD 76 undef :: tm.getD 77 undef :: tm.getD 78 undef :: tm.getD 79 undef :: tm.getD 80 undef :: tm.getD 81 undef :: tm.getD 82 undef :: tm.getD 83 undef :: []) = _; rw [e0, e1, e2, e3, e4, e5, e6, e7, e8, e9, e10, e11, e12, e13, e14, e15, e16, e17, e18, e19, e20, e21, e22, e23, e24, e25, e26, e27, e28, e29, e30, e31, e32, e33, e34, e35, e36, e37, e38, e39, e40, e41, e42, e43, e44, e45, e46, e47, e48, e49, e50, e51, e52, e53, e54, e55, e56, e57, e58, e59, e60]; try rfl)
                clear hs hk hG e0 e1 e2 e3 e4 e5 e6 e7 e8 e9 e10 e11 e12 e13 e14 e15 e16 e17 e18 e19 e20 e21 e22 e23 e24 e25 e26 e27 e28 e29 e30 e31 e32 e33 e34 e35 e36 e37 e38 e39 e40 e41 e42 e43 e44 e45 e46 e47 e48 e49 e50 e51 e52 e53 e54 e55 e56 e57 e58 e59 e60
                generalize tm.getD 61 undef = t61 at htm g61
                generalize tm.getD 62 undef = t62 at htm g62
                generalize tm.getD 63 undef = t63 at htm g63
                generalize tm.getD 64 undef = t64 at htm g64
                generalize tm.getD 65 undef = t65 at htm g65
                generalize tm.getD 66 undef = t66 at htm g66
                generalize tm.getD 67 undef = t67 at htm g67
                generalize tm.getD 68 undef = t68 at htm g68
                generalize tm.getD 69 undef = t69 at htm g69
                generalize tm.getD 70 undef = t70 at htm g70
                generalize tm.getD 71 undef = t71 at htm g71
                generalize tm.getD 72 undef = t72 at htm g72
                generalize tm.getD 73 undef = t73 at htm g73
                generalize tm.getD 74 undef = t74 at htm g74
                generalize tm.getD 75 undef = t75 at htm g75
                generalize tm.getD 76 undef = t76 at htm g76
                generalize tm.getD 77 undef = t77 at htm g77
                generalize tm.getD 78 undef = t78 at htm g78
                generalize tm.getD 79 undef = t79 at htm g79
                generalize tm.getD 80 undef = t80 at htm g80
                generalize tm.getD 81 undef = t81 at htm g81
                generalize tm.getD 82 undef = t82 at htm g82
                generalize tm.getD 83 undef = t83 at htm g83
                subst htm
                subst g61
                subst g62
                subst g63
                subst g64
                subst g68
                subst g69
                subst g73
                subst g74
                subst g78
                subst g79
                subst g83
                simp only [List.drop_succ_cons, List.drop_zero]
                have HB : Hid (Below w.heap.size w W) := hA6.trans (hB.mono hA6.size)
                have HV : Hid ((((((oe == oe) && (sameS oa.1 oa.1 oa.2 oa.2)) && (sameS ob.1 ob.1 ob.2 ob.2)) && (fe == fe)) && (sameS fa.1 fa.1 fa.2 fa.2)) = true) := by
                  show (((((oe == oe) && (sameS oa.1 oa.1 oa.2 oa.2)) && (sameS ob.1 ob.1 ob.2 ob.2)) && (fe == fe)) && (sameS fa.1 fa.1 fa.2 fa.2)) = true
                  rw [same_self, same_self, same_self]; simp
                go_wp2
                go_ret
                exact ⟨by rw [← HV.out]; rfl, HB.out⟩
end Go.Proofs.Ytnjmgholoigpkaa
namespace Go.Proofs.Ytnjmgholoigpkaa.passageOwns
open Go.ChangeShapes Go.WideShapes Go.ChangeAt Go.RowKit

set_option maxRecDepth 100000 in
theorem contract (H : Type) (enc : TypeId × Value → H) (W : World) (base : Nat) (args : Array Value) (ds gs : List (DataW H)) (before : List MemPlace)
    (hval : ∀ (j : Nat) t v, Try.f5.params[j]? = some t → args[j]? = some v → Value.okWide Try.prog W .any base t v)
    (hW : DataW.Whole enc Try.prog Try.f5.params.toList Rows.passageOwnsSpec.vars false W args.toList ds gs before) (vt : List TypeId) (_hwt : (DataW.weightsEach Try.prog (Try.f5.params.toList ++ vt) (ds ++ gs)).all (· ≤ reachBytes) = true) :
    Calls Try.prog 5 args W fun e W' => ∃ v, e = .returned v ∧ Rows.passageOwnsSpec.post enc Try.prog Try.f5 false true false false W args v W' := by
  have hW' := hW
  obtain ⟨p, q, hA0, hV, rfl, hfz, hnd⟩ := hW
  have hA : DataW.TrodAll enc Try.prog W 0 (fun _ => true) true Try.f5.params.toList args.toList ds p := hA0
  obtain ⟨rfl, rfl⟩ := trodVars_none hV
  rw [Try.params5] at hA hval
  obtain ⟨v0, vs0, d0, ds0, p0, q0, hargs, rfl, rfl, h0, r0⟩ := trodAll_cons hA
  obtain ⟨v1, vs1, d1, ds1, p1, q1, rfl, rfl, rfl, h1, r1⟩ := trodAll_cons r0
  obtain ⟨v2, vs2, d2, ds2, p2, q2, rfl, rfl, rfl, h2, r2⟩ := trodAll_cons r1
  obtain ⟨rfl, rfl, rfl⟩ := trodAll_nil r2
  obtain rfl : args = #[v0, v1, v2] := by cases args; simp_all
  obtain ⟨x0, pp0, cap0, ys0, z0, pq0, caq0, zs0, rfl, hc0, hl0, hm0, hd0, hk0, hn0⟩ := thread_open (hval 0 26 v0 rfl rfl) h0
  obtain ⟨x1, pp1, cap1, ys1, rfl, hc1, hl1, hm1⟩ := label_open (hval 1 24 v1 rfl rfl) h1
  obtain ⟨x2, rfl, rfl, rfl, wc2⟩ := open_int Try.underlying3 (hval 2 3 v2 rfl rfl) h2
  refine (PassageOwns_any (x0, ys0) (z0, zs0) (x1, ys1) x2 pp0 pq0 pp1 cap0 caq0 cap1 W hc0 hl0 (Nat.le_trans hl0 hm0) hd0 hk0 (Nat.le_trans hk0 hn0) hc1 hl1 (Nat.le_trans hl1 hm1)).mono fun e W' ⟨he, hb⟩ => ?_
  subst he
  exact ⟨_, rfl, law_post (by kernel_rfl) (by rw [Try.params5]; intro t ht; simp at ht; rcases ht with rfl | rfl | rfl <;> exact ⟨by kernel_rfl, of_decide_eq_true (by kernel_rfl)⟩) rfl hW' rfl rfl rfl hb⟩

theorem laid_met (os : Os) : laidMet Try.prog Rows.passageOwnsRow.laid ((World.holding Try.prog os ⟨#[], #[], []⟩).forCall (fun _ _ => 0) ⟨#[], #[.agg #[.int .i64 0, .slice none 0 0, .int .i64 0, .slice none 0 0], .agg #[.int .i64 0, .slice none 0 0], .int .i64 0], []⟩).memory :=
  laidMet_of_run' 8 (by kernel_rfl) (by kernel_rfl)
theorem reads (os : Os) {H : Type} (enc : TypeId × Value → H) : ∃ places, DataW.whole enc Try.prog ((World.holding Try.prog os ⟨#[], #[], []⟩).forCall (fun _ _ => 0) ⟨#[], #[.agg #[.int .i64 0, .slice none 0 0, .int .i64 0, .slice none 0 0], .agg #[.int .i64 0, .slice none 0 0], .int .i64 0], []⟩).memory Try.f5.params.toList Rows.passageOwnsSpec.vars false #[Value.agg #[.int .i64 0, .slice none 0 0, .int .i64 0, .slice none 0 0], Value.agg #[.int .i64 0, .slice none 0 0], Value.int .i64 0].toList 8 = some ([.agg [.agg [.lit (.int .i64 0), .nil], .agg [.lit (.int .i64 0), .nil]], .agg [.lit (.int .i64 0), .nil], .lit (.int .i64 0)], [], places) :=
  ⟨[], by kernel_rfl⟩

set_option maxRecDepth 100000 in
theorem lifted (os : Os) (started : os.Started) (H : Type) (enc : TypeId × Value → H) (F : Stop.Interp) :
    ReturnsInHanded {} Try.checked os 5 .any ((OpenSpec.ofChange Rows.passageOwnsSpec).preRow enc Try.prog Try.f5 Rows.passageOwnsRow.domain false Rows.passageOwnsRow.laid) (((OpenSpec.ofChange Rows.passageOwnsSpec).at F).post enc Try.prog Try.f5 false true false false) := by
  obtain ⟨places, hx⟩ := reads os enc
  refine returnsInHanded_of_row (C := Try.checked) (s := OpenSpec.ofChange Rows.passageOwnsSpec) own started (by kernel_rfl) Try.func5
    (witness_row_at (enc := enc) (C := Try.checked) false (World.holding Try.prog os ⟨#[], #[], []⟩) #[.agg #[.int .i64 0, .slice none 0 0, .int .i64 0, .slice none 0 0], .agg #[.int .i64 0, .slice none 0 0], .int .i64 0] rfl (by kernel_rfl) (by kernel_rfl) (by kernel_rfl)
      (OpenSpec.preRow_of_cond 8 hx (by kernel_rfl) (fun k hk => by cases hk) (by kernel_rfl) (laid_met os))) ?_
  intro W base args ds gs before hval hW _ _ hwt _ _ _
  exact contract H enc W base args ds gs before hval hW _ hwt

theorem said : Rows.PassageOwnsSaid :=
  OpenClaim.holds_of_cond 5 Try.f5 rfl rfl rfl rfl rfl rfl rfl ⟨rfl, rfl, rfl, rfl, rfl⟩ rfl rfl rfl rfl rfl (by kernel_rfl) Try.func5 (by kernel_rfl)
    (of_decide_eq_true (by kernel_rfl)) (by unfold Func.isWrapper; first | (rw [if_pos (by decide +kernel)]; kernel_rfl) | (rw [if_neg (by decide +kernel)]; exact ⟨rfl, rfl⟩))
    (fun os started H enc _ F => by rw [OpenClaim.pre_eq_preRow]; exact lifted os started H enc F)
end Go.Proofs.Ytnjmgholoigpkaa.passageOwns

namespace Go.Proofs.Ytnjmgholoigpkaa
theorem passageOwns_holds : Rows.PassageOwnsSaid := passageOwns.said
end Go.Proofs.Ytnjmgholoigpkaa
