/- Copy of package hold: another table of the same objects. -/
import Derived.Test.YtebcnlhgkpaghaaIdsT
import Derived.Test.YtebcnlhgkpaghaaListT
import Derived.Test.YtebcnlhgkpaghaaMonoT
import Derived.Maps.RangeWalk
namespace Go.Proofs.Ytebcnlhgkpaghaa
open Go.RowKit Go.Sort
open Go.Maps (Keyed)
/-- A map of objects that is gone through: which keys are still to come. -/
def MRH (w : World) (m r : Nat) (D : DataW Unit) (left : Int → Bool) (cnt : Nat) : Prop := ∃ (n : Nat) (lf : Lit → Bool), w.ranges Try.prog 3 ptrE m r n D lf cnt ∧ ∀ s, lf (ky s) = left s
theorem TAt.range {w : World} {base tb mb : Nat} {D : DataW Unit} {T : Tab} (h : TAt w base tb mb D T) :
    ∃ w', (Instr.range 55 (.map (some mb))).run Try.prog w = .ok (.pointer (some ⟨w.heap.size, 0, none⟩)) w' ∧ MRH w' mb w.heap.size D (fun s => (T s).isSome) (Maps.size D) ∧ Below w.heap.size w w' ∧ w'.heap.size = w.heap.size + 1 := by
  obtain ⟨w', hr, hg, hb, hs⟩ := h.map.range keyedI um
  exact ⟨w', hr, ⟨_, _, hg, fun s => h.has s⟩, ⟨hb.os, hb.tape, hb.output, hb.size, fun k hk => hb.block k hk (by simp)⟩, hs⟩
theorem MRH.same {w w' : World} {m r cnt : Nat} {D : DataW Unit} {left : Int → Bool} (h : MRH w m r D left cnt) (h1 : w'.heap[m]? = w.heap[m]?) (h2 : w'.heap[r]? = w.heap[r]?) : MRH w' m r D left cnt := by
  obtain ⟨n, lf, ⟨es, clock, since, seen, c0, hb, F, hs, hD, hr, rest⟩, h3⟩ := h
  exact ⟨n, lf, ⟨es, clock, since, seen, c0, h1.trans hb, F, hs, hD, h2.trans hr, rest⟩, h3⟩
theorem MRH.lt {w : World} {m r cnt : Nat} {D : DataW Unit} {left : Int → Bool} (h : MRH w m r D left cnt) : m < w.heap.size ∧ r < w.heap.size := by
  obtain ⟨n, lf, hr, _⟩ := h
  refine ⟨hr.owns.lt, ?_⟩
  obtain ⟨es, clock, since, seen, c0, hb, F, hs, hD, hr, rest⟩ := hr
  exact (Array.getElem?_eq_some_iff.1 hr).1
theorem MRH.next {w : World} {base tb mb r cnt : Nat} {D : DataW Unit} {T : Tab} {left : Int → Bool} (h : MRH w mb r D left cnt) (hT : TAt w base tb mb D T) (hl : ∀ s, left s = true → (T s).isSome = true) (ty : TypeId) :
    ((∀ s, left s = false) ∧ (Instr.next (.pointer (some ⟨r, 0, none⟩)) false ty).run Try.prog w = .ok (.tuple #[.bool false]) w) ∨
    ∃ s t w' cnt', i64 s ∧ left s = true ∧ T s = some t ∧ (Instr.next (.pointer (some ⟨r, 0, none⟩)) false ty).run Try.prog w = .ok (.tuple #[.bool true, .int .i64 s, .pointer (some ⟨t.B, 0, none⟩)]) w' ∧ MRH w' mb r D (fun z => left z && !(z == s)) cnt' ∧ cnt' < cnt ∧ Fm w w' (fun k => k = r) (fun _ => False) ∧ w'.heap.size = w.heap.size ∧
      (Instr.entry (.pointer (some ⟨r, 0, none⟩))).run Try.prog w' = .ok (.tuple #[.int .i64 s, .pointer (some ⟨t.B, 0, none⟩)]) w' := by
  obtain ⟨n, lf, hr, h1⟩ := h
  rcases hr.next keyedI ty with ⟨_, hl', hrun⟩ | ⟨key, v, kl, y, w', cnt', hkey, hlk, hv, hat, hrun, hrg, hlt, hgr, hsz, hen⟩
  · exact .inl ⟨fun s => by rw [← h1]; exact hl' _, hrun⟩
  · obtain ⟨s, rfl, rfl, hwf⟩ := Maps.keyOf_int_inv ui hkey
    have hls : left s = true := by rw [← h1]; exact hlk
    obtain ⟨t, ht⟩ := Option.isSome_iff_exists.1 (hl s hls)
    have hy := hat (.lit (.int .i64 0))
    rw [hT.at_ s t ht] at hy
    obtain ⟨d, ps⟩ := y
    simp only at hy
    subst hy
    obtain rfl := ptrE_inv hv
    have hi : i64 s := by
      simp [Lit.wf] at hwf
      have h1 : IntKind.min .i64 = -9223372036854775808 := by decide
      have h2 : IntKind.max .i64 = 9223372036854775807 := by decide
      unfold i64; omega
    refine .inr ⟨s, t, w', cnt', hi, hls, ht, hrun, ⟨n, _, hrg, fun z => ?_⟩, hlt, ⟨hgr.os, hgr.tape, hgr.output, hgr.size, fun k hk hne => hgr.block k hk (by simpa using hne), fun _ h => h.elim⟩, hsz, hen⟩
    show (lf (ky z) && !(ky z).sameKey (ky s)) = _
    rw [h1]
    by_cases e : z = s
    · subst e; rw [WideAt.sameKey_self (show WideAt.IsKeyLit (ky z) from trivial)]; simp
    · rw [Maps.sameKey_ne (fun h => e (by injection h))]; simp [e]
/-- An object more, in a map that has grown. -/
theorem TAt.add {w w' : World} {base tb mb : Nat} {D : DataW Unit} {T : Tab} (h : TAt w base tb mb D T) (s : Rc) (id : Int) (hno : T id = none) (hid : s.ob.id = id) (hs : RAt w base s) (hdis : ∀ k, foot s k → ¬ tfoot tb mb T k) (hm : w'.ownsMap Try.prog 3 ptrE mb (Maps.size (D.put (ky id) (.lit (.int .i64 (s.B : Int))))) (D.put (ky id) (.lit (.int .i64 (s.B : Int))))) (hg : w.grownBy w' (some mb)) :
    TAt w' base tb mb (D.put (ky id) (.lit (.int .i64 (s.B : Int)))) (upd T id s) ∧ Maps.size (D.put (ky id) (.lit (.int .i64 (s.B : Int)))) = Maps.size D + 1 := by
  have hsame : ∀ k, k < w.heap.size → k ≠ mb → w'.heap[k]? = w.heap[k]? := fun k hk hne => hg.block k hk (by simpa using hne)
  have hD := h.map.isMap
  have hsm : ¬ foot s mb := fun hf => hdis mb hf (.inr (.inl rfl))
  have hs' : RAt w' base s := hs.same (fun k hk => hsame k (hs.lt hk).2 (fun e => hsm (e ▸ hk)))
  have hT' : ∀ j t, T j = some t → RAt w' base t := fun j t ht => (h.obj j t ht).1.same (fun k hk => hsame k ((h.obj j t ht).1.lt hk).2 (fun e => (h.obj j t ht).1.mbF h.map (e ▸ hk)))
  have hupd : ∀ j t, upd T id s j = some t → (j = id ∧ t = s) ∨ (j ≠ id ∧ T j = some t) := fun j t ht => by
    unfold upd at ht
    split at ht
    · exact .inl ⟨by assumption, by simpa using ht.symm⟩
    · exact .inr ⟨by assumption, ht⟩
  refine ⟨⟨(hsame tb (h.lt (.inl rfl)).2 h.mbt).trans h.blk, hm, fun k => ?_, fun k t ht z => ?_, fun k t ht => ?_, fun i j r t k hi hj hij h1 h2 => ?_, h.lowt, h.lowm⟩, ?_⟩
  · unfold upd
    by_cases hk : k = id
    · subst hk; rw [if_pos rfl, Maps.has_put_same hD (show WideAt.IsKeyLit (ky k) from trivial)]; rfl
    · rw [if_neg hk, Maps.has_put_other (by simpa using hk), h.has]
  · rcases hupd k t ht with ⟨rfl, rfl⟩ | ⟨hk, ht'⟩
    · rw [Maps.atKey_put_same hD (show WideAt.IsKeyLit (ky k) from trivial)]
    · rw [Maps.atKey_put_other (by simpa using hk)]; exact h.at_ k t ht' z
  · rcases hupd k t ht with ⟨rfl, rfl⟩ | ⟨hk, ht'⟩
    · exact ⟨hs', hid⟩
    · exact ⟨hT' k t ht', (h.obj k t ht').2⟩
  · rcases hupd i r hi with ⟨rfl, rfl⟩ | ⟨e1, hi'⟩
    · rcases hupd j t hj with ⟨rfl, rfl⟩ | ⟨e2, hj'⟩
      · exact hij rfl
      · exact hdis k h1 (.inr (.inr ⟨j, t, hj', h2⟩))
    · rcases hupd j t hj with ⟨rfl, rfl⟩ | ⟨e2, hj'⟩
      · exact hdis k h2 (.inr (.inr ⟨i, r, hi', h1⟩))
      · exact h.apart i j r t k hi' hj' hij h1 h2
  · rw [Maps.size_put (h.map.tidy keyedI), h.has id, hno]; rfl
theorem exec_call1 {o : Oper} {ev : Operand → Value} {f : Nat} {x0 : Operand} {ts : Array TypeId} {v0 : Value} {w : World} (ho : o.op = .call { callee := .value (.func f), args := #[x0], argTypes := ts }) (hf : ev (.func f) = .func (.func f) #[] #[]) (h0 : ev x0 = v0) (eg : ∀ args w, (callFunc f args).run Try.prog w = .ok (.enter f args) w) : (execOp ev o).run Try.prog w = .ok (.enter f #[v0]) w := by
  unfold execOp
  simp [ho, resolve, invoke, hf, h0, eg, go_sem]
/-- What told answers. -/
def CT (t : Rc) (b : Nat) (u : Value) (X : World) : Prop := ∃ sp c, u = infoV t (.slice sp t.ob.cats.length c) ∧ X.ownsRow b 84 2 (.slice sp t.ob.cats.length c) t.ob.cats.length (flat t.ob.cats)
def CL (t : Rc) (b : Nat) (u : Value) (X : World) : Prop := ∃ sp c, u = .slice sp t.ob.ents.length c ∧ X.ownsRow b 3 1 (.slice sp t.ob.ents.length c) t.ob.ents.length (ivs t.ob.ents)
def CA (t : Rc) (b : Nat) (u : Value) (X : World) : Prop := ∃ sp c, u = .agg #[.slice sp t.ob.ents.length c] ∧ X.ownsRow b 3 1 (.slice sp t.ob.ents.length c) t.ob.ents.length (ivs t.ob.ents)
def CO (t : Rc) (b : Nat) (u : Value) (X : World) : Prop := ∃ sp c sp2 c2, u = .agg #[.int .i64 t.ob.id, .int .i64 t.ob.kind, .int .i64 t.ob.quota, .int .i64 t.ob.used, .int .i64 t.ob.links, .int .i64 t.ob.df, .slice sp t.ob.cats.length c, .slice sp2 t.ob.ents.length c2] ∧ X.ownsRow b 84 2 (.slice sp t.ob.cats.length c) t.ob.cats.length (flat t.ob.cats) ∧ X.ownsRow b 3 1 (.slice sp2 t.ob.ents.length c2) t.ob.ents.length (ivs t.ob.ents)
def CB (t : Rc) (b : Nat) (u : Value) (X : World) : Prop := ∃ s : Rc, u = .pointer (some ⟨s.B, 0, none⟩) ∧ s.ob = t.ob ∧ RAt X b s
theorem own_mono {X Y : World} {b n sz : Nat} {e : TypeId} {v : Value} {l : List Value} (h : X.ownsRow b e sz v n l) (hb : Below X.heap.size X Y) : Y.ownsRow b e sz v n l := row_same h (fun k hk => hb.block k (h.lt k hk).2)
theorem CT.mono {t : Rc} {b : Nat} {u : Value} {X Y : World} (h : CT t b u X) (hb : Below X.heap.size X Y) : CT t b u Y := by obtain ⟨sp, c, h1, h2⟩ := h; exact ⟨sp, c, h1, own_mono h2 hb⟩
theorem CL.mono {t : Rc} {b : Nat} {u : Value} {X Y : World} (h : CL t b u X) (hb : Below X.heap.size X Y) : CL t b u Y := by obtain ⟨sp, c, h1, h2⟩ := h; exact ⟨sp, c, h1, own_mono h2 hb⟩
theorem CA.mono {t : Rc} {b : Nat} {u : Value} {X Y : World} (h : CA t b u X) (hb : Below X.heap.size X Y) : CA t b u Y := by obtain ⟨sp, c, h1, h2⟩ := h; exact ⟨sp, c, h1, own_mono h2 hb⟩
theorem CO.mono {t : Rc} {b : Nat} {u : Value} {X Y : World} (h : CO t b u X) (hb : Below X.heap.size X Y) : CO t b u Y := by obtain ⟨sp, c, sp2, c2, h1, h2, h3⟩ := h; exact ⟨sp, c, sp2, c2, h1, own_mono h2 hb, own_mono h3 hb⟩
theorem CB.mono {t : Rc} {b : Nat} {u : Value} {X Y : World} (h : CB t b u X) (hb : Below X.heap.size X Y) : CB t b u Y := by obtain ⟨s, h1, h2, h3⟩ := h; exact ⟨s, h1, h2, h3.same (fun k hk => hb.block k (h3.lt hk).2)⟩
theorem CO.box {t : Rc} {b : Nat} {X : World} {sp sp2 : Option Addr} {c c2 : Nat} (hb : b ≤ X.heap.size) (h2 : X.ownsRow b 84 2 (.slice sp t.ob.cats.length c) t.ob.cats.length (flat t.ob.cats)) (h3 : X.ownsRow b 3 1 (.slice sp2 t.ob.ents.length c2) t.ob.ents.length (ivs t.ob.ents)) :
    CB t b (.pointer (some ⟨X.heap.size, 0, none⟩)) (X.alloc (.cells #[.int .i64 t.ob.id, .int .i64 t.ob.kind, .int .i64 t.ob.quota, .int .i64 t.ob.used, .int .i64 t.ob.links, .int .i64 t.ob.df, .slice sp t.ob.cats.length c, .slice sp2 t.ob.ents.length c2] 54)) :=
  ⟨⟨X.heap.size, .slice sp t.ob.cats.length c, .slice sp2 t.ob.ents.length c2, t.ob⟩, rfl, rfl, heap_new _ _, h2.alloc _, h3.alloc _, hb⟩
theorem mapSize {D : DataW Unit} (h : Maps.size D < 1000000) : (Maps.size D : Int) < 1000000 := by omega
/-- A table that has none. -/
theorem TAt.empty {w : World} {tb mb : Nat} (hb : w.heap[tb]? = some (.cells #[.map (some mb)] 57 (0, 0))) (hm : w.ownsMap Try.prog 3 ptrE mb 0 (.map [])) {base : Nat} (h1 : base ≤ tb) (h2 : base ≤ mb) : TAt w base tb mb (.map []) (fun _ => none) :=
  ⟨hb, hm, fun k => rfl, fun k r h => (by cases h), fun k r h => (by cases h), fun i j r s k h => (by cases h), h1, h2⟩
set_option maxRecDepth 100000 in
set_option maxHeartbeats 4000000 in
theorem Copy_any {w : World} {base tb mb : Nat} {D : DataW Unit} {T : Tab} (h : TAt w base tb mb D T) (hsz : Maps.size D < 1000000) (hob : ∀ k r, T k = some r → r.ob.ents.length < 1000000 ∧ r.ob.cats.length * 16 ≤ 140737488355328) :
    Calls Try.prog 27 #[.pointer (some ⟨tb, 0, none⟩)] w fun e w' => ∃ tb' mb' D' T', e = .returned (.pointer (some ⟨tb', 0, none⟩)) ∧ TAt w' w.heap.size tb' mb' D' T' ∧ (∀ k, (T' k).map (·.ob) = (T k).map (·.ob)) ∧ Below w.heap.size w w' := by
  have c0 : w.cell? ⟨tb, 0, none⟩ = some (.map (some mb)) := by simp [World.cell?, h.blk]
  have hl := World.ownsMap.len h.map um 3
  have hszi := mapSize hsz
  have HH := Lib.hid h
  clear h
  have hmk : ∀ (n : Int) (W : World), (Instr.makeMap 55 (some (.int .i64 n))).run Try.prog W = .ok (.map (some W.heap.size)) (W.alloc (.map #[] 0)) := fun n W => by
    simp [Instr.makeMap, run_underlying um, go_sem]
  obtain ⟨W2, hW2⟩ : ∃ W2, (w.alloc (.map #[] 0)).alloc (.cells #[.map (some w.heap.size)] 57) = W2 := ⟨_, rfl⟩
  have hb2 : Below w.heap.size w W2 := by rw [← hW2]; go_grown
  have z2 : W2.heap.size = w.heap.size + 2 := by rw [← hW2]; simp
  have hE2 : TAt W2 w.heap.size (w.heap.size + 1) w.heap.size (.map []) (fun _ => none) := by
    refine TAt.empty ?_ ?_ (by omega) (Nat.le_refl _)
    · rw [← hW2]
      have := heap_new (w.alloc (.map #[] 0)) (.cells #[.map (some w.heap.size)] 57)
      simpa using this
    · rw [← hW2]
      exact (World.ownsMap_made (H := Unit) w Try.prog 3 ptrE).alloc _
  obtain ⟨W3, hrg, hmr, hb3, z3⟩ := (HH.out.below hb2).range
  have c2 : W2.cell? ⟨tb, 0, none⟩ = some (.map (some mb)) := (hb2.cell (p := ⟨tb, 0, none⟩) (HH.out.lt (.inl rfl)).2).trans c0
  rw [z2] at hrg hmr z3
  have HE3 := Lib.hid (hE2.below hb3)
  have HB3 := Lib.hid (hb2.trans (hb3.mono (by omega)))
  have HMR := Lib.hid hmr
  have Z3 := Lib.hid z3
  clear hE2 hb2 hmr hb3 z2 z3
  go_enter Try.func27, Try.ntmps27
  go_wp2_with fail
  obtain ⟨nb, hnb⟩ : ∃ nb, w.heap.size + 1 = nb := ⟨_, rfl⟩
  obtain ⟨it, hit⟩ : ∃ it, w.heap.size + 2 = it := ⟨_, rfl⟩
  obtain ⟨mb2, hmb2⟩ : ∃ mb2, w.heap.size = mb2 := ⟨_, rfl⟩
  have HE3' : Hid (TAt W3 w.heap.size nb mb2 (.map []) (fun _ => none)) := by rw [← hnb, ← hmb2]; exact HE3.out
  rw [hit] at HMR
  rw [hnb, hit]
  rw [hmb2]
  have HMb2 := Lib.hid hmb2
  have HNb := Lib.hid hnb
  have HIt := Lib.hid hit
  clear HE3 hnb hit hmb2 hrg hW2 c2 hmk hl
  go_loopw [4] (fun _ wr => ∃ (left : Int → Bool) (cnt : Nat) (D2 : DataW Unit) (T2 : Tab), MRH wr mb it D left cnt ∧ TAt wr w.heap.size nb mb2 D2 T2 ∧ (∀ k, left k = true → (T k).isSome = true) ∧ (∀ k, (T2 k).map (·.ob) = if left k = true then none else (T k).map (·.ob)) ∧ (∀ k, tfoot nb mb2 T2 k → k ≠ it) ∧ Maps.size D2 + cnt ≤ Maps.size D ∧ RowKit.Below w.heap.size w wr) (fun _ wr => wr.rangeLeft mb it)
  case atStart =>
    refine ⟨_, _, _, _, HMR.out, HE3'.out, fun k hk => hk, fun k => ?_, fun k hk e => ?_, by simp [Maps.size], HB3.out⟩
    · cases hT : T k with
      | none => rfl
      | some r => rfl
    · rcases hk with h1 | h1 | ⟨_, _, h1, _⟩
      · have := HNb.out; have := HIt.out; omega
      · have := HMb2.out; have := HIt.out; omega
      · cases h1
  case round =>
    obtain ⟨left, cnt, D2, T2, hmr, hT2, hlf, hob2, hnit, hcnt, hB⟩ := hrel
    have hTw := HH.out.below hB
    rcases hmr.next hTw hlf 0 with ⟨hl0, hrun⟩ | ⟨s0, t0, W', cnt', hi0, hls, ht0, hrun, hmr', hlt, hF, hz, hen⟩
    · have HX := Lib.hid hT2
      have HO2 := Lib.hid hob2
      have HBx := Lib.hid hB
      have HL0 := Lib.hid hl0
      clear hmr hT2 hlf hob2 hnit hB hTw hl0
      go_wp2_with fail
      go_ret
      exact ⟨nb, mb2, D2, T2, rfl, HX.out, fun k => by rw [HO2.out k, HL0.out k]; rfl, HBx.out⟩
    · have hitm := hmr'.lt
      have ro := (hTw.obj s0 t0 ht0).1
      have hft : ∀ k, foot t0 k → k < w.heap.size := fun k hk => (HH.out.lt (.inr (.inr ⟨s0, t0, ht0, hk⟩))).2
      have hitw : w.heap.size < it := by have := HIt.out; omega
      have ro' : RAt W' base t0 := ro.same (fun k hk => hF.same k (ro.lt hk).2 (fun e => by have := hft k hk; omega))
      have hT2' : TAt W' w.heap.size nb mb2 D2 T2 := hT2.same (fun k hk => hF.same k (hT2.lt hk).2 (hnit k hk))
      have hB' : Below w.heap.size w W' := hB.trans ⟨hF.os, hF.tape, hF.output, hF.size, fun k hk => hF.same k (Nat.lt_of_lt_of_le hk hB.size) (by omega)⟩
      have hcl := HH.out
      obtain ⟨hen1, hcm⟩ := hob s0 t0 ht0
      have HRo := Lib.hid ro'
      have HT2 := Lib.hid hT2'
      have HB' := Lib.hid hB'
      have HMR' := Lib.hid hmr'
      have HX := Lib.hid (show (∀ k, left k = true → (T k).isSome = true) ∧ (∀ k, (T2 k).map (·.ob) = if left k = true then none else (T k).map (·.ob)) ∧ (∀ k, tfoot nb mb2 T2 k → k ≠ it) ∧ Maps.size D2 + cnt ≤ Maps.size D from ⟨hlf, hob2, hnit, hcnt⟩)
      have HLt := Lib.hid (show wr.rangeLeft mb it = cnt from by obtain ⟨n, lf, hr, _⟩ := hmr; exact hr.left_eq)
      have HLt' := Lib.hid (show W'.rangeLeft mb it = cnt' from by obtain ⟨n, lf, hr, _⟩ := hmr'; exact hr.left_eq)
      clear hmr hT2 hlf hob2 hnit hcnt hB hTw ro ro' hT2' hB' hmr' hF hcl hft
      go_upto_region 7 with fail
      refine wp_region_monoT 6 14 (fun kq uq Xq => match kq with | 26 => uq = .pointer (some ⟨nb, 0, none⟩) | 27 => uq = .pointer (some ⟨nb, 0, none⟩) | 28 => uq = .pointer (some ⟨nb, 0, none⟩) | 29 => uq = .map (some mb2) | 30 => uq = .int .i64 s0 | 31 => uq = .pointer (some ⟨t0.B, 0, none⟩) | 32 => (CT t0 W'.heap.size) (uq) Xq | 33 => uq = .pointer (some ⟨t0.B, 0, none⟩) | 34 => uq = .pointer (some ⟨t0.B, 0, none⟩) | 35 => uq = .pointer (some ⟨t0.B, 7, none⟩) | 36 => (CL t0 W'.heap.size) (uq) Xq | 37 => (CA t0 W'.heap.size) (uq) Xq | 38 => (CO t0 W'.heap.size) (uq) Xq | 39 => (CB t0 W'.heap.size) (uq) Xq | _ => True) (by kernel_rfl) (by kernel_rfl) (by kernel_rfl) (by kernel_rfl) (by simp) (by kernel_rfl) ?_ ?_ ?_
      · intro kq v W W' h hb
        revert h
        try dsimp only
        split
        · intro h; exact h
        · intro h; exact h
        · intro h; exact h
        · intro h; exact h
        · intro h; exact h
        · intro h; exact h
        · intro h; exact CT.mono h hb
        · intro h; exact h
        · intro h; exact h
        · intro h; exact h
        · intro h; exact CL.mono h hb
        · intro h; exact CA.mono h hb
        · intro h; exact CO.mono h hb
        · intro h; exact CB.mono h hb
        · intro h; trivial
      · intro a' X hB hs hk i o d ho hd hG
        match i, ho with
        | 0, ho =>
          obtain rfl : _ = o := Option.some.inj ho
          obtain rfl : 26 = d := Option.some.inj hd
          have g3 : a'.eval (.tmp 3) = .pointer (some ⟨nb, 0, none⟩) := hk 3 (by kernel_rfl)
          obtain ⟨ev, hev⟩ : ∃ ev, a'.eval = ev := ⟨_, rfl⟩
          rw [hev] at g3 ⊢
          clear hev hG hk
          have cq : X.cell? ⟨nb, 0, none⟩ = some (.map (some mb2)) := by simp only [World.cell?, hB.block nb (HT2.out.lt (.inl rfl)).2, HT2.out.blk]; rfl
          exact .inr ⟨rfl, .inl ⟨.pointer (some ⟨nb, 0, none⟩), X, by clear hs; go_simp, Below.refl _ _, rfl⟩⟩
        | 1, ho =>
          obtain rfl : _ = o := Option.some.inj ho
          obtain rfl : 27 = d := Option.some.inj hd
          have g26 : a'.eval (.tmp 26) = .pointer (some ⟨nb, 0, none⟩) := hG ⟨0, .data⟩ (by simp) rfl 26 rfl
          obtain ⟨ev, hev⟩ : ∃ ev, a'.eval = ev := ⟨_, rfl⟩
          rw [hev] at g26 ⊢
          clear hev hG hk
          have cq : X.cell? ⟨nb, 0, none⟩ = some (.map (some mb2)) := by simp only [World.cell?, hB.block nb (HT2.out.lt (.inl rfl)).2, HT2.out.blk]; rfl
          exact .inr ⟨rfl, .inl ⟨.pointer (some ⟨nb, 0, none⟩), X, by clear hs; go_simp, Below.refl _ _, rfl⟩⟩
        | 2, ho =>
          obtain rfl : _ = o := Option.some.inj ho
          obtain rfl : 28 = d := Option.some.inj hd
          have g27 : a'.eval (.tmp 27) = .pointer (some ⟨nb, 0, none⟩) := hG ⟨1, .data⟩ (by simp) rfl 27 rfl
          obtain ⟨ev, hev⟩ : ∃ ev, a'.eval = ev := ⟨_, rfl⟩
          rw [hev] at g27 ⊢
          clear hev hG hk
          have cq : X.cell? ⟨nb, 0, none⟩ = some (.map (some mb2)) := by simp only [World.cell?, hB.block nb (HT2.out.lt (.inl rfl)).2, HT2.out.blk]; rfl
          exact .inr ⟨rfl, .inl ⟨.pointer (some ⟨nb, 0, none⟩), X, by clear hs; go_simp, Below.refl _ _, rfl⟩⟩
        | 3, ho =>
          obtain rfl : _ = o := Option.some.inj ho
          obtain rfl : 29 = d := Option.some.inj hd
          have g28 : a'.eval (.tmp 28) = .pointer (some ⟨nb, 0, none⟩) := hG ⟨2, .data⟩ (by simp) rfl 28 rfl
          obtain ⟨ev, hev⟩ : ∃ ev, a'.eval = ev := ⟨_, rfl⟩
          rw [hev] at g28 ⊢
          clear hev hG hk
          have cq : X.cell? ⟨nb, 0, none⟩ = some (.map (some mb2)) := by simp only [World.cell?, hB.block nb (HT2.out.lt (.inl rfl)).2, HT2.out.blk]; rfl
          exact .inr ⟨rfl, .inl ⟨.map (some mb2), X, by clear hs; go_simp, Below.refl _ _, rfl⟩⟩
        | 4, ho =>
          obtain rfl : _ = o := Option.some.inj ho
          obtain rfl : 30 = d := Option.some.inj hd
          have g4 : a'.eval (.tmp 4) = .int .i64 s0 := hk 4 (by kernel_rfl)
          obtain ⟨ev, hev⟩ : ∃ ev, a'.eval = ev := ⟨_, rfl⟩
          rw [hev] at g4 ⊢
          clear hev hG hk
          have cq : X.cell? ⟨nb, 0, none⟩ = some (.map (some mb2)) := by simp only [World.cell?, hB.block nb (HT2.out.lt (.inl rfl)).2, HT2.out.blk]; rfl
          exact .inr ⟨rfl, .inl ⟨.int .i64 s0, X, by clear hs; go_simp, Below.refl _ _, rfl⟩⟩
        | 5, ho =>
          obtain rfl : _ = o := Option.some.inj ho
          obtain rfl : 31 = d := Option.some.inj hd
          have g5 : a'.eval (.tmp 5) = .pointer (some ⟨t0.B, 0, none⟩) := hk 5 (by kernel_rfl)
          obtain ⟨ev, hev⟩ : ∃ ev, a'.eval = ev := ⟨_, rfl⟩
          rw [hev] at g5 ⊢
          clear hev hG hk
          have cq : X.cell? ⟨nb, 0, none⟩ = some (.map (some mb2)) := by simp only [World.cell?, hB.block nb (HT2.out.lt (.inl rfl)).2, HT2.out.blk]; rfl
          exact .inr ⟨rfl, .inl ⟨.pointer (some ⟨t0.B, 0, none⟩), X, by clear hs; go_simp, Below.refl _ _, rfl⟩⟩
        | 6, ho =>
          obtain rfl : _ = o := Option.some.inj ho
          obtain rfl : 32 = d := Option.some.inj hd
          have g31 : a'.eval (.tmp 31) = .pointer (some ⟨t0.B, 0, none⟩) := hG ⟨5, .data⟩ (by simp) rfl 31 rfl
          refine .inr ⟨rfl, .inr ⟨56, #[.pointer (some ⟨t0.B, 0, none⟩)], ?_, ?_⟩⟩
          · have gF : a'.eval (.func 56) = .func (.func 56) #[] #[] := rfl
            obtain ⟨ev, hev⟩ : ∃ ev, a'.eval = ev := ⟨_, rfl⟩
            rw [hev] at gF g31 ⊢
            exact exec_call1 rfl gF g31 (enters_of Try.func56 (by kernel_rfl) rfl)
          exact (told_any (HRo.out.same (fun k hk => hB.block k (HRo.out.lt hk).2)) hcm).mono fun e Y ⟨sp, c, he, hr, hb⟩ => ⟨_, he, hb, sp, c, rfl, row_mono hr hB.size⟩
        | 7, ho =>
          obtain rfl : _ = o := Option.some.inj ho
          obtain rfl : 33 = d := Option.some.inj hd
          have g5 : a'.eval (.tmp 5) = .pointer (some ⟨t0.B, 0, none⟩) := hk 5 (by kernel_rfl)
          obtain ⟨ev, hev⟩ : ∃ ev, a'.eval = ev := ⟨_, rfl⟩
          rw [hev] at g5 ⊢
          clear hev hG hk
          have cq : X.cell? ⟨nb, 0, none⟩ = some (.map (some mb2)) := by simp only [World.cell?, hB.block nb (HT2.out.lt (.inl rfl)).2, HT2.out.blk]; rfl
          exact .inr ⟨rfl, .inl ⟨.pointer (some ⟨t0.B, 0, none⟩), X, by clear hs; go_simp, Below.refl _ _, rfl⟩⟩
        | 8, ho =>
          obtain rfl : _ = o := Option.some.inj ho
          obtain rfl : 34 = d := Option.some.inj hd
          have g33 : a'.eval (.tmp 33) = .pointer (some ⟨t0.B, 0, none⟩) := hG ⟨7, .data⟩ (by simp) rfl 33 rfl
          obtain ⟨ev, hev⟩ : ∃ ev, a'.eval = ev := ⟨_, rfl⟩
          rw [hev] at g33 ⊢
          clear hev hG hk
          have cq : X.cell? ⟨nb, 0, none⟩ = some (.map (some mb2)) := by simp only [World.cell?, hB.block nb (HT2.out.lt (.inl rfl)).2, HT2.out.blk]; rfl
          exact .inr ⟨rfl, .inl ⟨.pointer (some ⟨t0.B, 0, none⟩), X, by clear hs; go_simp, Below.refl _ _, rfl⟩⟩
        | 9, ho =>
          obtain rfl : _ = o := Option.some.inj ho
          obtain rfl : 35 = d := Option.some.inj hd
          have g34 : a'.eval (.tmp 34) = .pointer (some ⟨t0.B, 0, none⟩) := hG ⟨8, .data⟩ (by simp) rfl 34 rfl
          obtain ⟨ev, hev⟩ : ∃ ev, a'.eval = ev := ⟨_, rfl⟩
          rw [hev] at g34 ⊢
          clear hev hG hk
          have cq : X.cell? ⟨nb, 0, none⟩ = some (.map (some mb2)) := by simp only [World.cell?, hB.block nb (HT2.out.lt (.inl rfl)).2, HT2.out.blk]; rfl
          exact .inr ⟨rfl, .inl ⟨.pointer (some ⟨t0.B, 7, none⟩), X, by clear hs; go_simp, Below.refl _ _, rfl⟩⟩
        | 10, ho =>
          obtain rfl : _ = o := Option.some.inj ho
          obtain rfl : 36 = d := Option.some.inj hd
          have g35 : a'.eval (.tmp 35) = .pointer (some ⟨t0.B, 7, none⟩) := hG ⟨9, .data⟩ (by simp) rfl 35 rfl
          refine .inr ⟨rfl, .inr ⟨57, #[.pointer (some ⟨t0.B, 7, none⟩)], ?_, ?_⟩⟩
          · have gF : a'.eval (.func 57) = .func (.func 57) #[] #[] := rfl
            obtain ⟨ev, hev⟩ : ∃ ev, a'.eval = ev := ⟨_, rfl⟩
            rw [hev] at gF g35 ⊢
            exact exec_call1 rfl gF g35 (enters_of Try.func57 (by kernel_rfl) rfl)
          refine (list_any (HRo.out.same (fun k hk => hB.block k (HRo.out.lt hk).2)) hen1).mono ?_
          rintro e Y ⟨v', he, hr, _, hb⟩
          obtain ⟨sp, c, rfl⟩ := row_form hr
          exact ⟨_, he, hb, sp, c, rfl, row_mono hr hB.size⟩
        | 11, ho =>
          obtain rfl : _ = o := Option.some.inj ho
          obtain rfl : 37 = d := Option.some.inj hd
          have g36 : (CL t0 W'.heap.size) (a'.eval (.tmp 36)) X := hG ⟨10, .data⟩ (by simp) rfl 36 rfl
          obtain ⟨ev, hev⟩ : ∃ ev, a'.eval = ev := ⟨_, rfl⟩
          rw [hev] at g36 ⊢
          clear hev hG hk
          obtain ⟨sp, c, e1, o1⟩ := g36
          exact .inr ⟨rfl, .inl ⟨.agg #[.slice sp t0.ob.ents.length c], X, by clear hs; go_simp, Below.refl _ _, sp, c, rfl, o1⟩⟩
        | 12, ho =>
          obtain rfl : _ = o := Option.some.inj ho
          obtain rfl : 38 = d := Option.some.inj hd
          have g32 : (CT t0 W'.heap.size) (a'.eval (.tmp 32)) X := hG ⟨6, .data⟩ (by simp) rfl 32 rfl
          have g37 : (CA t0 W'.heap.size) (a'.eval (.tmp 37)) X := hG ⟨11, .data⟩ (by simp) rfl 37 rfl
          obtain ⟨ev, hev⟩ : ∃ ev, a'.eval = ev := ⟨_, rfl⟩
          rw [hev] at g32 g37 ⊢
          clear hev hG hk
          obtain ⟨sp, c, e1, o1⟩ := g32
          obtain ⟨sp2, c2, e2, o2⟩ := g37
          unfold infoV at e1
          exact .inr ⟨rfl, .inl ⟨.agg #[.int .i64 t0.ob.id, .int .i64 t0.ob.kind, .int .i64 t0.ob.quota, .int .i64 t0.ob.used, .int .i64 t0.ob.links, .int .i64 t0.ob.df, .slice sp t0.ob.cats.length c, .slice sp2 t0.ob.ents.length c2], X, by clear hs; go_simp, Below.refl _ _, sp, c, sp2, c2, rfl, o1, o2⟩⟩
        | 13, ho =>
          obtain rfl : _ = o := Option.some.inj ho
          obtain rfl : 39 = d := Option.some.inj hd
          have g38 : (CO t0 W'.heap.size) (a'.eval (.tmp 38)) X := hG ⟨12, .data⟩ (by simp) rfl 38 rfl
          obtain ⟨ev, hev⟩ : ∃ ev, a'.eval = ev := ⟨_, rfl⟩
          rw [hev] at g38 ⊢
          clear hev hG hk
          obtain ⟨sp, c, sp2, c2, e1, o1, o2⟩ := g38
          exact .inr ⟨rfl, .inl ⟨.pointer (some ⟨X.heap.size, 0, none⟩), _, by clear hs; go_simp, (Below.refl _ _).alloc (Nat.le_refl _) _, CO.box hB.size o1 o2⟩⟩
        | j + 14, ho => simp at ho
      · intro a' X hB hs hdf hk hG
        obtain ⟨tm, df⟩ := a'
        obtain rfl : df = [] := hdf
        have e0 : tm.getD 0 undef = .pointer (some ⟨tb, 0, none⟩) := hk 0 (by kernel_rfl)
        have e1 : tm.getD 1 undef = undef := hk 1 (by kernel_rfl)
        have e2 : tm.getD 2 undef = .pointer none := hk 2 (by kernel_rfl)
        have e3 : tm.getD 3 undef = .pointer (some ⟨nb, 0, none⟩) := hk 3 (by kernel_rfl)
        have e4 : tm.getD 4 undef = .int .i64 s0 := hk 4 (by kernel_rfl)
        have e5 : tm.getD 5 undef = .pointer (some ⟨t0.B, 0, none⟩) := hk 5 (by kernel_rfl)
        have e6 : tm.getD 6 undef = .pointer (some ⟨tb, 0, none⟩) := hk 6 (by kernel_rfl)
        have e7 : tm.getD 7 undef = .bool false := hk 7 (by kernel_rfl)
        have e8 : tm.getD 8 undef = .pointer (some ⟨tb, 0, none⟩) := hk 8 (by kernel_rfl)
        have e9 : tm.getD 9 undef = .pointer (some ⟨tb, 0, none⟩) := hk 9 (by kernel_rfl)
        have e10 : tm.getD 10 undef = .pointer (some ⟨tb, 0, none⟩) := hk 10 (by kernel_rfl)
        have e11 : tm.getD 11 undef = .map (some mb) := hk 11 (by kernel_rfl)
        have e12 : tm.getD 12 undef = .int .i64 (Maps.size D) := hk 12 (by kernel_rfl)
        have e13 : tm.getD 13 undef = .map (some mb2) := hk 13 (by kernel_rfl)
        have e14 : tm.getD 14 undef = .agg #[.map (some mb2)] := hk 14 (by kernel_rfl)
        have e15 : tm.getD 15 undef = .pointer (some ⟨nb, 0, none⟩) := hk 15 (by kernel_rfl)
        have e16 : tm.getD 16 undef = .pointer (some ⟨tb, 0, none⟩) := hk 16 (by kernel_rfl)
        have e17 : tm.getD 17 undef = .pointer (some ⟨tb, 0, none⟩) := hk 17 (by kernel_rfl)
        have e18 : tm.getD 18 undef = .pointer (some ⟨tb, 0, none⟩) := hk 18 (by kernel_rfl)
        have e19 : tm.getD 19 undef = .map (some mb) := hk 19 (by kernel_rfl)
        have e20 : tm.getD 20 undef = .pointer (some ⟨it, 0, none⟩) := hk 20 (by kernel_rfl)
        have e21 : tm.getD 21 undef = .tuple #[.bool true, .int .i64 s0, .pointer (some ⟨t0.B, 0, none⟩)] := hk 21 (by kernel_rfl)
        have e22 : tm.getD 22 undef = .bool true := hk 22 (by kernel_rfl)
        have e23 : tm.getD 23 undef = .tuple #[.int .i64 s0, .pointer (some ⟨t0.B, 0, none⟩)] := hk 23 (by kernel_rfl)
        have e24 : tm.getD 24 undef = .int .i64 s0 := hk 24 (by kernel_rfl)
        have e25 : tm.getD 25 undef = .pointer (some ⟨t0.B, 0, none⟩) := hk 25 (by kernel_rfl)
        have e40 : tm.getD 40 undef = undef := hk 40 (by kernel_rfl)
        have g26 : (tm.getD 26 undef) = .pointer (some ⟨nb, 0, none⟩) := hG 0 26 (by decide) rfl
        have g27 : (tm.getD 27 undef) = .pointer (some ⟨nb, 0, none⟩) := hG 1 27 (by decide) rfl
        have g28 : (tm.getD 28 undef) = .pointer (some ⟨nb, 0, none⟩) := hG 2 28 (by decide) rfl
        have g29 : (tm.getD 29 undef) = .map (some mb2) := hG 3 29 (by decide) rfl
        have g30 : (tm.getD 30 undef) = .int .i64 s0 := hG 4 30 (by decide) rfl
        have g31 : (tm.getD 31 undef) = .pointer (some ⟨t0.B, 0, none⟩) := hG 5 31 (by decide) rfl
        have g32 : (CT t0 W'.heap.size) ((tm.getD 32 undef)) X := hG 6 32 (by decide) rfl
        have g33 : (tm.getD 33 undef) = .pointer (some ⟨t0.B, 0, none⟩) := hG 7 33 (by decide) rfl
        have g34 : (tm.getD 34 undef) = .pointer (some ⟨t0.B, 0, none⟩) := hG 8 34 (by decide) rfl
        have g35 : (tm.getD 35 undef) = .pointer (some ⟨t0.B, 7, none⟩) := hG 9 35 (by decide) rfl
        have g36 : (CL t0 W'.heap.size) ((tm.getD 36 undef)) X := hG 10 36 (by decide) rfl
        have g37 : (CA t0 W'.heap.size) ((tm.getD 37 undef)) X := hG 11 37 (by decide) rfl
        have g38 : (CO t0 W'.heap.size) ((tm.getD 38 undef)) X := hG 12 38 (by decide) rfl
        have g39 : (CB t0 W'.heap.size) ((tm.getD 39 undef)) X := hG 13 39 (by decide) rfl
        have htm := arr_of tm ((.pointer (some ⟨tb, 0, none⟩) : Value) :: (undef : Value) :: (.pointer none : Value) :: (.pointer (some ⟨nb, 0, none⟩) : Value) :: (.int .i64 s0 : Value) :: (.pointer (some ⟨t0.B, 0, none⟩) : Value) :: (.pointer (some ⟨tb, 0, none⟩) : Value) :: (.bool false : Value) :: (.pointer (some ⟨tb, 0, none⟩) : Value) :: (.pointer (some ⟨tb, 0, none⟩) : Value) :: (.pointer (some ⟨tb, 0, none⟩) : Value) :: (.map (some mb) : Value) :: (.int .i64 (Maps.size D) : Value) :: (.map (some mb2) : Value) :: (.agg #[.map (some mb2)] : Value) :: (.pointer (some ⟨nb, 0, none⟩) : Value) :: (.pointer (some ⟨tb, 0, none⟩) : Value) :: (.pointer (some ⟨tb, 0, none⟩) : Value) :: (.pointer (some ⟨tb, 0, none⟩) : Value) :: (.map (some mb) : Value) :: (.pointer (some ⟨it, 0, none⟩) : Value) :: (.tuple #[.bool true, .int .i64 s0, .pointer (some ⟨t0.B, 0, none⟩)] : Value) :: (.bool true : Value) :: (.tuple #[.int .i64 s0, .pointer (some ⟨t0.B, 0, none⟩)] : Value) :: (.int .i64 s0 : Value) :: (.pointer (some ⟨t0.B, 0, none⟩) : Value) :: (tm.getD 26 undef : Value) :: (tm.getD 27 undef : Value) :: (tm.getD 28 undef : Value) :: (tm.getD 29 undef : Value) :: (tm.getD 30 undef : Value) :: (tm.getD 31 undef : Value) :: (tm.getD 32 undef : Value) :: (tm.getD 33 undef : Value) :: (tm.getD 34 undef : Value) :: (tm.getD 35 undef : Value) :: (tm.getD 36 undef : Value) :: (tm.getD 37 undef : Value) :: (tm.getD 38 undef : Value) :: (tm.getD 39 undef : Value) :: (undef : Value) :: []) hs (by show (tm.getD 0 undef :: tm.getD 1 undef :: tm.getD 2 undef :: tm.getD 3 undef :: tm.getD 4 undef :: tm.getD 5 undef :: tm.getD 6 undef :: tm.getD 7 undef :: tm.getD 8 undef :: tm.getD 9 undef :: tm.getD 10 undef :: tm.getD 11 undef :: tm.getD 12 undef :: tm.getD 13 undef :: tm.getD 14 undef :: tm.getD 15 undef :: tm.getD 16 undef :: tm.getD 17 undef :: tm.getD 18 undef :: tm.getD 19 undef :: tm.getD 20 undef :: tm.getD 21 undef :: tm.getD 22 undef :: tm.getD 23 undef :: tm.getD 24 undef :: tm.getD 25 undef :: tm.getD 26 undef :: tm.getD 27 undef :: tm.getD 28 undef :: tm.getD 29 undef :: tm.getD 30 undef :: tm.getD 31 undef :: tm.getD 32 undef :: tm.getD 33 undef :: tm.getD 34 undef :: tm.getD 35 undef :: tm.getD 36 undef :: tm.getD 37 undef :: tm.getD 38 undef :: tm.getD 39 undef :: tm.getD 40 undef :: []) = _; rw [e0, e1, e2, e3, e4, e5, e6, e7, e8, e9, e10, e11, e12, e13, e14, e15, e16, e17, e18, e19, e20, e21, e22, e23, e24, e25, e40]; try rfl)
        clear hs hk hG e0 e1 e2 e3 e4 e5 e6 e7 e8 e9 e10 e11 e12 e13 e14 e15 e16 e17 e18 e19 e20 e21 e22 e23 e24 e25 e40
        generalize tm.getD 26 undef = t26 at htm g26
        generalize tm.getD 27 undef = t27 at htm g27
        generalize tm.getD 28 undef = t28 at htm g28
        generalize tm.getD 29 undef = t29 at htm g29
        generalize tm.getD 30 undef = t30 at htm g30
        generalize tm.getD 31 undef = t31 at htm g31
        generalize tm.getD 32 undef = t32 at htm g32
        generalize tm.getD 33 undef = t33 at htm g33
        generalize tm.getD 34 undef = t34 at htm g34
        generalize tm.getD 35 undef = t35 at htm g35
        generalize tm.getD 36 undef = t36 at htm g36
        generalize tm.getD 37 undef = t37 at htm g37
        generalize tm.getD 38 undef = t38 at htm g38
        generalize tm.getD 39 undef = t39 at htm g39
        subst htm
        subst g26
        subst g27
        subst g28
        subst g29
        subst g30
        subst g31
        subst g33
        subst g34
        subst g35
        simp only [List.drop_succ_cons, List.drop_zero]
        obtain ⟨sN, hsN, hoN, hrN⟩ := g39
        subst hsN
        have hX2 := HT2.out.below hB
        obtain ⟨hlf, hob2, hnit, hcnt⟩ := HX.out
        have hszD : Maps.size D2 < 1000000 := by omega
        obtain ⟨w5, hup, hm5, hg5⟩ := hX2.map.update keyedI um (by unfold maxLen; omega) (keyI hi0) (val := .pointer (some ⟨sN.B, 0, none⟩)) (d := .lit (.int .i64 (sN.B : Int))) (ps := []) rfl
        have hno : T2 s0 = none := by
          have := hob2 s0
          rw [if_pos hls] at this
          cases hT : T2 s0 with
          | none => rfl
          | some r => rw [hT] at this; cases this
        have hwW : w.heap.size ≤ W'.heap.size := HB'.out.size
        have hrN' : RAt X w.heap.size sN := ⟨hrN.blk, row_mono hrN.cat hwW, row_mono hrN.row hwW, Nat.le_trans hwW hrN.low⟩
        have hid : sN.ob.id = s0 := by rw [hoN]; exact (HH.out.obj s0 t0 ht0).2
        have hadd := hX2.add sN s0 hno hid hrN' (fun k h1 h2 => by have := (hrN.lt h1).1; have := (HT2.out.lt h2).2; omega) (map_exact hm5) hg5
        have HAdd := Lib.hid hadd
        have HG5 := Lib.hid hg5
        have HBX := Lib.hid hB
        have HRN := Lib.hid hrN
        have HON := Lib.hid hoN
        have hHX := Lib.hid (show (∀ k, left k = true → (T k).isSome = true) ∧ (∀ k, (T2 k).map (·.ob) = if left k = true then none else (T k).map (·.ob)) ∧ (∀ k, tfoot nb mb2 T2 k → k ≠ it) ∧ Maps.size D2 + cnt ≤ Maps.size D from ⟨hlf, hob2, hnit, hcnt⟩)
        clear hadd hg5 hm5 hB hrN hrN' hoN hX2 hlf hob2 hnit hcnt hno hid g32 g36 g37 g38 hszD
        go_wp2_with fail
        go_roundw
        case rel =>
          obtain ⟨hlf, hob2, hnit, hcnt⟩ := hHX.out
          have hitl := HMR'.out.lt
          have hmb2l := (HT2.out.lt (.inr (.inl rfl))).2
          have hmbn : mb ≠ mb2 := fun e => by have := (HH.out.lt (k := mb) (.inr (.inl rfl))).2; have := HMb2.out; omega
          have hitn : it ≠ mb2 := fun e => hnit mb2 (.inr (.inl rfl)) e.symm
          have h5 : ∀ k, k < W'.heap.size → k ≠ mb2 → w5.heap[k]? = W'.heap[k]? := fun k hk hne => (HG5.out.block k (Nat.lt_of_lt_of_le hk HBX.out.size) (by simpa using hne)).trans (HBX.out.block k hk)
          have hwW : w.heap.size ≤ W'.heap.size := HB'.out.size
          refine ⟨_, cnt', _, _, HMR'.out.same (h5 mb hitl.1 hmbn) (h5 it hitl.2 hitn), HAdd.out.1, fun k hk => hlf k (by simp at hk; exact hk.1), fun k => ?_, fun k hk => ?_, by rw [HAdd.out.2]; omega, ?_⟩
          · unfold upd
            by_cases e : k = s0
            · subst e
              rw [if_pos rfl, ht0]
              simp [HON.out]
            · rw [if_neg e, hob2 k]
              simp [e]
          · rcases hk with h1 | h1 | ⟨a, t, ht, h1⟩
            · exact hnit k (.inl h1)
            · exact hnit k (.inr (.inl h1))
            · unfold upd at ht
              split at ht
              · have e : sN = t := by simpa using ht
                rw [← e] at h1
                have := (HRN.out.lt h1).1
                have := hitl.2
                omega
              · exact hnit k (.inr (.inr ⟨a, t, ht, h1⟩))
          · exact ⟨HG5.out.os.trans (HBX.out.os.trans HB'.out.os), HG5.out.tape.trans (HBX.out.tape.trans HB'.out.tape), HG5.out.output.trans (HBX.out.output.trans HB'.out.output), Nat.le_trans HB'.out.size (Nat.le_trans HBX.out.size HG5.out.size), fun k hk => (h5 k (by omega) (by have := HMb2.out; omega)).trans (HB'.out.block k hk)⟩
        case measure =>
          obtain ⟨hlf, hob2, hnit, hcnt⟩ := hHX.out
          have hitl := HMR'.out.lt
          have hmbn : mb ≠ mb2 := fun e => by have := (HH.out.lt (k := mb) (.inr (.inl rfl))).2; have := HMb2.out; omega
          have hitn : it ≠ mb2 := fun e => hnit mb2 (.inr (.inl rfl)) e.symm
          have h5 : ∀ k, k < W'.heap.size → k ≠ mb2 → w5.heap[k]? = W'.heap[k]? := fun k hk hne => (HG5.out.block k (Nat.lt_of_lt_of_le hk HBX.out.size) (by simpa using hne)).trans (HBX.out.block k hk)
          have e5 : w5.rangeLeft mb it = cnt' := by
            obtain ⟨n, lf, hr, _⟩ := HMR'.out.same (h5 mb hitl.1 hmbn) (h5 it hitl.2 hitn)
            exact hr.left_eq
          rw [e5, HLt.out]
          exact hlt
end Go.Proofs.Ytebcnlhgkpaghaa
