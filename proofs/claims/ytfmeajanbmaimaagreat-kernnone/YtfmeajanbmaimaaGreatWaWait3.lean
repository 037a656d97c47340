/- What Len, Where and List of package wait answer; release, Wake and Close. -/
import Derived.Test.YtfmeajanbmaimaaGreatWaRTail
import Derived.Orders
import Derived.StillTail
import Derived.Maps.AppendAt
import Derived.Deep.Cut
/- Regions whose order is drawn and whose operations keep all that is older: each operation by what its value is like, whichever others are done. -/
namespace Go.Proofs.YtfmeajanbmaimaaGreat.Wa
open Go.RowKit Go.Sort
def dsts (ops : Array Oper) : List Nat := ops.toList.filterMap (·.dst)
def dstB (ops : Array Oper) (n : Nat) : Bool := ops.toList.all (fun o => match o.dst with | some d => decide (d < n) | none => false) && decide (dsts ops).Nodup
section
variable {P : Program} {ops : Array Oper}
theorem dst_of {n : Nat} (h : dstB ops n = true) {i : Nat} {o : Oper} (ho : ops[i]? = some o) : ∃ d, o.dst = some d ∧ d < n := by
  unfold dstB at h
  rw [Bool.and_eq_true, List.all_eq_true] at h
  have hmem : o ∈ ops.toList := by rw [Array.mem_toList_iff]; exact Array.mem_of_getElem? ho
  have := h.1 o hmem
  cases hd : o.dst with
  | none => rw [hd] at this; cases this
  | some d => rw [hd] at this; exact ⟨d, rfl, by simpa using this⟩
theorem mem_dsts {i : Nat} {o : Oper} {d : Nat} (ho : ops[i]? = some o) (hd : o.dst = some d) : d ∈ dsts ops := by
  unfold dsts
  rw [List.mem_filterMap]
  exact ⟨o, by rw [Array.mem_toList_iff]; exact Array.mem_of_getElem? ho, hd⟩
theorem fm_inj {l : List Oper} (h : (l.filterMap (·.dst)).Nodup) : ∀ {i j : Nat} {o o' : Oper} {d : Nat}, l[i]? = some o → l[j]? = some o' → o.dst = some d → o'.dst = some d → i = j := by
  induction l with
  | nil => intro i j o o' d h1; simp at h1
  | cons x l ih =>
    intro i j o o' d h1 h2 d1 d2
    have hl : (l.filterMap (·.dst)).Nodup := by
      rw [List.filterMap_cons] at h
      split at h
      · exact h
      · exact (List.nodup_cons.1 h).2
    cases i with
    | zero =>
      cases j with
      | zero => rfl
      | succ j =>
        simp only [List.getElem?_cons_zero, Option.some.injEq] at h1
        simp only [List.getElem?_cons_succ] at h2
        subst h1
        rw [List.filterMap_cons, d1] at h
        exact absurd (List.mem_filterMap.2 ⟨o', List.mem_of_getElem? h2, d2⟩) (List.nodup_cons.1 h).1
    | succ i =>
      cases j with
      | zero =>
        simp only [List.getElem?_cons_zero, Option.some.injEq] at h2
        simp only [List.getElem?_cons_succ] at h1
        subst h2
        rw [List.filterMap_cons, d2] at h
        exact absurd (List.mem_filterMap.2 ⟨o, List.mem_of_getElem? h1, d1⟩) (List.nodup_cons.1 h).1
      | succ j =>
        simp only [List.getElem?_cons_succ] at h1 h2
        rw [ih hl h1 h2 d1 d2]
theorem dst_inj {n : Nat} (h : dstB ops n = true) {i j : Nat} {o o' : Oper} {d : Nat} (h1 : ops[i]? = some o) (h2 : ops[j]? = some o') (d1 : o.dst = some d) (d2 : o'.dst = some d) : i = j := by
  unfold dstB dsts at h
  rw [Bool.and_eq_true, decide_eq_true_eq] at h
  exact fm_inj h.2 (by rw [Array.getElem?_toList]; exact h1) (by rw [Array.getElem?_toList]; exact h2) d1 d2
theorem put_ne (a : Act) {d k : Nat} (v : Value) (h : k ≠ d) : (a.put (some d) v).eval (.tmp k) = a.eval (.tmp k) := by
  simp only [Act.put, Act.eval, Array.getD_eq_getD_getElem?]
  rw [Array.getElem?_setIfInBounds_ne (Ne.symm h)]
theorem put_eq (a : Act) {d : Nat} (v : Value) (h : d < a.tmps.size) : (a.put (some d) v).eval (.tmp d) = v := by
  simp only [Act.put, Act.eval, Array.getD_eq_getD_getElem?]
  rw [Array.getElem?_setIfInBounds_self_of_lt h]; rfl
theorem cnt_take (l : List Bool) (n i : Nat) (hi : i < n) (h : l[i]? = some false) : ((l.set i true).take n).count false + 1 = (l.take n).count false := by
  rw [List.take_set]
  exact cf_set (l.take n) i (by rw [List.getElem?_take_of_lt hi]; exact h)
/-- The operation i waits for j, over at most f others. -/
def needB (ops : Array Oper) : Nat → Nat → Nat → Bool
  | 0, _, _ => false
  | f + 1, i, j => match ops[i]? with | some o => o.after.any (fun e => Region.binds .any e && (e.on == j || needB ops f e.on j)) | none => false
/-- Whatever a done operation waits for is done. -/
def ClB (ops : Array Oper) (li : Array Bool) : Prop := ∀ i o, ops[i]? = some o → li.getD i false = true → ∀ e ∈ o.after, Region.binds .any e = true → li.getD e.on false = true
theorem need_done {li : Array Bool} (hc : ClB ops li) : ∀ (f i j : Nat) (o : Oper), ops[i]? = some o → (∀ e ∈ o.after, Region.binds .any e = true → li.getD e.on false = true) → needB ops f i j = true → li.getD j false = true
  | 0, _, _, _, _, _, h => by cases h
  | f + 1, i, j, o, ho, hd, h => by
    unfold needB at h
    rw [ho] at h
    simp only [Array.any_eq_true', Bool.and_eq_true, Bool.or_eq_true, beq_iff_eq] at h
    obtain ⟨e, he, hb, hj⟩ := h
    have h1 := hd e he hb
    rcases hj with hj | hj
    · rw [← hj]; exact h1
    · cases hoe : ops[e.on]? with
      | none => cases f <;> simp [needB, hoe] at hj
      | some o' => exact need_done hc f e.on j o' hoe (hc e.on o' hoe h1) hj
theorem getD_set {li : Array Bool} {i j : Nat} (h : li.getD j false = true) : (li.setIfInBounds i true).getD j false = true := by
  rw [Array.getD_eq_getD_getElem?] at h ⊢
  rw [Array.getElem?_setIfInBounds]
  split
  · split
    · rfl
    · rename_i h1 h2; subst h1; rw [Array.getElem?_eq_none (by omega)] at h; exact h
  · exact h
theorem ClB.set {li : Array Bool} (hc : ClB ops li) {i : Nat} {o : Oper} (ho : ops[i]? = some o) (hd : ∀ e ∈ o.after, Region.binds .any e = true → li.getD e.on false = true) : ClB ops (li.setIfInBounds i true) := by
  intro k ok hk hkd e he hb
  by_cases hki : k = i
  · subst hki
    rw [hk] at ho; cases ho
    exact getD_set (hd e he hb)
  · refine getD_set (hc k ok hk ?_ e he hb)
    rw [Array.getD_eq_getD_getElem?, Array.getElem?_setIfInBounds_ne (Ne.symm hki)] at hkd
    rw [Array.getD_eq_getD_getElem?]; exact hkd
end
/-- An array by its entries. -/
theorem arr_of (tm : Array Value) (l : List Value) (hs : tm.size = l.length) (h : (List.range l.length).map (fun k => tm.getD k undef) = l) : tm = l.toArray := by
  apply Array.ext
  · simpa using hs
  · intro i h1 h2
    have h2' : i < l.length := by simpa using h2
    have e : ((List.range l.length).map (fun k => tm.getD k undef))[i]? = l[i]? := by rw [h]
    rw [List.getElem?_map, List.getElem?_range h2', List.getElem?_eq_getElem h2'] at e
    simp only [Option.map_some, Option.some.injEq] at e
    rw [Array.getD_eq_getD_getElem?, Array.getElem?_eq_getElem h1] at e
    simpa using e
end Go.Proofs.YtfmeajanbmaimaaGreat.Wa
/- What threads of package wait answers: the threads of a queue, in order. -/
namespace Go.Proofs.YtfmeajanbmaimaaGreat.Wa
open Go.RowKit Go.Sort
attribute [local go_sem] Oper.semAt_some
theorem intInfo : (Tryz.prog.info? 3).map (fun i => (i.zero, i.size, i.bytes)) = some (some (.int .i64 0), 1, 8) := by kernel_rfl
theorem block_kept {W W' : World} {k : Nat} {c : Array Value} {t : TypeId} {f : Nat × Nat} {row : Option Nat} (h : W.heap[k]? = some (.cells c t f)) (hg : W.grownBy W' row) (hr : ∀ r, row = some r → ∃ o : Obj, W.heap[r]? = some o ∧ o.isCells = false) : W'.heap[k]? = some (.cells c t f) :=
  (hg.block k (heap_lt h) (fun e => by
    obtain ⟨o, ho, hc⟩ := hr k e.symm
    rw [h] at ho; cases ho; cases hc)).trans h
theorem row_ne {w : World} {base n B : Nat} {v : Value} {xs : List Value} {e t : TypeId} {sz : Nat} {c : Array Value} {f : Nat × Nat} (hr : w.ownsRow base e sz v n xs) (hB : w.heap[B]? = some (.cells c t f)) (ht : t ≠ e) : v.ownBlock ≠ some B := fun h => by
  rcases hr.2 with ⟨rfl, _⟩ | ⟨g, cap', cur, rfl, _, hg, _⟩
  · cases h
  · obtain rfl : g = B := by simpa [Value.ownBlock] using h
    rw [hB] at hg
    simp at hg
    exact ht hg.2.1
/-- A row of one number, newly made. -/
def I1V (c : Int) (v : Value) (W : World) : Prop := ∃ g, v = .slice (some ⟨g, 0, none⟩) 1 1 ∧ W.cell? ⟨g, 0, none⟩ = some (.int .i64 c) ∧ g < W.heap.size
theorem I1V.below {c : Int} {v : Value} {W W' : World} (h : I1V c v W) (hb : Below W.heap.size W W') : I1V c v W' := by
  obtain ⟨g, h1, h2, h3⟩ := h
  exact ⟨g, h1, (hb.cell (p := ⟨g, 0, none⟩) h3).trans h2, Nat.lt_of_lt_of_le h3 hb.size⟩
end Go.Proofs.YtfmeajanbmaimaaGreat.Wa
/- Rooms as they lie in memory: who waits, in two kinds of queues, and alerts. -/
namespace Go.Proofs.YtfmeajanbmaimaaGreat.Wa
open Go.RowKit Go.Sort
open Go.Maps (Keyed)
/-- What a block is for. -/
inductive Tag
  | rb
  | m (i : Nat)
  | wt (t : Int)
  | ip (t : Int)
  | is (t : Int)
  | pq (s o : Int)
  | sq (s : Int)
  | aq (t : Int)
  | ai (t : Int)
/-- Who waits: its block, its thread, its place, its two items. -/
structure Wt where
  B : Nat
  th : Int
  seg : Int
  off : Int
  ip : Nat
  is : Nat
structure Al where
  I : Nat
  c : Int
structure Rm where
  rb : Nat
  m0 : Nat
  m1 : Nat
  m2 : Nat
  m3 : Nat
  fw : Lit → Option Nat
  fp : Lit → Option Nat
  fs : Lit → Option Nat
  fa : Lit → Option Nat
  all : List Wt
  pq : Int → Int → Nat
  sq : Int → Nat
  al : Int → List Al
  aq : Int → Nat
  own : Nat → Option Tag
  N : Nat
def wtC (x : Wt) : Array Value := #[.int .i64 x.seg, .int .i64 x.off, .int .i64 x.th, pv x.ip, pv x.is]
def atP (s o : Int) (l : List Wt) : List Wt := l.filter fun x => x.seg == s && x.off == o
def inS (s : Int) (l : List Wt) : List Wt := l.filter fun x => x.seg == s
def itP (l : List Wt) : List It := l.map fun x => ⟨x.ip, pv x.B⟩
def itS (l : List Wt) : List It := l.map fun x => ⟨x.is, pv x.B⟩
def itA (l : List Al) : List It := l.map fun x => ⟨x.I, .int .i64 x.c⟩
structure RmAt (w : World) (R : Rm) : Prop where
  blk : w.heap[R.rb]? = some (.cells #[.map (some R.m0), .map (some R.m1), .map (some R.m2), .map (some R.m3)] 191 (0, 0))
  mw : MAt w 3 R.m0 R.all.length R.fw
  mp : ∃ n, n ≤ R.N ∧ MAt w 199 R.m1 n R.fp
  ms : ∃ n, n ≤ R.N ∧ MAt w 3 R.m2 n R.fs
  ma : ∃ n, n ≤ R.N ∧ MAt w 3 R.m3 n R.fa
  fw : ∀ t, R.fw (ky t) = (R.all.find? fun x => x.th == t).map (·.B)
  fp : ∀ s o, i64 s → i64 o → R.fp (kp s o) = if atP s o R.all = [] then none else some (R.pq s o)
  fs : ∀ s, R.fs (ky s) = if inS s R.all = [] then none else some (R.sq s)
  fa : ∀ t, R.fa (ky t) = if R.al t = [] then none else some (R.aq t)
  len : R.all.length ≤ R.N
  lenA : ∀ t, (R.al t).length ≤ R.N
  wts : ∀ x ∈ R.all, w.heap[x.B]? = some (.cells (wtC x) 202 (0, 0))
  qp : ∀ s o, atP s o R.all ≠ [] → QAW w (R.pq s o) (itP (atP s o R.all))
  qs : ∀ s, inS s R.all ≠ [] → QAW w (R.sq s) (itS (inS s R.all))
  qa : ∀ t, R.al t ≠ [] → QAI w (R.aq t) (itA (R.al t))
  nd : (R.all.map (·.th)).Nodup
  good : ∀ x ∈ R.all, i64 x.th ∧ i64 x.seg ∧ i64 x.off
  goodA : ∀ t a, a ∈ R.al t → i64 t ∧ i64 a.c
  orb : R.own R.rb = some .rb
  om0 : R.own R.m0 = some (.m 0)
  om1 : R.own R.m1 = some (.m 1)
  om2 : R.own R.m2 = some (.m 2)
  om3 : R.own R.m3 = some (.m 3)
  ow : ∀ x ∈ R.all, R.own x.B = some (.wt x.th) ∧ R.own x.ip = some (.ip x.th) ∧ R.own x.is = some (.is x.th)
  op : ∀ s o, atP s o R.all ≠ [] → R.own (R.pq s o) = some (.pq s o)
  os : ∀ s, inS s R.all ≠ [] → R.own (R.sq s) = some (.sq s)
  oa : ∀ t, R.al t ≠ [] → R.own (R.aq t) = some (.aq t)
  oi : ∀ t a, a ∈ R.al t → R.own a.I = some (.ai t)
  lt : ∀ k, R.own k ≠ none → k < w.heap.size
theorem mem_atP {s o : Int} {l : List Wt} {x : Wt} : x ∈ atP s o l ↔ x ∈ l ∧ x.seg = s ∧ x.off = o := by unfold atP; simp [List.mem_filter]
theorem mem_inS {s : Int} {l : List Wt} {x : Wt} : x ∈ inS s l ↔ x ∈ l ∧ x.seg = s := by unfold inS; simp [List.mem_filter]
theorem qfP {Q : Nat} {l : List Wt} {k : Nat} : qf Q (itP l) k ↔ k = Q ∨ ∃ x ∈ l, k = x.ip := by unfold qf itP; simp [eq_comm]
theorem qfS {Q : Nat} {l : List Wt} {k : Nat} : qf Q (itS l) k ↔ k = Q ∨ ∃ x ∈ l, k = x.is := by unfold qf itS; simp [eq_comm]
theorem qfA {Q : Nat} {l : List Al} {k : Nat} : qf Q (itA l) k ↔ k = Q ∨ ∃ x ∈ l, k = x.I := by unfold qf itA; simp [eq_comm]
section
variable {w w' : World} {R : Rm} {S : Tag → Prop} {own : Nat → Option Tag}
/-- Rooms none of whose blocks has turned. -/
theorem RmAt.same (h : RmAt w R) (hs : w.heap.size ≤ w'.heap.size) (hk : ∀ k, R.own k ≠ none → w'.heap[k]? = w.heap[k]?) : RmAt w' R := by
  have k1 : ∀ {k g}, R.own k = some g → w'.heap[k]? = w.heap[k]? := fun e => hk _ (by rw [e]; simp)
  refine ⟨(k1 h.orb).trans h.blk, h.mw.same (k1 h.om0), ?_, ?_, ?_, h.fw, h.fp, h.fs, h.fa, h.len, h.lenA, fun x hx => (k1 (h.ow x hx).1).trans (h.wts x hx), ?_, ?_, ?_, h.nd, h.good, h.goodA, h.orb, h.om0, h.om1, h.om2, h.om3, h.ow, h.op, h.os, h.oa, h.oi, fun k hk => Nat.lt_of_lt_of_le (h.lt k hk) hs⟩
  · obtain ⟨n, h1, h2⟩ := h.mp; exact ⟨n, h1, h2.same (k1 h.om1)⟩
  · obtain ⟨n, h1, h2⟩ := h.ms; exact ⟨n, h1, h2.same (k1 h.om2)⟩
  · obtain ⟨n, h1, h2⟩ := h.ma; exact ⟨n, h1, h2.same (k1 h.om3)⟩
  · intro s o hne
    refine (h.qp s o hne).same (fun k hk => ?_)
    rcases qfP.1 hk with rfl | ⟨x, hm, rfl⟩
    · exact k1 (h.op s o hne)
    · exact k1 (h.ow x (mem_atP.1 hm).1).2.1
  · intro s hne
    refine (h.qs s hne).same (fun k hk => ?_)
    rcases qfS.1 hk with rfl | ⟨x, hm, rfl⟩
    · exact k1 (h.os s hne)
    · exact k1 (h.ow x (mem_inS.1 hm).1).2.2
  · intro t hne
    refine (h.qa t hne).same (fun k hk => ?_)
    rcases qfA.1 hk with rfl | ⟨x, hm, rfl⟩
    · exact k1 (h.oa t hne)
    · exact k1 (h.oi t x hm)
theorem RmAt.below (h : RmAt w R) (hb : Below w.heap.size w w') : RmAt w' R := h.same hb.size (fun k hk => hb.block k (h.lt k hk))
end
/-- The waiter of a thread. -/
theorem RmAt.find {w : World} {R : Rm} (h : RmAt w R) {x : Wt} (hx : x ∈ R.all) : R.all.find? (fun y => y.th == x.th) = some x := by
  have hnd := h.nd
  generalize R.all = l at hx hnd
  induction l with
  | nil => simp at hx
  | cons y l ih =>
    rw [List.find?_cons]
    rcases List.mem_cons.1 hx with rfl | hx
    · simp
    · have hne : ¬ y.th = x.th := fun e => (List.nodup_cons.1 hnd).1 (by show y.th ∈ _; rw [e]; exact List.mem_map_of_mem hx)
      rw [show (y.th == x.th) = false from by simpa using hne]
      exact ih hx (List.nodup_cons.1 hnd).2
theorem find_none {l : List Wt} {t : Int} (h : ∀ x ∈ l, x.th ≠ t) : l.find? (fun y => y.th == t) = none := by
  rw [List.find?_eq_none]
  intro x hx
  simpa using h x hx
end Go.Proofs.YtfmeajanbmaimaaGreat.Wa
/- What leave of package wait does. -/
namespace Go.Proofs.YtfmeajanbmaimaaGreat.Wa
open Go.RowKit Go.Sort
theorem umW : Tryz.prog.underlying 183 = some (.map 3 196) := by kernel_rfl
theorem uzW (w : World) : (zeroValue 196).run Tryz.prog w = .ok np w := by kernel_rfl
end Go.Proofs.YtfmeajanbmaimaaGreat.Wa
/- What becomes of the rooms when an alert is left, taken, or all of a thread are forgotten. -/
namespace Go.Proofs.YtfmeajanbmaimaaGreat.Wa
open Go.RowKit Go.Sort
open Classical in
noncomputable def ownA (own : Nat → Option Tag) (I Q : Nat) (t : Int) (k : Nat) : Option Tag := if k = I then some (.ai t) else if k = Q then some (.aq t) else own k
end Go.Proofs.YtfmeajanbmaimaaGreat.Wa
/- What New, Wait, Len and Where of package wait answer. -/
namespace Go.Proofs.YtfmeajanbmaimaaGreat.Wa
open Go.RowKit Go.Sort
def okN (n : Int) : Bool := decide (1 ≤ n) && decide (n ≤ 2305843009213693951)
def okO (o : Int) : Bool := decide (0 ≤ o) && decide (o < 4096)
theorem isNumber_any (n : Int) (w : World) : Calls Tryz.prog 204 #[.int .i64 n] w fun e w' => e = .returned (.bool (okN n)) ∧ w' = w := by
  by_cases h1 : 1 ≤ n <;> by_cases h2 : n ≤ 2305843009213693951 <;>
  · go_enter Tryz.func204, Tryz.ntmps204
    go_wp2
    go_ret
    exact ⟨by simp [okN, h1, h2], rfl⟩
theorem canBe_any (s o : Int) (w : World) : Calls Tryz.prog 205 #[.agg #[.int .i64 s, .int .i64 o]] w fun e w' => e = .returned (.bool (okN s && okO o)) ∧ Below w.heap.size w w' := by
  have hb : Below w.heap.size w (w.alloc (.cells #[.int .i64 s, .int .i64 o] 199)) := by go_grown
  have HI := Lib.hid (isNumber_any s)
  by_cases h0 : okN s = true
  · rw [h0] at HI
    rcases (by omega : (0 ≤ o ∧ o < 4096) ∨ (0 ≤ o ∧ ¬ o < 4096) ∨ (¬ 0 ≤ o ∧ o < 4096)) with ⟨h1, h2⟩ | ⟨h1, h2⟩ | ⟨h1, h2⟩
    all_goals
      go_enter Tryz.func205, Tryz.ntmps205
      go_wp2_with (go_at_call 204; refine (HI.out _).mono ?_; rintro e w2 ⟨rfl, hw2⟩; rw [hw2]; clear hw2 w2)
      go_ret
      exact ⟨by simp [okO, h0, h1, h2], hb⟩
  · have h0' : okN s = false := by simpa using h0
    rw [h0'] at HI
    go_enter Tryz.func205, Tryz.ntmps205
    go_wp2_with (go_at_call 204; refine (HI.out _).mono ?_; rintro e w2 ⟨rfl, hw2⟩; rw [hw2]; clear hw2 w2)
    go_ret
    exact ⟨by simp [h0'], hb⟩
/-- A waiting: thread, segment, offset. -/
abbrev Who := Int × Int × Int
def ab (x : Wt) : Who := (x.th, x.seg, x.off)
/-- Rooms in memory that are these: who waits, in an order in which those of one segment came; alerts. -/
def RA (w : World) (rb : Nat) (F : Nat → Prop) (all : List Who) (al : Int → List Int) (N : Nat) : Prop :=
  ∃ R, RmAt w R ∧ R.rb = rb ∧ R.all.map ab = all ∧ (∀ t, (R.al t).map (·.c) = al t) ∧ R.N ≤ N ∧ ∀ k, R.own k ≠ none → F k
theorem RA.mono {w : World} {rb : Nat} {F : Nat → Prop} {all : List Who} {al : Int → List Int} {N N' : Nat} (h : RA w rb F all al N) (hN : N ≤ N') : RA w rb F all al N' := by
  obtain ⟨R, h1, h2, h3, h4, h5, h6⟩ := h
  exact ⟨R, h1, h2, h3, h4, Nat.le_trans h5 hN, h6⟩
theorem RA.same {w w' : World} {rb : Nat} {F : Nat → Prop} {all : List Who} {al : Int → List Int} {N : Nat} (h : RA w rb F all al N) (hs : w.heap.size ≤ w'.heap.size) (hk : ∀ k, k < w.heap.size → F k → w'.heap[k]? = w.heap[k]?) : RA w' rb F all al N := by
  obtain ⟨R, h1, h2, h3, h4, h5, h6⟩ := h
  exact ⟨R, h1.same hs (fun k hk' => hk k (h1.lt k hk') (h6 k hk')), h2, h3, h4, h5, h6⟩
theorem RA.below {w w' : World} {rb : Nat} {F : Nat → Prop} {all : List Who} {al : Int → List Int} {N : Nat} (h : RA w rb F all al N) (hb : Below w.heap.size w w') : RA w' rb F all al N := h.same hb.size (fun k hk _ => hb.block k hk)
theorem RA.len {w : World} {rb : Nat} {F : Nat → Prop} {all : List Who} {al : Int → List Int} {N : Nat} (h : RA w rb F all al N) : all.length ≤ N := by
  obtain ⟨R, h1, h2, h3, h4, h5, h6⟩ := h
  rw [← h3, List.length_map]; have := h1.len; omega
theorem RA.nd {w : World} {rb : Nat} {F : Nat → Prop} {all : List Who} {al : Int → List Int} {N : Nat} (h : RA w rb F all al N) : (all.map (·.1)).Nodup := by
  obtain ⟨R, h1, h2, h3, h4, h5, h6⟩ := h
  rw [← h3, List.map_map]; exact h1.nd
theorem New_any (w : World) : Calls Tryz.prog 51 #[] w fun e w' => ∃ rb F, e = .returned (pv rb) ∧ RA w' rb F [] (fun _ => []) 0 ∧ Below w.heap.size w w' ∧ (∀ k, F k → w.heap.size ≤ k) ∧ ∀ k, F k → k < w'.heap.size := by
  have hmm := @run_makeMap Tryz.prog
  go_enter Tryz.func51, Tryz.ntmps51
  go_wp2
  go_ret
  obtain ⟨W1, hW1⟩ : ∃ W1, w.alloc (.map #[] 0) = W1 := ⟨_, rfl⟩
  obtain ⟨W2, hW2⟩ : ∃ W2, W1.alloc (.map #[] 0) = W2 := ⟨_, rfl⟩
  obtain ⟨W3, hW3⟩ : ∃ W3, W2.alloc (.map #[] 0) = W3 := ⟨_, rfl⟩
  obtain ⟨W4, hW4⟩ : ∃ W4, W3.alloc (.map #[] 0) = W4 := ⟨_, rfl⟩
  rw [hW1, hW2, hW3, hW4]
  have s1 : W1.heap.size = w.heap.size + 1 := by rw [← hW1]; simp
  have s2 : W2.heap.size = w.heap.size + 2 := by rw [← hW2]; simp; omega
  have s3 : W3.heap.size = w.heap.size + 3 := by rw [← hW3]; simp; omega
  have s4 : W4.heap.size = w.heap.size + 4 := by rw [← hW4]; simp; omega
  have b1 : Below w.heap.size w W1 := by rw [← hW1]; exact (Below.refl _ _).alloc (Nat.le_refl _) _
  have b2 : Below W1.heap.size W1 W2 := by rw [← hW2]; exact (Below.refl _ _).alloc (Nat.le_refl _) _
  have b3 : Below W2.heap.size W2 W3 := by rw [← hW3]; exact (Below.refl _ _).alloc (Nat.le_refl _) _
  have b4 : Below W3.heap.size W3 W4 := by rw [← hW4]; exact (Below.refl _ _).alloc (Nat.le_refl _) _
  have m0 : MAt W1 3 w.heap.size 0 (fun _ => none) := by rw [← hW1]; exact MAt.made _ _
  have m1 : MAt W2 199 W1.heap.size 0 (fun _ => none) := by rw [← hW2]; exact MAt.made _ _
  have m2 : MAt W3 3 W2.heap.size 0 (fun _ => none) := by rw [← hW3]; exact MAt.made _ _
  have m3 : MAt W4 3 W3.heap.size 0 (fun _ => none) := by rw [← hW4]; exact MAt.made _ _
  rw [s1] at m1
  rw [s2] at m2
  rw [s3] at m3
  have e4 : W4.heap.size = w.heap.size + 1 + 1 + 1 + 1 := by omega
  obtain ⟨W5, hW5⟩ : ∃ W5, W4.alloc (.cells #[.map (some w.heap.size), .map (some (w.heap.size + 1)), .map (some (w.heap.size + 1 + 1)), .map (some (w.heap.size + 1 + 1 + 1))] 191) = W5 := ⟨_, rfl⟩
  rw [hW5]
  have b5 : Below W4.heap.size W4 W5 := by rw [← hW5]; exact (Below.refl _ _).alloc (Nat.le_refl _) _
  have s5 : W5.heap.size = w.heap.size + 5 := by rw [← hW5]; simp; omega
  have hb5 : W5.heap[w.heap.size + 4]? = some (.cells #[.map (some w.heap.size), .map (some (w.heap.size + 1)), .map (some (w.heap.size + 2)), .map (some (w.heap.size + 3))] 191 (0, 0)) := by rw [← s4, ← hW5]; exact heap_new _ _
  have B : Below w.heap.size w W5 := (((b1.trans (b2.mono (by omega))).trans (b3.mono (by omega))).trans (b4.mono (by omega))).trans (b5.mono (by omega))
  obtain ⟨own, hown⟩ : ∃ own : Nat → Option Tag, own = fun k => if k = w.heap.size + 4 then some .rb else if k = w.heap.size then some (.m 0) else if k = w.heap.size + 1 then some (.m 1) else if k = w.heap.size + 2 then some (.m 2) else if k = w.heap.size + 3 then some (.m 3) else none := ⟨_, rfl⟩
  have hlt : ∀ k, own k ≠ none → w.heap.size ≤ k ∧ k < w.heap.size + 5 := by
    intro k
    rw [hown]
    simp only
    split
    · intro _; omega
    split
    · intro _; omega
    split
    · intro _; omega
    split
    · intro _; omega
    split
    · intro _; omega
    · intro h; exact absurd rfl h
  have hRm : RmAt W5 ⟨w.heap.size + 4, w.heap.size, w.heap.size + 1, w.heap.size + 2, w.heap.size + 3, fun _ => none, fun _ => none, fun _ => none, fun _ => none, [], fun _ _ => 0, fun _ => 0, fun _ => [], fun _ => 0, own, 0⟩ := by
    refine ⟨hb5, ?_, ⟨0, Nat.le_refl _, ?_⟩, ⟨0, Nat.le_refl _, ?_⟩, ⟨0, Nat.le_refl _, ?_⟩, fun _ => rfl, fun _ _ _ _ => (if_pos rfl).symm, fun _ => (if_pos rfl).symm, fun _ => (if_pos rfl).symm, Nat.le_refl _, fun _ => Nat.le_refl _, fun x hx => absurd hx (by simp), fun _ _ h => absurd rfl h, fun _ h => absurd rfl h, fun _ h => absurd rfl h, List.nodup_nil, fun x hx => absurd hx (by simp), fun _ x hx => absurd hx (by simp), ?_, ?_, ?_, ?_, ?_, fun x hx => absurd hx (by simp), fun _ _ h => absurd rfl h, fun _ h => absurd rfl h, fun _ h => absurd rfl h, fun _ x hx => absurd hx (by simp), fun k hk => by have := hlt k hk; omega⟩
    · exact m0.same (((b2.trans (b3.mono (by omega))).trans (b4.mono (by omega))).trans (b5.mono (by omega)) |>.block _ (by omega))
    · exact m1.same ((b3.trans (b4.mono (by omega))).trans (b5.mono (by omega)) |>.block _ (by omega))
    · exact m2.same (b4.trans (b5.mono (by omega)) |>.block _ (by omega))
    · exact m3.same (b5.block _ (by omega))
    all_goals (show own _ = _; rw [hown]; simp)
  refine ⟨w.heap.size + 4, fun k => own k ≠ none, ?_, ⟨_, hRm, rfl, rfl, fun _ => rfl, Nat.le_refl _, fun _ h => h⟩, B, fun k hk => (hlt k hk).1, fun k hk => by have := hlt k hk; omega⟩
  simp
end Go.Proofs.YtfmeajanbmaimaaGreat.Wa
/- What Wait, Len and Where of package wait answer. -/
namespace Go.Proofs.YtfmeajanbmaimaaGreat.Wa
open Go.RowKit Go.Sort
section
variable {w : World} {R : Rm}
theorem RmAt.lookW_no (h : RmAt w R) {t : Int} (ht : i64 t) (hno : ∀ x ∈ R.all, x.th ≠ t) : (Instr.lookup 183 (.map (some R.m0)) (.int .i64 t) false).run Tryz.prog w = .ok np w := by
  have hl := h.mw.look keyedI umW (uzW _) (keyI ht)
  rw [h.fw t, find_none hno] at hl
  exact hl
theorem RmAt.lookW_yes (h : RmAt w R) {x : Wt} (hx : x ∈ R.all) : (Instr.lookup 183 (.map (some R.m0)) (.int .i64 x.th) false).run Tryz.prog w = .ok (pv x.B) w := by
  have hl := h.mw.look keyedI umW (uzW _) (keyI (h.good x hx).1)
  rw [h.fw x.th, h.find hx] at hl
  exact hl
theorem RmAt.cell (h : RmAt w R) : w.cell? ⟨R.rb, 0, none⟩ = some (.map (some R.m0)) ∧ w.cell? ⟨R.rb, 1, none⟩ = some (.map (some R.m1)) ∧ w.cell? ⟨R.rb, 2, none⟩ = some (.map (some R.m2)) ∧ w.cell? ⟨R.rb, 3, none⟩ = some (.map (some R.m3)) := by
  simp [World.cell?, h.blk]
end
end Go.Proofs.YtfmeajanbmaimaaGreat.Wa
namespace Go.Proofs.YtfmeajanbmaimaaGreat.Wa
open Go.RowKit Go.Sort
/-- Where a thread waits. -/
def whereA (all : List Who) (t : Int) : Option Who := all.find? fun x => x.1 == t
def whereV : Option Who → Value
  | none => .tuple #[.int .i64 0, .int .i64 0, .bool false]
  | some x => .tuple #[.int .i64 x.2.1, .int .i64 x.2.2, .bool true]
theorem whereA_map (l : List Wt) (t : Int) : whereA (l.map ab) t = (l.find? fun x => x.th == t).map ab := by
  unfold whereA
  rw [List.find?_map]; rfl
set_option maxRecDepth 100000 in
set_option maxHeartbeats 1000000 in
theorem Where_any (w : World) (rb : Nat) (F : Nat → Prop) (all : List Who) (al : Int → List Int) (N : Nat) (t : Int) (ht : i64 t) (h : RA w rb F all al N) :
    Calls Tryz.prog 98 #[pv rb, .int .i64 t] w fun e w' => e = .returned (whereV (whereA all t)) ∧ Below w.heap.size w w' := by
  obtain ⟨R, hR, hrb, hal, hA, hRN, hF⟩ := id h
  have c0 := hR.cell.1
  rw [hrb] at c0
  rw [← hal, whereA_map]
  by_cases hw : ∃ x ∈ R.all, x.th = t
  · obtain ⟨x, hx, rfl⟩ := hw
    rw [hR.find hx]
    have hl := hR.lookW_yes hx
    have hwx := hR.wts x hx
    have c1 : w.drew.cell? ⟨x.B, 0, none⟩ = some (.int .i64 x.seg) := show w.cell? _ = _ by simp [World.cell?, hwx, wtC]
    have c2 : w.drew.cell? ⟨x.B, 1, none⟩ = some (.int .i64 x.off) := show w.cell? _ = _ by simp [World.cell?, hwx, wtC]
    have c3 : ∀ q, (w.drewN q).cell? ⟨x.B, 0, none⟩ = some (.int .i64 x.seg) := fun q => c1
    have c4 : ∀ q, (w.drewN q).cell? ⟨x.B, 1, none⟩ = some (.int .i64 x.off) := fun q => c2
    show Calls _ _ _ _ fun e w' => e = .returned (.tuple #[.int .i64 x.seg, .int .i64 x.off, .bool true]) ∧ _
    clear h hR hF hA hal hrb hRN hwx hx ht
    go_enter Tryz.func98, Tryz.ntmps98
    go_wp2
    go_quiet (fail)
    go_wp2
    refine bodyPost_ret (v := .tuple #[.int .i64 x.seg, .int .i64 x.off, .bool true]) (by simp [results, Tryz.results98, go_sem]) rfl ⟨rfl, ?_⟩
    exact ⟨rfl, rfl, rfl, Nat.le_refl _, fun _ _ => rfl⟩
  · have hno : ∀ x ∈ R.all, x.th ≠ t := fun x hx e => hw ⟨x, hx, e⟩
    rw [find_none hno]
    have hl := hR.lookW_no ht hno
    show Calls _ _ _ _ fun e w' => e = .returned (.tuple #[.int .i64 0, .int .i64 0, .bool false]) ∧ _
    clear h hR hF hA hal hrb hRN hw hno
    go_enter Tryz.func98, Tryz.ntmps98
    go_wp2
    refine bodyPost_ret (v := .tuple #[.int .i64 0, .int .i64 0, .bool false]) (by simp [results, Tryz.results98, go_sem]) rfl ⟨rfl, Below.refl _ _⟩
end Go.Proofs.YtfmeajanbmaimaaGreat.Wa
