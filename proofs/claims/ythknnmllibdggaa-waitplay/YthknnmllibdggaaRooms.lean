/- Rooms as they lie in memory: who waits, in two kinds of queues, and alerts. -/
import Derived.Test.YthknnmllibdggaaQsP
import Derived.Test.YthknnmllibdggaaQsS
import Derived.Test.YthknnmllibdggaaQsA
import Derived.Test.YthknnmllibdggaaThr
import Derived.Test.YthknnmllibdggaaColl
namespace Go.Proofs.Ythknnmllibdggaa
open Go.RowKit Go.Sort
open Go.Maps (Keyed)
/-- What a block is for. -/
inductive Tag
  | rb
  | m (i : Nat)
  | wt (t : Int)
  | ip (t : Int)
  | is (t : Int)
  | pq (s o : Int)
  | sq (s : Int)
  | aq (t : Int)
  | ai (t : Int)
/-- Who waits: its block, its thread, its place, its two items. -/
structure Wt where
  B : Nat
  th : Int
  seg : Int
  off : Int
  ip : Nat
  is : Nat
structure Al where
  I : Nat
  c : Int
structure Rm where
  rb : Nat
  m0 : Nat
  m1 : Nat
  m2 : Nat
  m3 : Nat
  fw : Lit → Option Nat
  fp : Lit → Option Nat
  fs : Lit → Option Nat
  fa : Lit → Option Nat
  all : List Wt
  pq : Int → Int → Nat
  sq : Int → Nat
  al : Int → List Al
  aq : Int → Nat
  own : Nat → Option Tag
  N : Nat
def wtC (x : Wt) : Array Value := #[.int .i64 x.seg, .int .i64 x.off, .int .i64 x.th, pv x.ip, pv x.is]
def atP (s o : Int) (l : List Wt) : List Wt := l.filter fun x => x.seg == s && x.off == o
def inS (s : Int) (l : List Wt) : List Wt := l.filter fun x => x.seg == s
def itP (l : List Wt) : List It := l.map fun x => ⟨x.ip, pv x.B⟩
def itS (l : List Wt) : List It := l.map fun x => ⟨x.is, pv x.B⟩
def itA (l : List Al) : List It := l.map fun x => ⟨x.I, .int .i64 x.c⟩
structure RmAt (w : World) (R : Rm) : Prop where
  blk : w.heap[R.rb]? = some (.cells #[.map (some R.m0), .map (some R.m1), .map (some R.m2), .map (some R.m3)] 64 (0, 0))
  mw : MAt w 3 R.m0 R.all.length R.fw
  mp : ∃ n, n ≤ R.N ∧ MAt w 72 R.m1 n R.fp
  ms : ∃ n, n ≤ R.N ∧ MAt w 3 R.m2 n R.fs
  ma : ∃ n, n ≤ R.N ∧ MAt w 3 R.m3 n R.fa
  fw : ∀ t, R.fw (ky t) = (R.all.find? fun x => x.th == t).map (·.B)
  fp : ∀ s o, i64 s → i64 o → R.fp (kp s o) = if atP s o R.all = [] then none else some (R.pq s o)
  fs : ∀ s, R.fs (ky s) = if inS s R.all = [] then none else some (R.sq s)
  fa : ∀ t, R.fa (ky t) = if R.al t = [] then none else some (R.aq t)
  len : R.all.length ≤ R.N
  lenA : ∀ t, (R.al t).length ≤ R.N
  wts : ∀ x ∈ R.all, w.heap[x.B]? = some (.cells (wtC x) 75 (0, 0))
  qp : ∀ s o, atP s o R.all ≠ [] → QAW w (R.pq s o) (itP (atP s o R.all))
  qs : ∀ s, inS s R.all ≠ [] → QAW w (R.sq s) (itS (inS s R.all))
  qa : ∀ t, R.al t ≠ [] → QAI w (R.aq t) (itA (R.al t))
  nd : (R.all.map (·.th)).Nodup
  good : ∀ x ∈ R.all, i64 x.th ∧ i64 x.seg ∧ i64 x.off
  goodA : ∀ t a, a ∈ R.al t → i64 t ∧ i64 a.c
  orb : R.own R.rb = some .rb
  om0 : R.own R.m0 = some (.m 0)
  om1 : R.own R.m1 = some (.m 1)
  om2 : R.own R.m2 = some (.m 2)
  om3 : R.own R.m3 = some (.m 3)
  ow : ∀ x ∈ R.all, R.own x.B = some (.wt x.th) ∧ R.own x.ip = some (.ip x.th) ∧ R.own x.is = some (.is x.th)
  op : ∀ s o, atP s o R.all ≠ [] → R.own (R.pq s o) = some (.pq s o)
  os : ∀ s, inS s R.all ≠ [] → R.own (R.sq s) = some (.sq s)
  oa : ∀ t, R.al t ≠ [] → R.own (R.aq t) = some (.aq t)
  oi : ∀ t a, a ∈ R.al t → R.own a.I = some (.ai t)
  lt : ∀ k, R.own k ≠ none → k < w.heap.size
/-- The blocks whose tags are S. -/
def TF (own : Nat → Option Tag) (S : Tag → Prop) (k : Nat) : Prop := ∃ g, own k = some g ∧ S g
theorem keepT {w w' : World} {own : Nat → Option Tag} {S : Tag → Prop} {k : Nat} {g : Tag} (hF : Fm w w' (TF own S)) (hk : own k = some g) (hlt : k < w.heap.size) (hg : ¬ S g) : w'.heap[k]? = w.heap[k]? :=
  hF.same k hlt (fun ⟨g', h1, h2⟩ => by rw [hk] at h1; cases h1; exact hg h2)
theorem atP_app (s o : Int) (a b : List Wt) : atP s o (a ++ b) = atP s o a ++ atP s o b := List.filter_append ..
theorem inS_app (s : Int) (a b : List Wt) : inS s (a ++ b) = inS s a ++ inS s b := List.filter_append ..
theorem itP_app (a b : List Wt) : itP (a ++ b) = itP a ++ itP b := List.map_append
theorem itS_app (a b : List Wt) : itS (a ++ b) = itS a ++ itS b := List.map_append
theorem atP_one (s o : Int) (x : Wt) : atP s o [x] = if x.seg = s ∧ x.off = o then [x] else [] := by
  unfold atP
  rw [List.filter_cons, List.filter_nil]
  by_cases h : x.seg = s ∧ x.off = o
  · rw [if_pos h, if_pos (by simp [h.1, h.2])]
  · rw [if_neg h, if_neg (by simp; intro h1 h2; exact h ⟨h1, h2⟩)]
theorem inS_one (s : Int) (x : Wt) : inS s [x] = if x.seg = s then [x] else [] := by
  unfold inS
  rw [List.filter_cons, List.filter_nil]
  by_cases h : x.seg = s
  · rw [if_pos h, if_pos (by simp [h])]
  · rw [if_neg h, if_neg (by simp; exact h)]
theorem mem_atP {s o : Int} {l : List Wt} {x : Wt} : x ∈ atP s o l ↔ x ∈ l ∧ x.seg = s ∧ x.off = o := by unfold atP; simp [List.mem_filter]
theorem mem_inS {s : Int} {l : List Wt} {x : Wt} : x ∈ inS s l ↔ x ∈ l ∧ x.seg = s := by unfold inS; simp [List.mem_filter]
theorem qfP {Q : Nat} {l : List Wt} {k : Nat} : qf Q (itP l) k ↔ k = Q ∨ ∃ x ∈ l, k = x.ip := by unfold qf itP; simp [eq_comm]
theorem qfS {Q : Nat} {l : List Wt} {k : Nat} : qf Q (itS l) k ↔ k = Q ∨ ∃ x ∈ l, k = x.is := by unfold qf itS; simp [eq_comm]
theorem qfA {Q : Nat} {l : List Al} {k : Nat} : qf Q (itA l) k ↔ k = Q ∨ ∃ x ∈ l, k = x.I := by unfold qf itA; simp [eq_comm]
section
variable {w w' : World} {R : Rm} {S : Tag → Prop} {own : Nat → Option Tag}
/-- The parts of rooms that a step leaves as they are: what is told of tags by any map of tags that says at least what R's says. -/
theorem RmAt.kBlk (h : RmAt w R) (hF : Fm w w' (TF own S)) (hx : ∀ k g, R.own k = some g → own k = some g) (hS : ¬ S .rb) : w'.heap[R.rb]? = w.heap[R.rb]? :=
  keepT hF (hx _ _ h.orb) (heap_lt h.blk) hS
theorem RmAt.kW (h : RmAt w R) (hF : Fm w w' (TF own S)) (hx : ∀ k g, R.own k = some g → own k = some g) {x : Wt} (hm : x ∈ R.all) (hS : ¬ S (.wt x.th)) : w'.heap[x.B]? = some (.cells (wtC x) 75 (0, 0)) :=
  (keepT hF (hx _ _ (h.ow x hm).1) (heap_lt (h.wts x hm)) hS).trans (h.wts x hm)
theorem RmAt.kP (h : RmAt w R) (hF : Fm w w' (TF own S)) (hx : ∀ k g, R.own k = some g → own k = some g) {s o : Int} (hne : atP s o R.all ≠ []) (hS : ¬ S (.pq s o)) (hI : ∀ x ∈ atP s o R.all, ¬ S (.ip x.th)) : QAW w' (R.pq s o) (itP (atP s o R.all)) :=
  (h.qp s o hne).same (fun k hk => by
    have hlt := (h.qp s o hne).lt hk
    rcases qfP.1 hk with rfl | ⟨x, hm, rfl⟩
    · exact keepT hF (hx _ _ (h.op s o hne)) hlt hS
    · exact keepT hF (hx _ _ (h.ow x (mem_atP.1 hm).1).2.1) hlt (hI x hm))
theorem RmAt.kS (h : RmAt w R) (hF : Fm w w' (TF own S)) (hx : ∀ k g, R.own k = some g → own k = some g) {s : Int} (hne : inS s R.all ≠ []) (hS : ¬ S (.sq s)) (hI : ∀ x ∈ inS s R.all, ¬ S (.is x.th)) : QAW w' (R.sq s) (itS (inS s R.all)) :=
  (h.qs s hne).same (fun k hk => by
    have hlt := (h.qs s hne).lt hk
    rcases qfS.1 hk with rfl | ⟨x, hm, rfl⟩
    · exact keepT hF (hx _ _ (h.os s hne)) hlt hS
    · exact keepT hF (hx _ _ (h.ow x (mem_inS.1 hm).1).2.2) hlt (hI x hm))
theorem RmAt.kA (h : RmAt w R) (hF : Fm w w' (TF own S)) (hx : ∀ k g, R.own k = some g → own k = some g) {t : Int} (hne : R.al t ≠ []) (hS : ¬ S (.aq t)) (hI : ¬ S (.ai t)) : QAI w' (R.aq t) (itA (R.al t)) :=
  (h.qa t hne).same (fun k hk => by
    have hlt := (h.qa t hne).lt hk
    rcases qfA.1 hk with rfl | ⟨x, hm, rfl⟩
    · exact keepT hF (hx _ _ (h.oa t hne)) hlt hS
    · exact keepT hF (hx _ _ (h.oi t x hm)) hlt hI)
theorem MAt.kT {t : TypeId} {m n : Nat} {f : Lit → Option Nat} {g : Tag} (h : MAt w t m n f) (hF : Fm w w' (TF own S)) (hm : own m = some g) (hS : ¬ S g) : MAt w' t m n f := h.same (keepT hF hm h.lt hS)
/-- Rooms none of whose blocks has turned. -/
theorem RmAt.same (h : RmAt w R) (hs : w.heap.size ≤ w'.heap.size) (hk : ∀ k, R.own k ≠ none → w'.heap[k]? = w.heap[k]?) : RmAt w' R := by
  have k1 : ∀ {k g}, R.own k = some g → w'.heap[k]? = w.heap[k]? := fun e => hk _ (by rw [e]; simp)
  refine ⟨(k1 h.orb).trans h.blk, h.mw.same (k1 h.om0), ?_, ?_, ?_, h.fw, h.fp, h.fs, h.fa, h.len, h.lenA, fun x hx => (k1 (h.ow x hx).1).trans (h.wts x hx), ?_, ?_, ?_, h.nd, h.good, h.goodA, h.orb, h.om0, h.om1, h.om2, h.om3, h.ow, h.op, h.os, h.oa, h.oi, fun k hk => Nat.lt_of_lt_of_le (h.lt k hk) hs⟩
  · obtain ⟨n, h1, h2⟩ := h.mp; exact ⟨n, h1, h2.same (k1 h.om1)⟩
  · obtain ⟨n, h1, h2⟩ := h.ms; exact ⟨n, h1, h2.same (k1 h.om2)⟩
  · obtain ⟨n, h1, h2⟩ := h.ma; exact ⟨n, h1, h2.same (k1 h.om3)⟩
  · intro s o hne
    refine (h.qp s o hne).same (fun k hk => ?_)
    rcases qfP.1 hk with rfl | ⟨x, hm, rfl⟩
    · exact k1 (h.op s o hne)
    · exact k1 (h.ow x (mem_atP.1 hm).1).2.1
  · intro s hne
    refine (h.qs s hne).same (fun k hk => ?_)
    rcases qfS.1 hk with rfl | ⟨x, hm, rfl⟩
    · exact k1 (h.os s hne)
    · exact k1 (h.ow x (mem_inS.1 hm).1).2.2
  · intro t hne
    refine (h.qa t hne).same (fun k hk => ?_)
    rcases qfA.1 hk with rfl | ⟨x, hm, rfl⟩
    · exact k1 (h.oa t hne)
    · exact k1 (h.oi t x hm)
theorem RmAt.below (h : RmAt w R) (hb : Below w.heap.size w w') : RmAt w' R := h.same hb.size (fun k hk => hb.block k (h.lt k hk))
end
/-- What is neither a map nor a part of a queue is as it was behind a push. -/
theorem push_keep {W W' : World} {t tq ti u : TypeId} {m n Q B : Nat} {f : Lit → Option Nat} {l : List It} {c : Array Value} {z : Nat × Nat} (hm : MAt W t m n f) (hq : l ≠ [] → QAt W tq ti Q l) (hF : Fm W W' (fun k => k = m ∨ (l ≠ [] ∧ qf Q l k))) (hB : W.heap[B]? = some (.cells c u z)) (h1 : u ≠ tq) (h2 : u ≠ ti) : W'.heap[B]? = some (.cells c u z) :=
  (hF.same B (heap_lt hB) (fun e => by
    rcases e with e | ⟨e1, e2⟩
    · exact hm.notCells hB e.symm
    · obtain ⟨c', t', f', h3, h4⟩ := qf_typed (hq e1) e2
      rw [hB] at h3
      injection h3 with h3
      injection h3 with _ h5 _
      rcases h4 with h4 | h4
      · exact h1 (h5.trans h4)
      · exact h2 (h5.trans h4))).trans hB
/-- The waiter of a thread. -/
theorem RmAt.find {w : World} {R : Rm} (h : RmAt w R) {x : Wt} (hx : x ∈ R.all) : R.all.find? (fun y => y.th == x.th) = some x := by
  have hnd := h.nd
  generalize R.all = l at hx hnd
  induction l with
  | nil => simp at hx
  | cons y l ih =>
    rw [List.find?_cons]
    rcases List.mem_cons.1 hx with rfl | hx
    · simp
    · have hne : ¬ y.th = x.th := fun e => (List.nodup_cons.1 hnd).1 (by show y.th ∈ _; rw [e]; exact List.mem_map_of_mem hx)
      rw [show (y.th == x.th) = false from by simpa using hne]
      exact ih hx (List.nodup_cons.1 hnd).2
theorem find_none {l : List Wt} {t : Int} (h : ∀ x ∈ l, x.th ≠ t) : l.find? (fun y => y.th == t) = none := by
  rw [List.find?_eq_none]
  intro x hx
  simpa using h x hx
end Go.Proofs.Ythknnmllibdggaa
