/- For a copy of rooms: blocks that are no cells, maps that are gone through, how large a map is. -/
import Derived.Test.YthknnmllibdggaaWait6
import Derived.Test.YthknnmllibdggaaOrd
import Derived.Maps.RangeWalk
import Derived.Sort.MapsRangeIn
namespace Go.Proofs.Ythknnmllibdggaa
open Go.RowKit Go.Sort
open Go.Maps (Keyed)
theorem MAt.isMap {w : World} {t : TypeId} {m n : Nat} {f : Lit → Option Nat} (h : MAt w t m n f) : ∃ es c, w.heap[m]? = some (.map es c) := by
  obtain ⟨D, ⟨es, c, hb, _⟩, _⟩ := h
  exact ⟨es, c, hb⟩
/-- What is tagged is a cell's block or one of the four maps. -/
def Neat (w : World) (R : Rm) : Prop := ∀ k, R.own k ≠ none → (k = R.m0 ∨ k = R.m1 ∨ k = R.m2 ∨ k = R.m3) ∨ ∃ c t f, w.heap[k]? = some (.cells c t f)
open Classical in
theorem RmAt.neat {w : World} {R : Rm} (h : RmAt w R) : ∃ own, RmAt w { R with own := own } ∧ Neat w { R with own := own } ∧ ∀ k, own k ≠ none → R.own k ≠ none := by
  have hC : ∀ {Q : Nat} {l : List Wt}, QAW w Q (itP l) → ∀ x ∈ l, ∃ c t f, w.heap[x.ip]? = some (.cells c t f) := fun hq x hx => by
    exact qf_cells hq (.inr (by unfold itP; rw [List.map_map]; exact List.mem_map.2 ⟨x, hx, rfl⟩))
  have hS : ∀ {Q : Nat} {l : List Wt}, QAW w Q (itS l) → ∀ x ∈ l, ∃ c t f, w.heap[x.is]? = some (.cells c t f) := fun hq x hx => by
    exact qf_cells hq (.inr (by unfold itS; rw [List.map_map]; exact List.mem_map.2 ⟨x, hx, rfl⟩))
  have hA : ∀ {Q : Nat} {l : List Al}, QAI w Q (itA l) → ∀ x ∈ l, ∃ c t f, w.heap[x.I]? = some (.cells c t f) := fun hq x hx => by
    exact qf_cells hq (.inr (by unfold itA; rw [List.map_map]; exact List.mem_map.2 ⟨x, hx, rfl⟩))
  obtain ⟨own, hown⟩ : ∃ own : Nat → Option Tag, own = fun k => if (k = R.m0 ∨ k = R.m1 ∨ k = R.m2 ∨ k = R.m3) ∨ ∃ c t f, w.heap[k]? = some (.cells c t f) then R.own k else none := ⟨_, rfl⟩
  have e1 : ∀ {k}, ((k = R.m0 ∨ k = R.m1 ∨ k = R.m2 ∨ k = R.m3) ∨ ∃ c t f, w.heap[k]? = some (.cells c t f)) → own k = R.own k := fun {k} hk => by rw [hown]; exact if_pos hk
  have e2 : ∀ k, own k ≠ none → R.own k ≠ none ∧ ((k = R.m0 ∨ k = R.m1 ∨ k = R.m2 ∨ k = R.m3) ∨ ∃ c t f, w.heap[k]? = some (.cells c t f)) := fun k hk => by
    rw [hown] at hk
    simp only at hk
    split at hk
    · rename_i hc; exact ⟨hk, hc⟩
    · exact absurd rfl hk
  refine ⟨own, ⟨h.blk, h.mw, h.mp, h.ms, h.ma, h.fw, h.fp, h.fs, h.fa, h.len, h.lenA, h.wts, h.qp, h.qs, h.qa, h.nd, h.good, h.goodA, (e1 (.inr ⟨_, _, _, h.blk⟩)).trans h.orb, (e1 (.inl (.inl rfl))).trans h.om0, (e1 (.inl (.inr (.inl rfl)))).trans h.om1, (e1 (.inl (.inr (.inr (.inl rfl))))).trans h.om2, (e1 (.inl (.inr (.inr (.inr rfl))))).trans h.om3, ?_, ?_, ?_, ?_, ?_, fun k hk => h.lt k (e2 k hk).1⟩, fun k hk => (e2 k hk).2, fun k hk => (e2 k hk).1⟩
  · intro x hx
    have hx' : x ∈ R.all := hx
    have hP : atP x.seg x.off R.all ≠ [] := List.ne_nil_of_mem (mem_atP.2 ⟨hx', rfl, rfl⟩)
    have hSg : inS x.seg R.all ≠ [] := List.ne_nil_of_mem (mem_inS.2 ⟨hx', rfl⟩)
    have ho := h.ow x hx'
    exact ⟨(e1 (.inr ⟨_, _, _, h.wts x hx'⟩)).trans ho.1, (e1 (.inr (hC (h.qp _ _ hP) x (mem_atP.2 ⟨hx', rfl, rfl⟩)))).trans ho.2.1, (e1 (.inr (hS (h.qs _ hSg) x (mem_inS.2 ⟨hx', rfl⟩)))).trans ho.2.2⟩
  · exact fun s o hne => (e1 (.inr ⟨_, _, _, (h.qp s o hne).blk⟩)).trans (h.op s o hne)
  · exact fun s hne => (e1 (.inr ⟨_, _, _, (h.qs s hne).blk⟩)).trans (h.os s hne)
  · exact fun t hne => (e1 (.inr ⟨_, _, _, (h.qa t hne).blk⟩)).trans (h.oa t hne)
  · intro t a ha
    have ha' : a ∈ R.al t := ha
    exact (e1 (.inr (hA (h.qa t (List.ne_nil_of_mem ha')) a ha'))).trans (h.oi t a ha')
/-- What is neither cells nor a map is none of theirs. -/
theorem Neat.other {w : World} {R : Rm} (hn : Neat w R) (h : RmAt w R) {k : Nat} {o : Obj} (hk : w.heap[k]? = some o) (h1 : o.isCells = false) (h2 : ∀ es c, o ≠ .map es c) : R.own k = none := by
  cases e : R.own k with
  | none => rfl
  | some g =>
    rcases hn k (by rw [e]; simp) with (rfl | rfl | rfl | rfl) | ⟨c, t, f, hc⟩
    · obtain ⟨es, c, hm⟩ := h.mw.isMap; rw [hk] at hm; cases hm; exact absurd rfl (h2 es c)
    · obtain ⟨n, _, hh⟩ := h.mp; obtain ⟨es, c, hm⟩ := hh.isMap; rw [hk] at hm; cases hm; exact absurd rfl (h2 es c)
    · obtain ⟨n, _, hh⟩ := h.ms; obtain ⟨es, c, hm⟩ := hh.isMap; rw [hk] at hm; cases hm; exact absurd rfl (h2 es c)
    · obtain ⟨n, _, hh⟩ := h.ma; obtain ⟨es, c, hm⟩ := hh.isMap; rw [hk] at hm; cases hm; exact absurd rfl (h2 es c)
    · rw [hk] at hc; cases hc; cases h1
/-- A map of pointers that is gone through: which keys are still to come. -/
def MR (w : World) (m r : Nat) (f : Lit → Option Nat) (left : Int → Bool) (cnt : Nat) : Prop :=
  ∃ (D : DataW Unit) (n : Nat) (lf : Lit → Bool), w.ranges Try.prog 3 ptrE m r n D lf cnt ∧ (∀ s, lf (ky s) = left s) ∧ (∀ s, left s = true → (f (ky s)).isSome = true) ∧ ∀ s B, f (ky s) = some B → ∀ z, D.atKey (ky s) z = .lit (.int .i64 (B : Int))
theorem MAt.range {w : World} {m n : Nat} {f : Lit → Option Nat} {T e : TypeId} (h : MAt w 3 m n f) (hT : Try.prog.underlying T = some (.map 3 e)) :
    ∃ w', (Instr.range T (.map (some m))).run Try.prog w = .ok (pv w.heap.size) w' ∧ MR w' m w.heap.size f (fun s => (f (ky s)).isSome) n ∧ Below w.heap.size w w' ∧ w'.heap.size = w.heap.size + 1 := by
  obtain ⟨D, h1, h2, h3⟩ := h
  obtain ⟨w', hr, hg, hb, hs⟩ := h1.range keyedI hT
  rw [h2] at hg
  exact ⟨w', hr, ⟨D, n, _, hg, fun s => (h3 (ky s) trivial).1, fun s hs => hs, fun s B hB => (h3 (ky s) trivial).2 B hB⟩, ⟨hb.os, hb.tape, hb.output, hb.size, fun k hk => hb.block k hk (by simp)⟩, hs⟩
theorem MR.same {w w' : World} {m r cnt : Nat} {f : Lit → Option Nat} {left : Int → Bool} (h : MR w m r f left cnt) (h1 : w'.heap[m]? = w.heap[m]?) (h2 : w'.heap[r]? = w.heap[r]?) : MR w' m r f left cnt := by
  obtain ⟨D, n, lf, ⟨es, clock, since, seen, c0, hb, F, hs, hD, hr, rest⟩, h3⟩ := h
  exact ⟨D, n, lf, ⟨es, clock, since, seen, c0, h1.trans hb, F, hs, hD, h2.trans hr, rest⟩, h3⟩
theorem MR.iter {w : World} {m r cnt : Nat} {f : Lit → Option Nat} {left : Int → Bool} (h : MR w m r f left cnt) : ∃ a b c d, w.heap[r]? = some (.mapIter a b c d) := by
  obtain ⟨D, n, lf, ⟨es, clock, since, seen, c0, hb, F, hs, hD, hr, rest⟩, h3⟩ := h
  exact ⟨_, _, _, _, hr⟩
theorem MR.map {w : World} {m r cnt : Nat} {f : Lit → Option Nat} {left : Int → Bool} (h : MR w m r f left cnt) : m < w.heap.size := by
  obtain ⟨D, n, lf, hr, _⟩ := h
  exact hr.owns.lt
theorem ptrE_pt {v : Value} {y : DataW Unit × List MemPlace} (h : ptrE v = some y) : ∃ c, v = pt c := by
  unfold ptrE at h
  split at h
  · exact ⟨none, rfl⟩
  · rename_i B; exact ⟨some B, rfl⟩
  · cases h
theorem MR.next {w : World} {m r cnt : Nat} {f : Lit → Option Nat} {left : Int → Bool} (h : MR w m r f left cnt) (ty : TypeId) :
    ((∀ s, left s = false) ∧ (Instr.next (pv r) false ty).run Try.prog w = .ok (.tuple #[.bool false]) w) ∨
    ∃ s B w' cnt', i64 s ∧ left s = true ∧ f (ky s) = some B ∧ (Instr.next (pv r) false ty).run Try.prog w = .ok (.tuple #[.bool true, .int .i64 s, pv B]) w' ∧ MR w' m r f (fun z => left z && !(z == s)) cnt' ∧ cnt' < cnt ∧ Fm w w' (fun k => k = r) ∧ w'.heap.size = w.heap.size ∧
      (Instr.entry (pv r)).run Try.prog w' = .ok (.tuple #[.int .i64 s, pv B]) w' := by
  obtain ⟨D, n, lf, hr, h1, h2, h3⟩ := h
  rcases hr.next keyedI ty with ⟨_, hl, hrun⟩ | ⟨key, v, kl, y, w', cnt', hkey, hlk, hv, hat, hrun, hrg, hlt, hgr, hsz, hen⟩
  · exact .inl ⟨fun s => by rw [← h1]; exact hl _, hrun⟩
  · obtain ⟨s, rfl, rfl, hwf⟩ := Maps.keyOf_int_inv ui hkey
    have hls : left s = true := by rw [← h1]; exact hlk
    obtain ⟨B, hB⟩ := Option.isSome_iff_exists.1 (h2 s hls)
    have hy := hat (.lit (.int .i64 0))
    rw [h3 s B hB] at hy
    obtain ⟨d, ps⟩ := y
    simp only at hy
    subst hy
    obtain rfl := ptrE_inv hv
    have hi : i64 s := by
      simp [Lit.wf] at hwf
      have h1 : IntKind.min .i64 = -9223372036854775808 := by decide
      have h2 : IntKind.max .i64 = 9223372036854775807 := by decide
      unfold i64; omega
    refine .inr ⟨s, B, w', cnt', hi, hls, hB, hrun, ⟨D, n, _, hrg, fun z => ?_, fun z hz => h2 z (by simp at hz; exact hz.1), h3⟩, hlt, ⟨hgr.os, hgr.tape, hgr.output, hgr.size, fun k hk hne => hgr.block k hk (by simpa using hne)⟩, hsz, hen⟩
    show (lf (ky z) && !(ky z).sameKey (ky s)) = _
    rw [h1]
    by_cases e : z = s
    · subst e; rw [WideAt.sameKey_self (show WideAt.IsKeyLit (ky z) from trivial)]; simp
    · rw [Maps.sameKey_ne (fun h => e (by injection h))]; simp [e]
open Classical in
theorem len_sub {α : Type} : ∀ (l l' : List α), l.Nodup → (∀ x ∈ l, x ∈ l') → l.length ≤ l'.length
  | [], _, _, _ => Nat.zero_le _
  | x :: l, l', hn, hs => by
    have hx := hs x (by simp)
    obtain ⟨h1, h2⟩ := List.nodup_cons.1 hn
    have := len_sub l (l'.erase x) h2 (fun y hy => (List.mem_erase_of_ne (fun e : y = x => h1 (e ▸ hy))).2 (hs y (by simp [hy])))
    rw [List.length_erase_of_mem hx] at this
    have : 0 < l'.length := List.length_pos_of_mem hx
    simp; omega
theorem owns_keys {w : World} {m n : Nat} {D : DataW Unit} (h : w.ownsMap Try.prog 3 ptrE m n D) : ∃ es, D = .map es ∧ es.Pairwise (fun p q => p.1 ≠ q.1) ∧ ∀ p ∈ es, ∃ s, p.1 = ky s := by
  obtain ⟨es, clock, _, F, _, rfl⟩ := h
  refine ⟨_, rfl, ((WideShapes.sorted_perm _).pairwise_iff (fun {_ _} hne => Ne.symm hne)).2 (Maps.fit_apart keyedI F), fun p hp => ?_⟩
  obtain ⟨x, hx, rfl⟩ := List.mem_map.1 (mem_sorted.1 hp)
  obtain ⟨y, hy⟩ := F.reads x hx
  obtain ⟨s, _, h2, _⟩ := Maps.keyOf_int_inv ui (WideElems.rd_key hy)
  exact ⟨s, by rw [WideElems.rg_of hy]; exact h2⟩
/-- A map whose keys are all another's has no more of them. -/
theorem MAt.le {w w' : World} {m m' n n' : Nat} {f f' : Lit → Option Nat} (h : MAt w 3 m n f) (h' : MAt w' 3 m' n' f') (hs : ∀ s, (f' (ky s)).isSome = true → (f (ky s)).isSome = true) : n' ≤ n := by
  obtain ⟨D, h1, h2, h3⟩ := h
  obtain ⟨D', h1', h2', h3'⟩ := h'
  obtain ⟨es, rfl, hp, hk⟩ := owns_keys h1
  obtain ⟨es', rfl, hp', hk'⟩ := owns_keys h1'
  rw [← h2, ← h2', Maps.size_eq, Maps.size_eq]
  have := len_sub (es'.map (·.1)) (es.map (·.1)) (List.pairwise_map.2 hp') (fun x hx => by
    obtain ⟨p, hp1, rfl⟩ := List.mem_map.1 hx
    obtain ⟨s, hs1⟩ := hk' p hp1
    have hh : Maps.has (DataW.map es' : DataW Unit) (ky s) = true := List.any_eq_true.2 ⟨p, hp1, by rw [hs1]; exact WideAt.sameKey_self (show WideAt.IsKeyLit (ky s) from trivial)⟩
    rw [(h3' (ky s) trivial).1] at hh
    have hh2 := hs s hh
    rw [← (h3 (ky s) trivial).1] at hh2
    obtain ⟨q, hq1, hq2⟩ := List.any_eq_true.1 hh2
    rw [hs1, ← WideAt.sameKey_eq hq2]
    exact List.mem_map_of_mem hq1)
  simpa using this
/-- Rooms whose maps and rows are no larger than N. -/
theorem RmAt.tight {w : World} {R : Rm} {N : Nat} (h : RmAt w R) (h1 : ∀ n, MAt w 72 R.m1 n R.fp → n ≤ R.N → n ≤ N) (h2 : ∀ n, MAt w 3 R.m2 n R.fs → n ≤ N) (h3 : ∀ n, MAt w 3 R.m3 n R.fa → n ≤ N) (h4 : R.all.length ≤ N) (h5 : ∀ t, (R.al t).length ≤ N) : RmAt w { R with N := N } :=
  ⟨h.blk, h.mw, by obtain ⟨n, a, b⟩ := h.mp; exact ⟨n, h1 n b a, b⟩, by obtain ⟨n, a, b⟩ := h.ms; exact ⟨n, h2 n b, b⟩, by obtain ⟨n, a, b⟩ := h.ma; exact ⟨n, h3 n b, b⟩, h.fw, h.fp, h.fs, h.fa, h4, h5, h.wts, h.qp, h.qs, h.qa, h.nd, h.good, h.goodA, h.orb, h.om0, h.om1, h.om2, h.om3, h.ow, h.op, h.os, h.oa, h.oi, h.lt⟩
end Go.Proofs.Ythknnmllibdggaa
