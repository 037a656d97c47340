/- Appends, run by themselves, onto rows of numbers and of things. -/
import Derived.Test.YtebcnlhgkpaghaaRelM
import Derived.Test.YtebcnlhgkpaghaaMonoC
import Derived.Maps.AppendAt
import Derived.Laws.OwnMore
namespace Go.Proofs.Ytebcnlhgkpaghaa
open Go.RowKit Go.Sort
theorem heap_lt {w : World} {k : Nat} {o : Obj} (h : w.heap[k]? = some o) : k < w.heap.size := (Array.getElem?_eq_some_iff.1 h).1
theorem exec_app {o : Oper} {ev : Operand → Value} {x y : Operand} {t : TypeId} {w w' : World} {v' vs vx : Value} (ho : o.op = .call { callee := .builtin .append, args := #[x, y], argTypes := #[t, t] }) (hx : ev x = vs) (hy : ev y = vx) (hr : (Builtin.append_ #[t, t] o.type #[vs, vx]).run Try.prog w = .ok v' w') : (execOp ev o).run Try.prog w = .ok (.value v') w' := by
  unfold execOp
  simp only [ho, resolve, invoke, builtin, Sem.run_bind, Sem.run_pure, Result.andThen_ok, List.map_toArray, List.map_cons, List.map_nil, hx, hy, hr]
theorem thInfo : (Try.prog.info? 60).map (fun i => (i.zero, i.size, i.bytes)) = some (some (.agg #[.int .i64 0, .int .i64 0, .int .i64 0, .int .i64 0, .slice none 0 0, .slice none 0 0]), 6, 80) := by kernel_rfl
theorem ivs_app (a b : List Int) : ivs (a ++ b) = ivs a ++ ivs b := by unfold ivs; rw [List.map_append]
theorem ivs_one (l : List Int) : ∀ u ∈ ivs l, u.oneCell' = true := fun u hu => by
  unfold ivs at hu; obtain ⟨x, _, rfl⟩ := List.mem_map.1 hu; rfl
/-- What is to be appended: it lies at an address, or is nothing. -/
def SrcI (X : World) (q : Option Addr) (l : List Int) : Prop := (q = none ∧ l = []) ∨ ∃ a : Addr, q = some a ∧ ∀ j u, (ivs l)[j]? = some u → X.cell? (a.add j) = some u
def SrcT (X : World) (q : Option Addr) (l : List Th) : Prop := (q = none ∧ l = []) ∨ ∃ a : Addr, q = some a ∧ ∀ j u, (thsC l)[j]? = some u → X.cell? (a.add j) = some u
theorem SrcI.of {X : World} {q : Option Addr} {l : List Int} (h : IntsAt X q l) : SrcI X q l := by
  cases q with
  | none =>
    refine .inl ⟨rfl, ?_⟩
    cases l with
    | nil => rfl
    | cons x l => obtain ⟨b, o, e, _⟩ := h 0 (by simp); cases e
  | some a =>
    refine .inr ⟨a, rfl, fun j u hu => ?_⟩
    have hj : j < l.length := by have := (List.getElem?_eq_some_iff.1 hu).1; simpa [ivs] using this
    obtain ⟨b, o, e, _, hc⟩ := h j hj
    cases e
    have hu' : u = .int .i64 l[j] := by
      unfold ivs at hu
      rw [List.getElem?_map, List.getElem?_eq_getElem hj] at hu
      simpa using hu.symm
    rw [addr_plus, hu']; exact hc

theorem appI {X : World} {B : Nat} {v : Value} {l l' : List Int} {q : Option Addr} {c : Nat} (hown : X.ownsRow B 3 1 v l.length (ivs l)) (hs : SrcI X q l') (hl : l.length + l'.length < 1000000) (hB : B ≤ X.heap.size) (ty : TypeId) :
    ∃ v' X', (Builtin.append_ #[41, 41] ty #[v, .slice q l'.length c]).run Try.prog X = .ok v' X' ∧ X'.ownsRow B 3 1 v' (l ++ l').length (ivs (l ++ l')) ∧ X.grownBy X' v.ownBlock := by
  obtain ⟨i0, hi, hz0, hz1, hz2⟩ := info_parts intInfo
  have hT : Try.prog.underlying 41 = some (.slice 3) := by kernel_rfl
  rcases hs with ⟨rfl, rfl⟩ | ⟨a, rfl, hc⟩
  · rw [List.append_nil]
    exact ⟨_, X, run_append_owned_none (P := Try.prog) X B 41 ty 3 i0 1 hT hi _ _ _ hown, hown, ⟨rfl, rfl, rfl, Nat.le_refl _, fun _ _ _ => rfl⟩⟩
  · obtain ⟨v', w', hr, ho', hgw, _, _⟩ := run_append_own_at (P := Try.prog) X B 41 ty 3 i0 (.int .i64 0) 1 8 hT hi hz0 hz1 hz2 rfl (by decide) v l.length (ivs l) hown a l'.length c (ivs l') (ivs_len _) hc (ivs_one _) (by unfold maxLen; omega) (by omega) hB
    exact ⟨v', w', hr, by rw [List.length_append, ivs_app]; exact ho', hgw⟩
/-- Onto a row of none, newly made. -/
def EI (B : Nat) (v : Value) (X : World) : Prop := ∃ g, v = .slice (some ⟨g, 0, none⟩) 0 0 ∧ B ≤ g ∧ X.heap[g]? = some (.cells #[] 3 (0, 0))
theorem EI.below {B : Nat} {v : Value} {X X' : World} (h : EI B v X) (hb : Below X.heap.size X X') : EI B v X' := by
  obtain ⟨g, h1, h2, h3⟩ := h
  exact ⟨g, h1, h2, (hb.block g (heap_lt h3)).trans h3⟩
theorem appI_fresh {X : World} {B : Nat} {v : Value} {l : List Int} {q : Option Addr} {c : Nat} (hv : EI B v X) (hs : SrcI X q l) (hl : l.length < 1000000) (ty : TypeId) :
    ∃ v' X', (Builtin.append_ #[41, 41] ty #[v, .slice q l.length c]).run Try.prog X = .ok v' X' ∧ X'.ownsRow B 3 1 v' l.length (ivs l) ∧ Below X.heap.size X X' := by
  obtain ⟨g, rfl, hB, hg⟩ := hv
  obtain ⟨i0, hi, hz0, hz1, hz2⟩ := info_parts intInfo
  have hT : Try.prog.underlying 41 = some (.slice 3) := by kernel_rfl
  have hgl := heap_lt hg
  have hown : X.ownsRow B 3 1 (.slice (some ⟨g, 0, none⟩) 0 0) ([] : List Int).length (ivs []) := ⟨rfl, .inr ⟨g, 0, #[], rfl, hB, hg, Nat.le_refl _, by unfold maxLen; omega, rfl, rfl⟩⟩
  obtain ⟨v', w', hr, ho', hgw⟩ := appI (l' := l) (c := c) hown hs (by simpa using hl) (by omega) ty
  rw [List.nil_append] at ho'
  refine ⟨v', w', hr, ho', hgw.os, hgw.tape, hgw.output, hgw.size, fun k hk => ?_⟩
  by_cases e : k = g
  · subst e
    rcases hs with ⟨rfl, rfl⟩ | ⟨a, rfl, hc⟩
    · have h5 := run_append_owned_none (P := Try.prog) X B 41 ty 3 i0 1 hT hi _ _ _ hown
      have h6 := hr.symm.trans h5
      simp only [Result.ok.injEq] at h6
      rw [h6.2]
    · by_cases e : l = []
      · subst e
        have h5 := run_append_room (P := Try.prog) X 41 ty 3 i0 hT hi k 0 0 #[] hg a 0 c [] (by simp) (fun j w hj => by simp at hj) (fun u hu => by simp at hu) (Nat.le_refl _) (by simp)
        have h6 := hr.symm.trans h5
        simp only [Result.ok.injEq] at h6
        rw [h6.2, setRow_heap X k #[] _ 3 _ hg, hg]; simp
      · have hp : 0 < l.length := List.length_pos_iff.2 e
        have h5 := run_append_grow (P := Try.prog) X 41 ty 3 i0 (.int .i64 0) hT hi hz0 ⟨k, 0, none⟩ 0 0 [] (by simp) (fun j w hj => by simp at hj) a l.length c (ivs l) (by rw [hz1]; exact ivs_len _) hc (by omega) (by omega) (growslice_fits (by omega) (by rw [hz2]; omega))
        rw [hr] at h5
        simp only [Result.ok.injEq] at h5
        rw [h5.2]
        exact Below.heap_alloc X.drew _ k hgl
  · exact hgw.block k hk (fun h => e (by simpa [Value.ownBlock] using h))

theorem appT {X : World} {B : Nat} {v : Value} {l l' : List Th} {q : Option Addr} {c : Nat} (hown : X.ownsRow B 60 6 v l.length (thsC l)) (hs : SrcT X q l') (hl : l.length + l'.length < 1000000) (hB : B ≤ X.heap.size) (ty : TypeId) :
    ∃ v' X', (Builtin.append_ #[61, 61] ty #[v, .slice q l'.length c]).run Try.prog X = .ok v' X' ∧ X'.ownsRow B 60 6 v' (l ++ l').length (thsC (l ++ l')) ∧ X.grownBy X' v.ownBlock := by
  obtain ⟨i0, hi, hz0, hz1, hz2⟩ := info_parts thInfo
  have hT : Try.prog.underlying 61 = some (.slice 60) := by kernel_rfl
  rcases hs with ⟨rfl, rfl⟩ | ⟨a, rfl, hc⟩
  · rw [List.append_nil]
    exact ⟨_, X, run_append_owned_none (P := Try.prog) X B 61 ty 60 i0 6 hT hi _ _ _ hown, hown, ⟨rfl, rfl, rfl, Nat.le_refl _, fun _ _ _ => rfl⟩⟩
  · obtain ⟨v', w', hr, ho', hgw, _, _⟩ := run_append_own_at (P := Try.prog) X B 61 ty 60 i0 (.agg #[.int .i64 0, .int .i64 0, .int .i64 0, .int .i64 0, .slice none 0 0, .slice none 0 0]) 6 80 hT hi hz0 hz1 hz2 rfl (by decide) v l.length (thsC l) hown a l'.length c (thsC l') (thsC_len _) hc (thsC_cell _) (by unfold maxLen; omega) (by omega) hB
    exact ⟨v', w', hr, by rw [List.length_append, thsC_app]; exact ho', hgw⟩
/-- Onto a row of none, newly made. -/
def ET (B : Nat) (v : Value) (X : World) : Prop := ∃ g, v = .slice (some ⟨g, 0, none⟩) 0 0 ∧ B ≤ g ∧ X.heap[g]? = some (.cells #[] 60 (0, 0))
theorem ET.below {B : Nat} {v : Value} {X X' : World} (h : ET B v X) (hb : Below X.heap.size X X') : ET B v X' := by
  obtain ⟨g, h1, h2, h3⟩ := h
  exact ⟨g, h1, h2, (hb.block g (heap_lt h3)).trans h3⟩
theorem appT_fresh {X : World} {B : Nat} {v : Value} {l : List Th} {q : Option Addr} {c : Nat} (hv : ET B v X) (hs : SrcT X q l) (hl : l.length < 1000000) (ty : TypeId) :
    ∃ v' X', (Builtin.append_ #[61, 61] ty #[v, .slice q l.length c]).run Try.prog X = .ok v' X' ∧ X'.ownsRow B 60 6 v' l.length (thsC l) ∧ Below X.heap.size X X' := by
  obtain ⟨g, rfl, hB, hg⟩ := hv
  obtain ⟨i0, hi, hz0, hz1, hz2⟩ := info_parts thInfo
  have hT : Try.prog.underlying 61 = some (.slice 60) := by kernel_rfl
  have hgl := heap_lt hg
  have hown : X.ownsRow B 60 6 (.slice (some ⟨g, 0, none⟩) 0 0) ([] : List Th).length (thsC []) := ⟨rfl, .inr ⟨g, 0, #[], rfl, hB, hg, Nat.le_refl _, by unfold maxLen; omega, rfl, rfl⟩⟩
  obtain ⟨v', w', hr, ho', hgw⟩ := appT (l' := l) (c := c) hown hs (by simpa using hl) (by omega) ty
  rw [List.nil_append] at ho'
  refine ⟨v', w', hr, ho', hgw.os, hgw.tape, hgw.output, hgw.size, fun k hk => ?_⟩
  by_cases e : k = g
  · subst e
    rcases hs with ⟨rfl, rfl⟩ | ⟨a, rfl, hc⟩
    · have h5 := run_append_owned_none (P := Try.prog) X B 61 ty 60 i0 6 hT hi _ _ _ hown
      have h6 := hr.symm.trans h5
      simp only [Result.ok.injEq] at h6
      rw [h6.2]
    · by_cases e : l = []
      · subst e
        have h5 := run_append_room (P := Try.prog) X 61 ty 60 i0 hT hi k 0 0 #[] hg a 0 c [] (by simp) (fun j w hj => by simp at hj) (fun u hu => by simp at hu) (Nat.le_refl _) (by simp)
        have h6 := hr.symm.trans h5
        simp only [Result.ok.injEq] at h6
        rw [h6.2, setRow_heap X k #[] _ 60 _ hg, hg]; simp
      · have hp : 0 < l.length := List.length_pos_iff.2 e
        have h5 := run_append_grow (P := Try.prog) X 61 ty 60 i0 (.agg #[.int .i64 0, .int .i64 0, .int .i64 0, .int .i64 0, .slice none 0 0, .slice none 0 0]) hT hi hz0 ⟨k, 0, none⟩ 0 0 [] (by simp) (fun j w hj => by simp at hj) a l.length c (thsC l) (by rw [hz1]; exact thsC_len _) hc (by omega) (by omega) (growslice_fits (by omega) (by rw [hz2]; omega))
        rw [hr] at h5
        simp only [Result.ok.injEq] at h5
        rw [h5.2]
        exact Below.heap_alloc X.drew _ k hgl
  · exact hgw.block k hk (fun h => e (by simpa [Value.ownBlock] using h))
end Go.Proofs.Ytebcnlhgkpaghaa
