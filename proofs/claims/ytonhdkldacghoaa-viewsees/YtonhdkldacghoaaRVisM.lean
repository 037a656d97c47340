/- How far the reference's search is (plain facts, no walk). -/
import Derived.Test.YtonhdkldacghoaaRis
import Derived.Test.YtonhdkldacghoaaPartsM
namespace Go.Proofs.Ytonhdkldacghoaa
open Go.RowKit Go.Sort Go.Shelf

structure VI (d : List Ob) (l : Lab) (root : Int) (i : Nat) (O : List Int) : Prop where
  nd : O.Nodup
  rt : root ∈ O
  re : ∀ x ∈ O, Reach d l root x
  cl : ∀ j (h : j < O.length), j < i → ∀ x ∈ entX d O[j], lowX d l x = true → x ∈ O
theorem reach_low {d : List Ob} {l : Lab} {root x : Int} (h : Reach d l root x) : lowX d l x = true := by
  obtain ⟨o, ho, hl⟩ := h.low
  rw [lowX_of ho]; exact hl
theorem low_lk {d : List Ob} {l : Lab} {x : Int} (h : lowX d l x = true) : ∃ o, lk d x = some o ∧ lowB l o = true := by
  unfold lowX at h
  cases hl : lk d x with
  | none => rw [hl] at h; cases h
  | some o => rw [hl] at h; exact ⟨o, rfl, h⟩
theorem VI.start {d : List Ob} {l : Lab} {root : Int} (h : lowX d l root = true) : VI d l root 0 [root] := by
  obtain ⟨o, h1, h2⟩ := low_lk h
  refine ⟨by simp, by simp, fun x hx => ?_, fun j _ hj => by omega⟩
  simp at hx; subst hx; exact .root h1 h2
theorem VI.add {d : List Ob} {l : Lab} {root x : Int} {i : Nat} {O : List Int} (h : VI d l root i O) (hi : i ≤ O.length) (hx : x ∉ O) (hr : Reach d l root x) : VI d l root i (O ++ [x]) := by
  refine ⟨?_, by simp [h.rt], fun y hy => ?_, fun j hj hji y hy hl => ?_⟩
  · rw [List.nodup_append]
    exact ⟨h.nd, by simp, fun a ha b hb => by simp at hb; subst hb; intro e; subst e; exact hx ha⟩
  · rcases mem_snoc hy with hy | rfl
    · exact h.re y hy
    · exact hr
  · have hjl : j < O.length := by omega
    rw [List.getElem_append_left hjl] at hy
    exact List.mem_append.2 (.inl (h.cl j hjl hji y hy hl))
theorem VI.next {d : List Ob} {l : Lab} {root : Int} {i : Nat} {O : List Int} (h : VI d l root i O) (hi : i < O.length) (hc : ∀ x ∈ entX d O[i], lowX d l x = true → x ∈ O) : VI d l root (i + 1) O :=
  ⟨h.nd, h.rt, h.re, fun j hj hji x hx hl => by
    by_cases e : j = i
    · subst e; exact hc x hx hl
    · exact h.cl j hj (by omega) x hx hl⟩
theorem VI.len {d : List Ob} {l : Lab} {root : Int} {i : Nat} {O : List Int} (h : VI d l root i O) : O.length ≤ d.length := by
  have := nodup_len (a := O) (b := d.map Ob.id) h.nd (fun x hx => by
    obtain ⟨o, ho, _⟩ := (h.re x hx).low
    unfold lk at ho
    have h1 := List.find?_some ho
    have h2 := List.mem_of_find?_eq_some ho
    refine List.mem_map.2 ⟨o, h2, by simpa using h1⟩)
  simpa using this
theorem VI.fin {d : List Ob} {l : Lab} {root : Int} {O : List Int} (h : VI d l root O.length O) : VisOk d l root (risL O) := by
  obtain ⟨h1, h2⟩ := ris_ok h.nd
  refine ⟨h1, fun x => h2.mem_iff.trans ⟨h.re x, fun hr => ?_⟩⟩
  induction hr with
  | root _ _ => exact h.rt
  | @step y oy x o hy hl hk hx ho hlow ih =>
    obtain ⟨j, hj, rfl⟩ := List.getElem_of_mem ih
    exact h.cl j hj hj x (by rw [entX_yes hl hk]; exact hx) (by rw [lowX_of ho]; exact hlow)
theorem vis_none {d : List Ob} {l : Lab} {root : Int} (h : lowX d l root = false) : VisOk d l root [] := by
  refine ⟨List.Pairwise.nil, fun x => ⟨fun h => (by cases h), fun hr => ?_⟩⟩
  have := reach_low (reach_root hr)
  rw [h] at this; cases this
theorem vis_bound {d : List Ob} {l : Lab} {root : Int} (h : freeS l.d l.xs = false) : VisOk d l root [] := by
  refine ⟨List.Pairwise.nil, fun x => ⟨fun h => (by cases h), fun hr => ?_⟩⟩
  obtain ⟨o, _, hl⟩ := hr.low
  unfold lowB lowS telS at hl
  rw [h] at hl; simp at hl
end Go.Proofs.Ytonhdkldacghoaa
