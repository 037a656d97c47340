/- What is visible, and the entries of what is visible (plain facts, no walk). -/
import Derived.Test.YtonhdkldacghoaaPrt0
namespace Go.Proofs.Ytonhdkldacghoaa
open Go.RowKit Go.Sort

/-- The entries of a number's object, where it is a container. -/
def entX (d : List Ob) (x : Int) : List Int := match lk d x with
  | some o => if o.kind = 1 then o.ls else []
  | none => []
theorem entX_yes {d : List Ob} {x : Int} {o : Ob} (h : lk d x = some o) (hk : o.kind = 1) : entX d x = o.ls := by unfold entX; rw [h]; simp [hk]
theorem entX_no {d : List Ob} {x : Int} {o : Ob} (h : lk d x = some o) (hk : ¬ o.kind = 1) : entX d x = [] := by unfold entX; rw [h]; simp [hk]
def entF (d : List Ob) (root : Int) (vs : List Int) : List Int := root :: vs.flatMap (entX d)
theorem entF_snoc (d : List Ob) (root : Int) (vs : List Int) (k : Nat) (h : k < vs.length) : entF d root (vs.take (k + 1)) = entF d root (vs.take k) ++ entX d vs[k] := by
  unfold entF
  rw [List.take_succ_eq_append_getElem h, List.flatMap_append]; simp
theorem vis_at {d : List Ob} {l : Lab} {root x : Int} {vs : List Int} (h : VisOk d l root vs) (hx : x ∈ vs) : ∃ k, ∃ hk : k < d.length, firstAt d x = some k ∧ lk d x = some d[k] ∧ lowB l d[k] = true := by
  obtain ⟨o, ho, hl⟩ := ((h.2 x).1 hx).low
  cases hf : firstAt d x with
  | none => rw [firstAt_none.1 hf] at ho; cases ho
  | some k =>
    obtain ⟨hk, h1, _⟩ := firstAt_lk hf
    rw [h1] at ho; cases ho
    exact ⟨k, hk, rfl, h1, hl⟩
theorem vis_in {d : List Ob} {l : Lab} {root x : Int} {vs : List Int} (h : VisOk d l root vs) (hx : x ∈ vs) : x ∈ entF d root vs := by
  cases (h.2 x).1 hx with
  | root _ _ => unfold entF; simp
  | @step y oy _ o hy hl hk hx' ho _ =>
    unfold entF
    refine List.mem_cons_of_mem _ (List.mem_flatMap.2 ⟨y, (h.2 y).2 hy, ?_⟩)
    rw [entX_yes hl hk]; exact hx'
theorem vis_unfree {d : List Ob} {l : Lab} {root : Int} {vs : List Int} (h : VisOk d l root vs) (hf : freeS l.d l.xs = false) : vs = [] := by
  cases vs with
  | nil => rfl
  | cons x vs =>
    obtain ⟨o, _, hl⟩ := ((h.2 x).1 (by simp)).low
    unfold lowB lowS telS at hl
    rw [hf] at hl; simp at hl
theorem reach_root {d : List Ob} {l : Lab} {root x : Int} (h : Reach d l root x) : Reach d l root root := by
  induction h with
  | root h1 h2 => exact .root h1 h2
  | step _ _ _ _ _ _ ih => exact ih
/-- What is asked of, is there and is low, is visible, where anything is. -/
theorem ent_vis {d : List Ob} {l : Lab} {root x : Int} {vs : List Int} (h : VisOk d l root vs) (hx : x ∈ entF d root vs) {k : Nat} (hf : firstAt d x = some k) (hl : ∀ hk : k < d.length, lowB l d[k] = true) (hne : x = root → vs ≠ []) : x ∈ vs := by
  obtain ⟨hk, h1, _⟩ := firstAt_lk hf
  have hlow := hl hk
  rw [h.2]
  unfold entF at hx
  rcases List.mem_cons.1 hx with rfl | hx
  · exact .root h1 hlow
  · obtain ⟨y, hy, hx⟩ := List.mem_flatMap.1 hx
    have hyr := (h.2 y).1 hy
    obtain ⟨oy, hoy, _⟩ := hyr.low
    unfold entX at hx
    rw [hoy] at hx
    by_cases hkd : oy.kind = 1
    · simp only [hkd, if_true] at hx
      exact .step hyr hoy hkd hx h1 hlow
    · simp [hkd] at hx
theorem entX_len {d : List Ob} {x : Int} (hd : ∀ o ∈ d, o.ls.length ≤ 100) : (entX d x).length ≤ 100 := by
  unfold entX
  cases hl : lk d x with
  | none => simp
  | some o =>
    have := hd o (List.mem_of_find?_eq_some hl)
    by_cases hk : o.kind = 1 <;> simp [hk, this]
theorem entF_len {d : List Ob} {root : Int} (hd : ∀ o ∈ d, o.ls.length ≤ 100) : ∀ (vs : List Int), (entF d root vs).length ≤ 1 + 100 * vs.length
  | [] => by simp [entF]
  | x :: vs => by
    have h1 := entF_len (root := root) hd vs
    have h2 := entX_len (x := x) hd
    unfold entF at h1 ⊢
    simp only [List.flatMap_cons, List.length_cons, List.length_append] at h1 ⊢
    omega
end Go.Proofs.Ytonhdkldacghoaa
