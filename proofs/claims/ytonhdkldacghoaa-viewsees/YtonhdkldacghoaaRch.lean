/- What is visible in a dump: plain facts, no walk. -/
import Derived.Test.YtonhdkldacghoaaPlc
import Derived.Test.YtonhdkldacghoaaSemV
namespace Go.Proofs.Ytonhdkldacghoaa
open Go.RowKit Go.Sort

def lowB (l : Lab) (o : Ob) : Bool := lowS l o.L
/-- Visible, from a root on. -/
inductive Reach (d : List Ob) (l : Lab) (root : Int) : Int → Prop
  | root {o : Ob} : lk d root = some o → lowB l o = true → Reach d l root root
  | step {y : Int} {oy : Ob} {x : Int} {o : Ob} : Reach d l root y → lk d y = some oy → oy.kind = 1 → x ∈ oy.ls → lk d x = some o → lowB l o = true → Reach d l root x
theorem Reach.low {d : List Ob} {l : Lab} {root x : Int} (h : Reach d l root x) : ∃ o, lk d x = some o ∧ lowB l o = true := by
  cases h with
  | root h1 h2 => exact ⟨_, h1, h2⟩
  | step _ _ _ _ h1 h2 => exact ⟨_, h1, h2⟩
def Asks (d : List Ob) (l : Lab) (root x : Int) : Prop := x = root ∨ ∃ y oy, Reach d l root y ∧ lk d y = some oy ∧ oy.kind = 1 ∧ x ∈ oy.ls
theorem Asks.reach {d : List Ob} {l : Lab} {root x : Int} {o : Ob} (h : Asks d l root x) (h1 : lk d x = some o) (h2 : lowB l o = true) : Reach d l root x := by
  rcases h with rfl | ⟨y, oy, hy, hl, hk, hx⟩
  · exact .root h1 h2
  · exact .step hy hl hk hx h1 h2
def lowX (d : List Ob) (l : Lab) (x : Int) : Bool := match lk d x with
  | some o => lowB l o
  | none => false
theorem lowX_of {d : List Ob} {l : Lab} {x : Int} {o : Ob} (h : lk d x = some o) : lowX d l x = lowB l o := by unfold lowX; rw [h]
/-- How far the search is: D was asked, A is still to be asked. -/
structure Src (d : List Ob) (l : Lab) (root : Int) (D A : List Int) : Prop where
  askA : ∀ x ∈ A, Asks d l root x
  askD : ∀ x ∈ D, Asks d l root x
  isD : ∀ x ∈ D, lk d x ≠ none
  nd : D.Nodup
  rt : root ∈ A ∨ root ∈ D ∨ lk d root = none
  ent : ∀ y ∈ D, ∀ oy, lk d y = some oy → lowB l oy = true → oy.kind = 1 → ∀ x ∈ oy.ls, x ∈ A ∨ x ∈ D ∨ lk d x = none
theorem Src.start (d : List Ob) (l : Lab) (root : Int) : Src d l root [] [root] :=
  ⟨fun x hx => .inl (by simpa using hx), fun x hx => (by cases hx), fun x hx => (by cases hx), List.nodup_nil, .inl (by simp), fun y hy => (by cases hy)⟩
section
variable {d : List Ob} {l : Lab} {root : Int} {D A : List Int} {x : Int}
theorem mem_snoc {A : List Int} {x z : Int} (h : z ∈ A ++ [x]) : z ∈ A ∨ z = x := by simpa using h
/-- x is none, or was asked. -/
theorem Src.skip (h : Src d l root D (A ++ [x])) (hx : x ∈ D ∨ lk d x = none) : Src d l root D A := by
  refine ⟨fun z hz => h.askA z (by simp [hz]), h.askD, h.isD, h.nd, ?_, fun y hy oy h1 h2 h3 z hz => ?_⟩
  · rcases h.rt with h1 | h1
    · rcases mem_snoc h1 with h1 | h1
      · exact .inl h1
      · rw [h1]; exact .inr hx
    · exact .inr h1
  · rcases h.ent y hy oy h1 h2 h3 z hz with h4 | h4
    · rcases mem_snoc h4 with h4 | h4
      · exact .inl h4
      · rw [h4]; exact .inr hx
    · exact .inr h4
/-- x is asked now, and has the entries es, or none that count. -/
theorem Src.next {o : Ob} (h : Src d l root D (A ++ [x])) (hx : x ∉ D) (ho : lk d x = some o) (es : List Int) (he : lowB l o = true → o.kind = 1 → es = o.ls) (he0 : ¬ (lowB l o = true ∧ o.kind = 1) → es = []) : Src d l root (D ++ [x]) (A ++ es) := by
  have hax := h.askA x (by simp)
  refine ⟨fun z hz => ?_, fun z hz => ?_, fun z hz => ?_, ?_, ?_, fun y hy oy h1 h2 h3 z hz => ?_⟩
  · rcases List.mem_append.1 hz with hz | hz
    · exact h.askA z (by simp [hz])
    · by_cases hc : lowB l o = true ∧ o.kind = 1
      · rw [he hc.1 hc.2] at hz
        exact .inr ⟨x, o, hax.reach ho hc.1, ho, hc.2, hz⟩
      · rw [he0 hc] at hz; cases hz
  · rcases mem_snoc hz with hz | rfl
    · exact h.askD z hz
    · exact hax
  · rcases mem_snoc hz with hz | rfl
    · exact h.isD z hz
    · rw [ho]; simp
  · rw [List.nodup_append]
    exact ⟨h.nd, by simp, fun a ha b hb => by simp at hb; subst hb; intro e; subst e; exact hx ha⟩
  · rcases h.rt with h1 | h1 | h1
    · rcases mem_snoc h1 with h1 | h1
      · exact .inl (by simp [h1])
      · exact .inr (.inl (by simp [h1]))
    · exact .inr (.inl (by simp [h1]))
    · exact .inr (.inr h1)
  · rcases mem_snoc hy with hy | rfl
    · rcases h.ent y hy oy h1 h2 h3 z hz with h4 | h4 | h4
      · rcases mem_snoc h4 with h4 | h4
        · exact .inl (by simp [h4])
        · exact .inr (.inl (by simp [h4]))
      · exact .inr (.inl (by simp [h4]))
      · exact .inr (.inr h4)
    · rw [ho] at h1
      cases h1
      rw [← he h2 h3] at hz
      exact .inl (by simp [hz])
theorem Src.all (h : Src d l root D []) : ∀ {x}, Reach d l root x → x ∈ D := by
  intro x hx
  induction hx with
  | root h1 _ =>
    rcases h.rt with h2 | h2 | h2
    · cases h2
    · exact h2
    · rw [h2] at h1; cases h1
  | step hy hl hk hz h1 _ ih =>
    obtain ⟨o', ho', hlow⟩ := hy.low
    rw [hl] at ho'
    cases ho'
    rcases h.ent _ ih _ hl hlow hk _ hz with h2 | h2 | h2
    · cases h2
    · exact h2
    · rw [h2] at h1; cases h1
theorem Src.fin (h : Src d l root D []) (x : Int) : x ∈ D.filter (lowX d l) ↔ Reach d l root x := by
  rw [List.mem_filter]
  constructor
  · rintro ⟨hx, hl⟩
    cases ho : lk d x with
    | none => exact absurd ho (h.isD x hx)
    | some o =>
      rw [lowX_of ho] at hl
      exact (h.askD x hx).reach ho hl
  · intro hr
    obtain ⟨o, ho, hl⟩ := hr.low
    exact ⟨h.all hr, by rw [lowX_of ho]; exact hl⟩
end
/-- Where a number stands first. -/
def ix (d : List Ob) (x : Int) : Nat := (firstAt d x).getD 0
/-- The places of what was found. -/
def fnd (d : List Ob) (l : Lab) (D : List Int) : List Nat := (D.filter (lowX d l)).map (ix d)
theorem fnd_snoc (d : List Ob) (l : Lab) (D : List Int) (x : Int) : fnd d l (D ++ [x]) = if lowX d l x = true then fnd d l D ++ [ix d x] else fnd d l D := by
  unfold fnd
  rw [List.filter_append]
  by_cases h : lowX d l x = true
  · simp [h]
  · simp [h]
theorem ix_id {d : List Ob} {x : Int} (h : lk d x ≠ none) : ∃ hk : ix d x < d.length, d[ix d x].id = x ∧ lk d x = some d[ix d x] := by
  cases hf : firstAt d x with
  | none => exact absurd (firstAt_none.1 hf) h
  | some k =>
    obtain ⟨hk, h1, h2⟩ := firstAt_lk hf
    have e : ix d x = k := by unfold ix; rw [hf]; rfl
    subst e
    exact ⟨hk, h2, h1⟩
theorem fnd_lt {d : List Ob} {l : Lab} {D : List Int} (h : ∀ x ∈ D, lk d x ≠ none) : ∀ k ∈ fnd d l D, k < d.length := by
  intro k hk
  unfold fnd at hk
  obtain ⟨x, hx, rfl⟩ := List.mem_map.1 hk
  exact (ix_id (h x (List.mem_filter.1 hx).1)).1
/-- What is told of the visible: rising numbers, each once, just the visible. -/
def VisOk (d : List Ob) (l : Lab) (root : Int) (vs : List Int) : Prop := vs.Pairwise (· < ·) ∧ ∀ x, x ∈ vs ↔ Reach d l root x
theorem VisOk.eq {d : List Ob} {l : Lab} {root : Int} {a b : List Int} (h : VisOk d l root a) (k : VisOk d l root b) : a = b := by
  have hp : a.Perm b := (List.perm_ext_iff_of_nodup (h.1.imp (fun hx => Int.ne_of_lt hx)) (k.1.imp (fun hx => Int.ne_of_lt hx))).2 fun x => (h.2 x).trans (k.2 x).symm
  exact hp.eq_of_pairwise (fun x y _ _ hx hy => by omega) h.1 k.1
def idAt (d : List Ob) (k : Nat) : Int := (d[k]?.map (·.id)).getD 0
end Go.Proofs.Ytonhdkldacghoaa
