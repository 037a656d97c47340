/- What is low is told alike, category by category and entry by entry (plain facts, no walk). -/
import Derived.Test.YtonhdkldacghoaaOwnA
import Derived.Test.YtonhdkldacghoaaLooks
namespace Go.Proofs.Ytonhdkldacghoaa
open Go.RowKit Go.Sort

theorem at_mem {d : Int} : ∀ {l : Int} {xs : List (Int × Int)} {x : Int × Int}, Rise l xs → x ∈ xs → atS d xs x.1 = x.2
  | _, [], _, _, h => by cases h
  | l, y :: ys, x, hr, h => by
    rcases List.mem_cons.1 h with rfl | h
    · simp [atS]
    · have h2 : y.1 < x.1 := by
        have : ∀ {l : Int} {zs : List (Int × Int)}, Rise l zs → x ∈ zs → l < x.1 := by
          intro l zs
          induction zs generalizing l with
          | nil => intro _ h; cases h
          | cons z zs ih =>
            intro hz hm
            rcases List.mem_cons.1 hm with rfl | hm
            · exact hz.1
            · exact Int.lt_trans hz.1 (ih hz.2 hm)
        exact this hr.2 h
      have : (y.1 == x.1) = false := by simp; omega
      simp only [atS, this]
      exact at_mem hr.2 h
theorem mem_allV {od ld : Int} {xs ys : List (Int × Int)} {x : Int × Int} : x ∈ allV od ld xs ys ↔ x = (od, ld) ∨ (∃ e ∈ xs, x = (e.2, atS ld ys e.1)) ∨ (∃ e ∈ ys, x = (atS od xs e.1, e.2)) := by
  unfold allV prY prX
  rw [List.take_length, List.take_length]
  simp only [List.cons_append, List.mem_cons, List.mem_append, List.mem_map]
  constructor
  · rintro (h | ⟨e, he, rfl⟩ | ⟨e, he, rfl⟩)
    · exact .inl h
    · exact .inr (.inl ⟨e, he, rfl⟩)
    · exact .inr (.inr ⟨e, he, rfl⟩)
  · rintro (h | ⟨e, he, rfl⟩ | ⟨e, he, rfl⟩)
    · exact .inl h
    · exact .inr (.inl ⟨e, he, rfl⟩)
    · exact .inr (.inr ⟨e, he, rfl⟩)
theorem allV_iff {A B : Lab} (hA : Rise 0 A.xs) (hB : Rise 0 B.xs) (P : Int × Int → Prop) :
    (∀ x ∈ allV B.d A.d B.xs A.xs, P x) ↔ ∀ c ∈ namedS [A, B] ++ [0], P (atS B.d B.xs c, atS A.d A.xs c) := by
  constructor
  · intro h c _
    by_cases h1 : ∃ e ∈ B.xs, e.1 = c
    · obtain ⟨e, he, rfl⟩ := h1
      rw [at_mem hB he]
      exact h _ (mem_allV.2 (.inr (.inl ⟨e, he, rfl⟩)))
    · by_cases h2 : ∃ e ∈ A.xs, e.1 = c
      · obtain ⟨e, he, rfl⟩ := h2
        rw [at_mem (d := A.d) hA he]
        exact h _ (mem_allV.2 (.inr (.inr ⟨e, he, rfl⟩)))
      · rw [at_out (fun x hx e => h1 ⟨x, hx, e⟩), at_out (fun x hx e => h2 ⟨x, hx, e⟩)]
        exact h _ (mem_allV.2 (.inl rfl))
  · intro h x hx
    rcases mem_allV.1 hx with rfl | ⟨e, he, rfl⟩ | ⟨e, he, rfl⟩
    · have := h 0 (List.mem_append.2 (.inr (by simp)))
      rwa [at_none (Int.le_refl _) hB, at_none (Int.le_refl _) hA] at this
    · have := h e.1 (List.mem_append.2 (.inl (named2_right he)))
      rwa [at_mem hB he] at this
    · have := h e.1 (List.mem_append.2 (.inl (named2_left he)))
      rwa [at_mem (d := A.d) hA he] at this

def upx (x : Int) : Int := if (x == 0) = true then 4 else x
def upLe (A B : Lab) (c : Int) : Bool := decide (upx (atS B.d B.xs c) ≤ atS A.d A.xs c)
def rlowS (A B : Lab) : Bool := (namedS [A, B] ++ [0]).all (upLe A B)
def rown1 (A B : Lab) (k c : Int) : Bool := (atS B.d B.xs c == 0) && (decide (atS A.d A.xs c < 4) && (k == 4 || k == 5))
def rownS (k : Int) (A B : Lab) : Bool := (namedS [A, B] ++ [0]).any (rown1 A B k)
theorem plain_right {d : Int} {xs : List (Int × Int)} (h : plainS d xs = true) : rightS d xs = true := by
  unfold plainS at h; rw [Bool.and_eq_true] at h; exact h.1
theorem free_right {d : Int} {xs : List (Int × Int)} (h : freeS d xs = true) : rightS d xs = true := by
  unfold freeS at h; rw [Bool.and_eq_true] at h; exact plain_right h.1
theorem good_up (x : Int × Int) : badS x = false ↔ upx x.1 ≤ x.2 := by
  unfold badS whS upx
  by_cases h : x.1 = 0
  · simp [h]; omega
  · simp [h]
theorem low_ref {A B : Lab} (hA : freeS A.d A.xs = true) (hB : plainS B.d B.xs = true) : lowS A B = rlowS A B := by
  have rA := (right_rise (free_right hA)).1
  have rB := (right_rise (plain_right hB)).1
  have h := allV_iff rA rB (fun x => upx x.1 ≤ x.2)
  unfold lowS rlowS telS
  rw [hA, hB, Bool.true_and, Bool.true_and, Bool.eq_iff_iff, List.all_eq_true, List.all_eq_true]
  constructor
  · intro h1 c hc
    exact decide_eq_true (h.1 (fun x hx => (good_up x).1 (by have := h1 x hx; unfold badS; simpa using this)) c hc)
  · intro h1 x hx
    have := (good_up x).2 (h.2 (fun c hc => of_decide_eq_true (h1 c hc)) x hx)
    unfold badS at this
    simp only [this, Bool.not_false]
theorem own_ref {A B : Lab} (k : Int) (hA : freeS A.d A.xs = true) (hB : plainS B.d B.xs = true) : ownS k A B = rownS k A B := by
  have rA := (right_rise (free_right hA)).1
  have rB := (right_rise (plain_right hB)).1
  have h := allV_iff rA rB (fun x => whS x = false)
  unfold ownS rownS telS
  rw [hA, hB, Bool.true_and, Bool.true_and]
  by_cases hk : (k == 4 || k == 5) = true
  · rw [hk, Bool.true_and]
    have e1 : (allV B.d A.d B.xs A.xs).any whS = false ↔ (namedS [A, B] ++ [0]).any (rown1 A B k) = false := by
      rw [List.any_eq_false, List.any_eq_false]
      have e2 : ∀ c, rown1 A B k c = whS (atS B.d B.xs c, atS A.d A.xs c) := fun c => by unfold rown1 whS; rw [hk, Bool.and_true]
      constructor
      · intro h1 c hc
        rw [e2, h.1 (fun x hx => by simpa using h1 x hx) c hc]; decide
      · intro h1 x hx
        rw [h.2 (fun c hc => by have := h1 c hc; rw [e2] at this; simpa using this) x hx]; decide
    cases h1 : (allV B.d A.d B.xs A.xs).any whS with
    | false => exact (e1.1 h1).symm
    | true =>
      cases h2 : (namedS [A, B] ++ [0]).any (rown1 A B k) with
      | false => rw [e1.2 h2] at h1; cases h1
      | true => rfl
  · have hk' : (k == 4 || k == 5) = false := by simpa using hk
    rw [hk', Bool.false_and]
    symm
    rw [List.any_eq_false]
    intro c _
    simp [rown1, hk']
end Go.Proofs.Ytonhdkldacghoaa
