/- What Sees and Alters of the reference answer, and that it is what package label answers, for right labels. -/
import Derived.Test.YtonhdkldacghoaaRleq
namespace Go.Proofs.Ytonhdkldacghoaa
open Go.RowKit Go.Sort

/- Plain facts: what is named, and that comparing at all that is named is comparing. -/
theorem ins_self (c : Int) (cs : List Int) : c ∈ ins c cs := by
  unfold ins
  split
  · next h => exact List.mem_of_getElem? h
  · simp
theorem ins_old {c z : Int} {cs : List Int} (h : z ∈ cs) : z ∈ ins c cs := by
  unfold ins
  split
  · exact h
  · rw [List.append_assoc, List.mem_append]
    have : z ∈ cs.take (sc c cs) ++ cs.drop (sc c cs) := by rw [List.take_append_drop]; exact h
    rcases List.mem_append.1 this with h | h
    · exact .inl h
    · exact .inr (List.mem_append.2 (.inr h))
theorem insAll_old {z : Int} (xs : List (Int × Int)) {cs : List Int} (h : z ∈ cs) : z ∈ insAll xs cs := by
  induction xs generalizing cs with
  | nil => exact h
  | cons x xs ih => exact ih (ins_old h)
theorem insAll_new {x : Int × Int} {xs : List (Int × Int)} (cs : List Int) (h : x ∈ xs) : x.1 ∈ insAll xs cs := by
  induction xs generalizing cs with
  | nil => simp at h
  | cons y xs ih =>
    rcases List.mem_cons.1 h with rfl | h
    · exact insAll_old xs (ins_self _ _)
    · exact ih _ h
theorem named2_left {A B : Lab} {x : Int × Int} (h : x ∈ A.xs) : x.1 ∈ namedS [A, B] := by
  show x.1 ∈ insAll B.xs (insAll A.xs [])
  exact insAll_old _ (insAll_new _ h)
theorem named2_right {A B : Lab} {x : Int × Int} (h : x ∈ B.xs) : x.1 ∈ namedS [A, B] := by
  show x.1 ∈ insAll B.xs (insAll A.xs [])
  exact insAll_new _ h
theorem at_out {d c : Int} {xs : List (Int × Int)} (h : ∀ x ∈ xs, x.1 ≠ c) : atS d xs c = d := by
  induction xs with
  | nil => rfl
  | cons x xs ih =>
    simp only [atS]
    rw [if_neg (by simpa using h x (List.mem_cons_self ..))]
    exact ih fun y hy => h y (List.mem_cons_of_mem _ hy)
theorem rleq_eq {A B : Lab} (hx : Rise 0 A.xs) (hy : Rise 0 B.xs) : rleqS A B = leqS A.d B.d A.xs B.xs := by
  rw [Bool.eq_iff_iff, leq_iff hx hy]
  unfold rleqS
  rw [Bool.and_eq_true, List.all_eq_true]
  constructor
  · rintro ⟨h1, h2⟩ c
    simp only [decide_eq_true_eq] at h2
    by_cases hc : c ∈ namedS [A, B]
    · have := h1 c hc; simpa [atLe] using this
    · rw [at_out (c := c) (xs := A.xs) (fun x hx e => hc (by rw [← e]; exact named2_left hx)), at_out (c := c) (xs := B.xs) (fun x hx e => hc (by rw [← e]; exact named2_right hx))]
      exact h2
  · intro h
    refine ⟨fun c _ => by simpa [atLe] using h c, ?_⟩
    have := h 0
    rw [at_none (Int.le_refl _) hx, at_none (Int.le_refl _) hy] at this
    simpa using this
theorem Rise.filter {p : Int × Int → Bool} : ∀ {l : Int} {xs : List (Int × Int)}, Rise l xs → Rise l (xs.filter p)
  | _, [], _ => trivial
  | l, x :: xs, h => by
    rw [List.filter_cons]
    split
    · exact ⟨h.1, Rise.filter h.2⟩
    · exact Rise.mono (by have := h.1; omega) (Rise.filter h.2)
theorem Rise.turn {f t : Int} : ∀ {l : Int} {xs : List (Int × Int)}, Rise l xs → Rise l (turnS f t xs)
  | _, [], _ => trivial
  | _, _ :: _, h => ⟨h.1, Rise.turn h.2⟩
theorem Rise.up {d : Int} {xs : List (Int × Int)} (h : Rise 0 xs) : Rise 0 (upS d xs) := Rise.filter (Rise.turn h)

def Lab.up (A : Lab) : Lab := ⟨upD A.d, none, 0, upS A.d A.xs⟩
def rseesS (A B : Lab) : Bool := rleqS B A.up
def raltersS (A B : Lab) : Bool := rleqS A B && rseesS A B
theorem rsees_eq {A B : Lab} (hx : Rise 0 A.xs) (hy : Rise 0 B.xs) : rseesS A B = seesS A.d B.d A.xs B.xs := rleq_eq (A := B) (B := A.up) hy (Rise.up hx)
theorem ralters_eq {A B : Lab} (hx : Rise 0 A.xs) (hy : Rise 0 B.xs) : raltersS A B = altersS A.d B.d A.xs B.xs := by
  unfold raltersS altersS; rw [rsees_eq hx hy, rleq_eq hx hy]

end Go.Proofs.Ytonhdkldacghoaa
