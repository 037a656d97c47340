/- What fits is plain, or free. -/
import Derived.Test.YtebcnlhgkpaghaaRefL
namespace Go.Proofs.Ytebcnlhgkpaghaa
open Go.RowKit Go.Sort
theorem hasS_no {d l : Int} {xs : List (Int × Int)} : hasS d xs l = false ↔ d ≠ l ∧ ∀ x ∈ xs, x.2 ≠ l := by
  unfold hasS
  simp [List.any_eq_false]
  exact And.comm
theorem canL_iff {f n : Int} (hf : f = 0 ∨ f = 1) : canL f n = true ↔ lev n = true ∧ n ≠ 5 ∧ (f = 1 → n ≠ 0) := by
  unfold canL lev
  simp only [Bool.and_eq_true, decide_eq_true_eq]
  rcases hf with rfl | rfl <;> simp <;> omega
theorem fOk_iff (d f : Int) (hf : f = 0 ∨ f = 1) : ∀ (xs : List (Int × Int)) (last : Int), fOk d f last xs = true ↔ rOk d last xs = true ∧ ∀ x ∈ xs, x.2 ≠ 5 ∧ (f = 1 → x.2 ≠ 0)
  | [], last => by simp [fOk, rOk]
  | x :: xs, last => by
    have ih := fOk_iff d f hf xs x.1
    have hc := canL_iff (n := x.2) hf
    simp only [fOk, rOk, can, Bool.and_eq_true, ih, hc, List.mem_cons, forall_eq_or_imp]
    constructor
    · rintro ⟨⟨⟨⟨h1, h2⟩, h3⟩, h4, h5, h6⟩, h7, h8⟩
      exact ⟨⟨⟨⟨⟨h2, h4⟩, h3⟩, h1⟩, h7⟩, ⟨h5, h6⟩, h8⟩
    · rintro ⟨⟨⟨⟨⟨h2, h4⟩, h3⟩, h1⟩, h7⟩, ⟨h5, h6⟩, h8⟩
      exact ⟨⟨⟨⟨h1, h2⟩, h3⟩, h4, h5, h6⟩, h7, h8⟩
theorem fits_iff (d f : Int) (hf : f = 0 ∨ f = 1) (xs : List (Int × Int)) : fitsS d f xs = true ↔ plainS d xs = true ∧ (f = 1 → hasS d xs 0 = false) := by
  unfold fitsS plainS rightS
  simp only [Bool.and_eq_true, canL_iff hf, fOk_iff d f hf, Bool.not_eq_true', hasS_no]
  constructor
  · rintro ⟨⟨⟨h1, h2, h3⟩, h4⟩, h5, h6⟩
    exact ⟨⟨⟨⟨h1, h4⟩, h5⟩, h2, fun x hx => (h6 x hx).1⟩, fun e => ⟨h3 e, fun x hx => (h6 x hx).2 e⟩⟩
  · rintro ⟨⟨⟨⟨h1, h4⟩, h5⟩, h2, h6⟩, h7⟩
    exact ⟨⟨⟨h1, h2, fun e => (h7 e).1⟩, h4⟩, h5, fun x hx => ⟨h6 x hx, fun e => (h7 e).2 x hx⟩⟩
theorem fits_plain (d : Int) (xs : List (Int × Int)) : fitsS d 0 xs = plainS d xs := by
  rw [Bool.eq_iff_iff, fits_iff d 0 (.inl rfl)]
  simp
theorem fits_free (d : Int) (xs : List (Int × Int)) : fitsS d 1 xs = freeS d xs := by
  rw [Bool.eq_iff_iff, fits_iff d 1 (.inr rfl)]
  unfold freeS
  simp
end Go.Proofs.Ytebcnlhgkpaghaa
