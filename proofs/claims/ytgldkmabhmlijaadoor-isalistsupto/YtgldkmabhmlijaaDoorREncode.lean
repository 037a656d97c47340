/- What Encode of the reference answers, for every right instruction. -/
import Derived.Test.YtgldkmabhmlijaaDoorRef
import Derived.Test.YtgldkmabhmlijaaDoorEncode
namespace Go.Proofs.YtgldkmabhmlijaaDoor
open Go.RowKit Go.Sort
theorem right_lim {c : Cod} (h : rightC c = true) : (0 ≤ c.op ∧ c.op ≤ 26) ∧ (0 ≤ c.a ∧ c.a ≤ 15) ∧ (0 ≤ c.b ∧ c.b ≤ 15) ∧ (0 ≤ c.c ∧ c.c ≤ 15) ∧ (-32768 ≤ c.n ∧ c.n ≤ 65535) := by
  obtain ⟨op, a, b, d, n⟩ := c
  unfold rightC at h
  simp only [Bool.and_eq_true, decide_eq_true_eq] at h ⊢
  obtain ⟨h0, h1⟩ := h
  rcases sh_cases op with hs | hs | hs | hs | hs | hs | hs <;> simp [hs, reg, way, zer] at h1 <;> omega
end Go.Proofs.YtgldkmabhmlijaaDoor
