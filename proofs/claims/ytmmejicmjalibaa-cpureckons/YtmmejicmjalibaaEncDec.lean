/- An instruction comes back from its bytes. -/
import Derived.Test.YtmmejicmjalibaaDecodeM
import Derived.Test.YtmmejicmjalibaaREncode
namespace Go.Proofs.Ytmmejicmjalibaa
open Go.RowKit
theorem by_q4s (q : Q4) (hq : okQ q) : (q4s q).size = 4 ∧ (byS (q4s q) 0 : Int) = q.1 ∧ (byS (q4s q) 1 : Int) = q.2.1 ∧ (byS (q4s q) 2 : Int) = q.2.2.1 ∧ (byS (q4s q) 3 : Int) = q.2.2.2 := by
  have h4 : (q4s q).size = 4 := rfl
  have := (q4s_eq q (q4s q) h4 hq).1 rfl
  exact ⟨h4, this.1.symm, this.2.1.symm, this.2.2.1.symm, this.2.2.2.symm⟩
theorem enc_dec (c : Cod) (h : rightC c = true) : decC (q4s (bytesC c)) = some c := by
  obtain ⟨l1, l2, l3, l4, l5⟩ := right_lim h
  obtain ⟨h4, e0, e1, e2, e3⟩ := by_q4s (bytesC c) (bytesC_ok c)
  have hr : rdC (q4s (bytesC c)) = c := by
    have h' := h
    unfold rightC at h'
    simp only [Bool.and_eq_true, decide_eq_true_eq] at h'
    have h1 := h'.2
    have e0' : (byS (q4s (bytesC c)) 0 : Int) = c.op := by
      rw [e0]
      rcases sh_cases c.op with hs | hs | hs | hs | hs | hs | hs <;> simp [bytesC, hs, pk, pkW, wd] <;> omega
    generalize hb0 : byS (q4s (bytesC c)) 0 = b0 at *
    generalize hb1 : byS (q4s (bytesC c)) 1 = b1 at *
    generalize hb2 : byS (q4s (bytesC c)) 2 = b2 at *
    generalize hb3 : byS (q4s (bytesC c)) 3 = b3 at *
    unfold rdC
    rw [hb0, hb1, hb2, hb3, e0']
    clear hb0 hb1 hb2 hb3
    obtain ⟨op, a, b, d, n⟩ := c
    simp only at *
    rcases sh_cases op with hs | hs | hs | hs | hs | hs | hs <;> simp [bytesC, hs, pk, pkW, wd] at e1 e2 e3 <;> simp [hs, reg, way, zer] at h1 <;> simp [hs]
    · omega
    · omega
    · omega
    · omega
    · omega
    · split <;> simp <;> omega
    · split <;> simp <;> omega
  rw [dec_eq _ h4, hr, if_pos h]
end Go.Proofs.Ytmmejicmjalibaa
