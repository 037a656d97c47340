/- Decode undoes Encode; IsaBack walks, once lives answers true. -/
import Derived.Test.YtgldkmabhmlijaaDoorDecodesLaw
import Derived.Test.YtgldkmabhmlijaaDoorParM
namespace Go.Proofs.YtgldkmabhmlijaaDoor
open Go.RowKit Go.Sort
theorem by_q4s (q : Q4) (hq : okQ q) : (q4s q).size = 4 ∧ (byS (q4s q) 0 : Int) = q.1 ∧ (byS (q4s q) 1 : Int) = q.2.1 ∧ (byS (q4s q) 2 : Int) = q.2.2.1 ∧ (byS (q4s q) 3 : Int) = q.2.2.2 := by
  have h4 : (q4s q).size = 4 := rfl
  have := (q4s_eq q (q4s q) h4 hq).1 rfl
  exact ⟨h4, this.1.symm, this.2.1.symm, this.2.2.1.symm, this.2.2.2.symm⟩
theorem enc_dec (c : Cod) (h : rightC c = true) : decC (q4s (bytesC c)) = some c := by
  obtain ⟨l1, l2, l3, l4, l5⟩ := right_lim h
  obtain ⟨h4, e0, e1, e2, e3⟩ := by_q4s (bytesC c) (bytesC_ok c)
  have hr : rdC (q4s (bytesC c)) = c := by
    have h' := h
    unfold rightC at h'
    simp only [Bool.and_eq_true, decide_eq_true_eq] at h'
    have h1 := h'.2
    have e0' : (byS (q4s (bytesC c)) 0 : Int) = c.op := by
      rw [e0]
      rcases sh_cases c.op with hs | hs | hs | hs | hs | hs | hs <;> simp [bytesC, hs, pk, pkW, wd] <;> omega
    generalize hb0 : byS (q4s (bytesC c)) 0 = b0 at *
    generalize hb1 : byS (q4s (bytesC c)) 1 = b1 at *
    generalize hb2 : byS (q4s (bytesC c)) 2 = b2 at *
    generalize hb3 : byS (q4s (bytesC c)) 3 = b3 at *
    unfold rdC
    rw [hb0, hb1, hb2, hb3, e0']
    clear hb0 hb1 hb2 hb3
    obtain ⟨op, a, b, d, n⟩ := c
    simp only at *
    rcases sh_cases op with hs | hs | hs | hs | hs | hs | hs <;> simp [bytesC, hs, pk, pkW, wd] at e1 e2 e3 <;> simp [hs, reg, way, zer] at h1 <;> simp [hs]
    · omega
    · omega
    · omega
    · omega
    · omega
    · split <;> simp <;> omega
    · split <;> simp <;> omega
  rw [dec_eq _ h4, hr, if_pos h]
theorem bytes_inj {c d : Cod} (hc : rightC c = true) (hd : rightC d = true) (h : q4s (bytesC c) = q4s (bytesC d)) : c = d := by
  have h1 := enc_dec c hc
  rw [h] at h1
  exact Option.some.inj (h1.symm.trans (enc_dec d hd))
theorem cod_ext {c d : Cod} (h0 : c.op = d.op) (h1 : c.a = d.a) (h2 : c.b = d.b) (h3 : c.c = d.c) (h4 : c.n = d.n) : c = d := by
  cases c; cases d; simp_all
end Go.Proofs.YtgldkmabhmlijaaDoor
