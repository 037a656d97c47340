/- Does of the reference, as the program's step. -/
import Derived.Test.YtbccckjkmlmhhaaDoes2
import Derived.Test.YtbccckjkmlmhhaaDoes3
import Derived.Test.YtbccckjkmlmhhaaDoes4
import Derived.Test.YtbccckjkmlmhhaaDoes5
import Derived.Test.YtbccckjkmlmhhaaReckons
namespace Go.Proofs.Ytbccckjkmlmhhaa
open Go.RowKit Go.Lib
theorem way_p {n nx : Int} (h0 : ¬ n < 0) (h1 : n ≤ 65535) : IntKind.u64.wrap (nx + IntKind.u64.wrap (wrap64 (4 * n))) = IntKind.u64.wrap (nx + IntKind.u64.wrap (4 * IntKind.u64.wrap n)) := by
  rw [wrap64_id (by omega) (by omega)]
  simp only [IntKind.wrap_u64]
  omega
theorem way_n {n nx : Int} (h0 : n < 0) (h1 : -32768 ≤ n) : IntKind.u64.wrap (nx - IntKind.u64.wrap (wrap64 (-4 * n))) = IntKind.u64.wrap (nx + IntKind.u64.wrap (4 * IntKind.u64.wrap n)) := by
  rw [wrap64_id (by omega) (by omega)]
  simp only [IntKind.wrap_u64]
  omega
theorem right_n {c : Cod} (h : rightI c = true) (hop : ¬ (22 ≤ c.op ∧ c.op ≤ 24)) : ¬ c.n < 0 := by
  unfold rightI okW at h
  rcases sh_cases c.op with hs | hs | hs | hs | hs | hs | hs
  all_goals rw [hs] at h; simp [rst, wd, wth, fld, lowW, highW, cod_eq] at h
  all_goals try omega
  all_goals (unfold sh at hs; exfalso; revert hs; (repeat' split) <;> omega)
theorem br23n {n nx x : Int} (h : x ≠ 0) : brI 23 n nx x = nx := by unfold brI; rw [if_pos (.inl ⟨rfl, h⟩)]
theorem br23y {n nx x : Int} (h : x = 0) : brI 23 n nx x = IntKind.u64.wrap (nx + IntKind.u64.wrap (4 * IntKind.u64.wrap n)) := by
  unfold brI; rw [if_neg]; rintro (⟨_, h'⟩ | ⟨h', _⟩)
  · exact h' h
  · exact absurd h' (by decide)
theorem br24n {n nx x : Int} (h : x = 0) : brI 24 n nx x = nx := by unfold brI; rw [if_pos (.inr ⟨rfl, h⟩)]
theorem br24y {n nx x : Int} (h : x ≠ 0) : brI 24 n nx x = IntKind.u64.wrap (nx + IntKind.u64.wrap (4 * IntKind.u64.wrap n)) := by
  unfold brI; rw [if_neg]; rintro (⟨h', _⟩ | ⟨_, h'⟩)
  · exact absurd h' (by decide)
  · exact h h'
/-- What Does comes to, where the memory was there. -/
theorem Does_any (c : Cod) (r : List Int) (pc : Int) (d : List UInt8) (sb : ByteArray) (w : World) (hc : rightI c = true) (hk : okR r pc)
    (hf : 18 ≤ c.op ∧ c.op ≤ 21 → adI (r.getD c.b.toNat 0) c.n + szI c.op ≤ d.length ∧ (c.op = 18 ∨ c.op = 20 → sb = ⟨((d.drop (adI (r.getD c.b.toNat 0) c.n).toNat).take (szI c.op)).toArray⟩)) :
    Calls Try.prog 24 #[.agg (stC r pc).toArray, c.v, .string sb] w (DoesP w (doS c r pc d).1 (doS c r pc d).2.1 (doS c r pc d).2.2.2) := by
  obtain ⟨h1, ha, hb, hz, hn⟩ := rightI_b hc
  have hng := right_n hc
  obtain ⟨op, ca, cb, cz, n⟩ := c
  simp only at h1 ha hb hz hn hng hf
  obtain ⟨a, rfl⟩ : ∃ a : Nat, ca = a := ⟨ca.toNat, by omega⟩
  obtain ⟨b, rfl⟩ : ∃ b : Nat, cb = b := ⟨cb.toNat, by omega⟩
  obtain ⟨z, rfl⟩ : ∃ z : Nat, cz = z := ⟨cz.toNat, by omega⟩
  have hreg : a < 16 ∧ b < 16 ∧ z < 16 := by omega
  simp only [Int.toNat_natCast] at hf
  unfold doS
  simp only [Int.toNat_natCast, Cod.v]
  by_cases o0 : op = 0
  · subst o0; rw [if_pos rfl]; exact does_halt n a b z r pc sb w (hng (by omega)) hreg hk
  rw [if_neg o0]
  by_cases o1 : op = 1
  · subst o1; rw [if_pos rfl]; exact does_nop n 1 a b z r pc sb w (hng (by omega)) (.inl rfl) hreg hk
  rw [if_neg o1]
  by_cases o2 : op = 2
  · subst o2; rw [if_pos rfl]; exact does_sys n a b z r pc sb w (hng (by omega)) hreg hk
  rw [if_neg o2]
  by_cases o3 : 3 ≤ op ∧ op ≤ 17
  · rw [if_pos o3]
    by_cases p3 : op = 3
    · subst p3; exact does_set n a b z r pc sb w (hng (by omega)) hreg hk
    by_cases p4 : op = 4
    · subst p4; exact does_more n _ _ _ _ a b z r pc sb w (hng (by omega)) ⟨rfl, rfl, rfl⟩ rfl hreg hk
    by_cases p5 : op = 5
    · subst p5; exact does_move n _ _ _ _ a b z r pc sb w (hng (by omega)) ⟨rfl, rfl, rfl⟩ rfl hreg hk
    · have := does_reck n op _ _ _ _ a b z r pc sb w (hng (by omega)) (by omega) ⟨rfl, rfl, rfl⟩ rfl hreg hk
      rw [resI_alone (by omega), if_pos (by omega)]
      exact this
  rw [if_neg o3]
  by_cases o4 : 18 ≤ op ∧ op ≤ 21
  · rw [if_pos o4]
    obtain ⟨hfit, hsb⟩ := hf o4
    rw [if_pos hfit]
    by_cases ol : op = 18 ∨ op = 20
    · rw [if_pos ol]
      have hl8 : ((d.drop (adI (r.getD b 0) n).toNat).take (szI op)).length ≤ 8 := by simp [szI]; split <;> omega
      rcases ol with rfl | rfl
      · exact does_val18 n _ _ _ _ _ a b z r pc sb w (hng (by omega)) hl8 (hsb (.inl rfl)) ⟨rfl, rfl, rfl⟩ rfl hreg hk
      · exact does_val20 n _ _ _ _ _ a b z r pc sb w (hng (by omega)) hl8 (hsb (.inr rfl)) ⟨rfl, rfl, rfl⟩ rfl hreg hk
    · rw [if_neg ol]
      exact does_nop n op a b z r pc sb w (hng (by omega)) (by omega) hreg hk
  rw [if_neg o4]
  by_cases o5 : 22 ≤ op ∧ op ≤ 24
  · rw [if_pos o5]
    by_cases hneg : n < 0
    · have hw : IntKind.u64.wrap (IntKind.u64.wrap (pc + 4) - IntKind.u64.wrap (wrap64 (-4 * n))) = IntKind.u64.wrap (nxI pc + IntKind.u64.wrap (4 * IntKind.u64.wrap n)) := way_n hneg (by omega)
      rcases (show op = 22 ∨ op = 23 ∨ op = 24 by omega) with rfl | rfl | rfl
      · have := does_gon n a b z r pc sb w hneg hreg hk; rw [hw] at this; exact this
      · by_cases hx : r.getD a 0 = 0
        · have := does_zero_yesn n a b z r pc sb w hneg hx hreg hk; rw [hw] at this; rw [br23y hx]; exact this
        · have := does_zero_non n a b z r pc sb w hneg hx hreg hk; rw [br23n hx]; exact this
      · by_cases hx : r.getD a 0 = 0
        · have := does_not_non n a b z r pc sb w hneg hx hreg hk; rw [br24n hx]; exact this
        · have := does_not_yesn n a b z r pc sb w hneg hx hreg hk; rw [hw] at this; rw [br24y hx]; exact this
    · have hw : IntKind.u64.wrap (IntKind.u64.wrap (pc + 4) + IntKind.u64.wrap (wrap64 (4 * n))) = IntKind.u64.wrap (nxI pc + IntKind.u64.wrap (4 * IntKind.u64.wrap n)) := way_p hneg (by omega)
      rcases (show op = 22 ∨ op = 23 ∨ op = 24 by omega) with rfl | rfl | rfl
      · have := does_gop n a b z r pc sb w hneg hreg hk; rw [hw] at this; exact this
      · by_cases hx : r.getD a 0 = 0
        · have := does_zero_yesp n a b z r pc sb w hneg hx hreg hk; rw [hw] at this; rw [br23y hx]; exact this
        · have := does_zero_nop n a b z r pc sb w hneg hx hreg hk; rw [br23n hx]; exact this
      · by_cases hx : r.getD a 0 = 0
        · have := does_not_nop n a b z r pc sb w hneg hx hreg hk; rw [br24n hx]; exact this
        · have := does_not_yesp n a b z r pc sb w hneg hx hreg hk; rw [hw] at this; rw [br24y hx]; exact this
  rw [if_neg o5]
  by_cases o6 : op = 25
  · subst o6; rw [if_pos rfl]; exact does_call n _ a b z r pc sb w (hng (by omega)) rfl hreg hk
  rw [if_neg o6]
  obtain rfl : op = 26 := by omega
  exact does_back n _ a b z r pc sb w (hng (by omega)) rfl hreg hk
end Go.Proofs.Ytbccckjkmlmhhaa
