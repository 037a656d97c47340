/- Plain facts of Enter. -/
import Derived.Test.YtnjmgholoigpkaaREnt
namespace Go.Proofs.Ytnjmgholoigpkaa
open Go.RowKit Go.Sort
theorem flo_eq (x y : Int) (hx : 0 ≤ x ∧ x ≤ 5) (hy : 0 ≤ y ∧ y ≤ 5) : flo (max (ot 0 5 x) (ot 0 5 y)) = if x = 0 then 0 else if y = 0 then 0 else if x = 5 then 0 else if y = 5 then 0 else max x y := by
  have hx' : x = 0 ∨ x = 1 ∨ x = 2 ∨ x = 3 ∨ x = 4 ∨ x = 5 := by omega
  have hy' : y = 0 ∨ y = 1 ∨ y = 2 ∨ y = 3 ∨ y = 4 ∨ y = 5 := by omega
  rcases hx' with rfl | rfl | rfl | rfl | rfl | rfl <;> rcases hy' with rfl | rfl | rfl | rfl | rfl | rfl <;> decide
theorem flZ_eq {t g : ML} (ht : OkL t) (hg : OkL g) (c : Int) : flZ t g c = flo (max (ot 0 5 (aM t c)) (ot 0 5 (aM g c))) := by
  rw [flo_eq _ _ (ht.lo c) (hg.lo c)]
  unfold flZ
  rw [aZ_at ht, aZ_at hg]
theorem ent_iff {t g want : ML} (ht : OkL t) (hg : OkL g) (hw : OkL want) : (nmM [t, g, want] ++ [0]).all (entP t g want) = true ↔ ∀ c, flo (max (ot 0 5 (aM t c)) (ot 0 5 (aM g c))) ≤ aM want c := by
  have e : ∀ c, entP t g want c = decide (flo (max (ot 0 5 (aM t c)) (ot 0 5 (aM g c))) ≤ aM want c) := fun c => by
    unfold entP
    rw [flZ_eq ht hg, aZ_at hw]
  rw [all0_iff (fun c hc => ?_)]
  · constructor
    · intro h c; have := h c; rw [e] at this; simpa using this
    · intro h c; rw [e]; simpa using h c
  · rw [e, e]
    have m1 : t ∈ [t, g, want] := List.mem_cons_self ..
    have m2 : g ∈ [t, g, want] := List.mem_cons_of_mem _ (List.mem_cons_self ..)
    have m3 : want ∈ [t, g, want] := List.mem_cons_of_mem _ (List.mem_cons_of_mem _ (List.mem_cons_self ..))
    rw [ht.out (nm_mem m1 hc), hg.out (nm_mem m2 hc), hw.out (nm_mem m3 hc)]
theorem allow_say4' (a b c d : Bool) : allowI [a, b, c, d] = sayI (((a && c) && d) && b) := by cases a <;> cases b <;> cases c <;> cases d <;> rfl
theorem enter_eq {t c g gc want wc : ML} (ht : OkL t) (hc : OkL c) (hg : OkL g) (hgc : OkL gc) (hw : OkL want) (hwc : OkL wc) : enterI t c g gc want wc = renterI t c g gc want wc := by
  have e : undB (fl t g) (gr [want]) (namL [t, g, want]) = (nmM [t, g, want] ++ [0]).all (entP t g want) := by
    rw [Bool.eq_iff_iff, undF_iff ht hg hw, ent_iff ht hg hw]
  unfold enterI renterI
  rw [allow_say4', e, eq1 ht hgc, eq1 hw hwc, eq2 hwc hc hgc]
end Go.Proofs.Ytnjmgholoigpkaa
