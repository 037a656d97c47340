/- CpuLittle answers true. -/
import Derived.Test.YtbccckjkmlmhhaaEqS
namespace Go.Proofs.Ytbccckjkmlmhhaa
open Go.RowKit Go.Lib
/-- What a step may turn. -/
def Shp (r : List Int) (pc : Int) (d : List UInt8) (x : List Int × Int × List UInt8 × Int) : Prop :=
  (∃ what : Int, (what = 2 ∨ what = 3 ∨ what = 4) ∧ x = (r, pc, d, what)) ∨ x = (r, nxI pc, d, 1) ∨ (∃ k y pc', x = (r.set k y, pc', d, 0)) ∨ (∃ pc' ad s, s.length ≤ 8 ∧ x = (r, pc', over d ad s, 0)) ∨ (∃ pc', x = (r, pc', d, 0))
theorem doS_shp (c : Cod) (r : List Int) (pc : Int) (d : List UInt8) : Shp r pc d (doS c r pc d) := by
  unfold doS
  split
  · exact .inl ⟨2, .inl rfl, rfl⟩
  split
  · exact .inr (.inr (.inr (.inr ⟨_, rfl⟩)))
  split
  · exact .inr (.inl rfl)
  split
  · exact .inr (.inr (.inl ⟨_, _, _, rfl⟩))
  split
  · split
    · split
      · exact .inr (.inr (.inl ⟨_, _, _, rfl⟩))
      · exact .inr (.inr (.inr (.inl ⟨_, _, _, by rw [eightR_len]; unfold szI; split <;> omega, rfl⟩)))
    · exact .inl ⟨3, .inr (.inl rfl), rfl⟩
  split
  · exact .inr (.inr (.inr (.inr ⟨_, rfl⟩)))
  split
  · exact .inr (.inr (.inl ⟨_, _, _, rfl⟩))
  exact .inr (.inr (.inr (.inr ⟨_, rfl⟩)))
theorem stepS_shp (r : List Int) (pc : Int) (d : List UInt8) : Shp r pc d (stepS r pc d) := by
  unfold stepS
  split
  · split
    · exact doS_shp _ _ _ _
    · exact .inl ⟨4, .inr (.inr rfl), rfl⟩
  · exact .inl ⟨3, .inr (.inl rfl), rfl⟩
theorem overS_one (r : List Int) (pc : Int) (d : List UInt8) : overS 1 r pc d = ((stepS r pc d).1, (stepS r pc d).2.1, (stepS r pc d).2.2.1, (if (stepS r pc d).2.2.2 = 0 then 1 else 0), (stepS r pc d).2.2.2) := by
  obtain ⟨x, hx⟩ : ∃ x, stepS r pc d = x := ⟨_, rfl⟩
  obtain ⟨r2, pc2, d2, what⟩ := x
  by_cases h : what = 0
  · subst h
    rw [overS_ran hx, hx]; rfl
  · rw [overS_stop hx h, hx]; simp [h]
/-- How many registers are unlike, of the first k. -/
def cntD (r r2 : List Int) (k : Nat) : Nat := ((List.range k).filter fun j => decide (r2.getD j 0 ≠ r.getD j 0)).length
theorem cntD_succ (r r2 : List Int) (k : Nat) : cntD r r2 (k + 1) = cntD r r2 k + (if r2.getD k 0 ≠ r.getD k 0 then 1 else 0) := by
  unfold cntD; rw [List.range_succ, List.filter_append, List.length_append]; congr 1
  by_cases h : r2.getD k 0 = r.getD k 0
  · rw [if_neg (by rw [h]; simp), List.filter_cons_of_neg (by rw [h]; simp)]; rfl
  · rw [if_pos h, List.filter_cons_of_pos (by simpa using h)]; rfl
theorem cntD_le (r r2 : List Int) (k : Nat) : cntD r r2 k ≤ k := by
  have := List.length_filter_le (fun j => decide (r2.getD j 0 ≠ r.getD j 0)) (List.range k); simpa [cntD] using this
theorem cntD_same (r : List Int) (k : Nat) : cntD r r k = 0 := by unfold cntD; simp
theorem cntD_set (r : List Int) (i : Nat) (y : Int) (k : Nat) : cntD r (r.set i y) k ≤ 1 := by
  have h : ∀ k, cntD r (r.set i y) k ≤ (if i < k then 1 else 0) := by
    intro k
    induction k with
    | zero => simp [cntD]
    | succ k ih =>
      rw [cntD_succ]
      by_cases hi : i = k
      · subst hi
        rw [if_neg (by omega)] at ih
        split <;> simp <;> omega
      · have : (r.set i y).getD k 0 = r.getD k 0 := by rw [List.getD_eq_getElem?_getD, List.getElem?_set_ne hi, List.getD_eq_getElem?_getD]
        rw [if_neg (by rw [this]; simp)]
        split at ih <;> split <;> omega
  have := h k
  split at this <;> omega
/-- The first and the last place at which bytes are unlike, of the first k. -/
def Ends (d d2 : List UInt8) (k : Nat) (f l : Int) : Prop :=
  (f = -1 ∧ l = -1 ∧ ∀ j, j < k → d.getD j 0 = d2.getD j 0) ∨ ∃ a b : Nat, f = a ∧ l = b ∧ a < k ∧ b < k ∧ a ≤ b ∧ d.getD a 0 ≠ d2.getD a 0 ∧ d.getD b 0 ≠ d2.getD b 0
theorem Ends.same {d : List UInt8} {k : Nat} {f l : Int} (h : Ends d d k f l) : f = -1 ∧ l = -1 := by
  rcases h with ⟨h1, h2, _⟩ | ⟨a, b, _, _, _, _, _, h3, _⟩
  · exact ⟨h1, h2⟩
  · exact absurd rfl h3
theorem Ends.near {d s : List UInt8} {ad k : Nat} {f l : Int} (hs : s.length ≤ 8) (hk : k ≤ d.length) (h : Ends d (over d ad s) k f l) : l - f < 8 := by
  rcases h with ⟨h1, h2, _⟩ | ⟨a, b, h1, h2, h3, h4, h5, h6, h7⟩
  · omega
  · rw [over_get _ _ _ _ (by omega)] at h6 h7
    have q1 : ad ≤ a ∧ a - ad < s.length := by
      apply Classical.byContradiction; intro hn; rw [if_neg hn] at h6; exact h6 rfl
    have q2 : ad ≤ b ∧ b - ad < s.length := by
      apply Classical.byContradiction; intro hn; rw [if_neg hn] at h7; exact h7 rfl
    omega
theorem Ends.step {d d2 : List UInt8} {k : Nat} {f l : Int} (h : Ends d d2 k f l) : Ends d d2 (k + 1) (if d.getD k 0 = d2.getD k 0 then f else if f < 0 then k else f) (if d.getD k 0 = d2.getD k 0 then l else k) := by
  by_cases hd : d.getD k 0 = d2.getD k 0
  · rw [if_pos hd, if_pos hd]
    rcases h with ⟨h1, h2, h3⟩ | ⟨a, b, h1, h2, h3, h4, h5, h6, h7⟩
    · exact .inl ⟨h1, h2, fun j hj => by rcases Nat.lt_succ_iff_lt_or_eq.1 hj with q | rfl; exact h3 j q; exact hd⟩
    · exact .inr ⟨a, b, h1, h2, by omega, by omega, h5, h6, h7⟩
  · rw [if_neg hd, if_neg hd]
    rcases h with ⟨h1, h2, h3⟩ | ⟨a, b, h1, h2, h3, h4, h5, h6, h7⟩
    · rw [if_pos (by omega)]
      exact .inr ⟨k, k, rfl, rfl, by omega, by omega, Nat.le_refl _, hd, hd⟩
    · rw [if_neg (by omega)]
      exact .inr ⟨a, k, h1, rfl, by omega, by omega, by omega, h6, hd⟩
theorem below_setRow {n : Nat} {w w' : World} (h : Below n w w') {g : Nat} (hg : n ≤ g) (cs : Array Value) : Below n w (w'.setRow g cs) :=
  ⟨h.os, h.tape, h.output, by rw [size_setRow]; exact h.size, fun k hk => (heap_setRow_ne _ _ _ (by omega)).trans (h.block k hk)⟩
end Go.Proofs.Ytbccckjkmlmhhaa
