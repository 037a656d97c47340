/- What Over of package cpu does. -/
import Derived.Test.YtblhikmhmnkclaaStep
import Derived.Laws.Tables
namespace Go.Proofs.Ytblhikmhmnkclaa
open Go.RowKit Go.Lib
/-- A row of steps: registers, place, bytes, how many Ran, and what is told. -/
def overS : Nat → List Int → Int → List UInt8 → List Int × Int × List UInt8 × Nat × Int
  | 0, r, pc, d => (r, pc, d, 0, 0)
  | k + 1, r, pc, d =>
    if (stepS r pc d).2.2.2 = 0 then
      ((overS k (stepS r pc d).1 (stepS r pc d).2.1 (stepS r pc d).2.2.1).1, (overS k (stepS r pc d).1 (stepS r pc d).2.1 (stepS r pc d).2.2.1).2.1, (overS k (stepS r pc d).1 (stepS r pc d).2.1 (stepS r pc d).2.2.1).2.2.1,
       (overS k (stepS r pc d).1 (stepS r pc d).2.1 (stepS r pc d).2.2.1).2.2.2.1 + 1, (overS k (stepS r pc d).1 (stepS r pc d).2.1 (stepS r pc d).2.2.1).2.2.2.2)
    else ((stepS r pc d).1, (stepS r pc d).2.1, (stepS r pc d).2.2.1, 0, (stepS r pc d).2.2.2)
/-- A state as a value. -/
def stV (r : List Int) (pc : Int) : Value := .agg (stC r pc).toArray
theorem set_keep {α : Type} (p : α → Prop) (l : List α) (i : Nat) (x : α) (h : ∀ y ∈ l, p y) (hx : p x) : ∀ y ∈ l.set i x, p y := fun y hy => by
  rcases List.mem_or_eq_of_mem_set hy with h1 | h1
  · exact h y h1
  · subst h1; exact hx
theorem bits_ok (o : BinOp) (b c : Int) : u64ok (bits o IntKind.u64 b c) := by
  unfold bits
  exact u64ok_wrap _
theorem ite_ok {p : Prop} [Decidable p] {x y : Int} (hx : u64ok x) (hy : u64ok y) : u64ok (if p then x else y) := by split <;> assumption
theorem remI_ok {b c : Int} (hb : u64ok b) (hc : u64ok c) : u64ok (remI b c) := by
  unfold remI
  by_cases h0 : c = 0
  · rw [if_pos h0]; exact hb
  · rw [if_neg h0]
    obtain ⟨b1, b2⟩ := hb
    obtain ⟨c1, c2⟩ := hc
    rw [Int.tmod_eq_emod_of_nonneg b1]
    have := Int.emod_nonneg b h0
    have := Int.emod_lt_of_pos b (show 0 < c by omega)
    exact ⟨by omega, by omega⟩
theorem shr_ok {b : Int} (k : Nat) (hb : u64ok b) : u64ok (b / 2 ^ k) := by
  obtain ⟨b1, b2⟩ := hb
  have h1 : 0 ≤ b / 2 ^ k := Int.ediv_nonneg b1 (Int.le_of_lt (Int.pow_pos (by decide)))
  have h2 : b / 2 ^ k ≤ b := Int.ediv_le_self _ b1
  exact ⟨h1, by omega⟩
theorem one_ok : u64ok 1 := by unfold u64ok; omega
theorem zero_ok : u64ok 0 := by unfold u64ok; omega
theorem resI_ok {op n a b c : Int} (ha : u64ok a) (hb : u64ok b) (hc : u64ok c) : u64ok (resI op n a b c) :=
  ite_ok (u64ok_wrap _) (ite_ok (u64ok_wrap _) (ite_ok hb (ite_ok (u64ok_wrap _) (ite_ok (u64ok_wrap _) (ite_ok (u64ok_wrap _) (ite_ok (ite_ok (by unfold u64ok; omega) (u64ok_wrap _)) (ite_ok (remI_ok hb hc)
    (ite_ok (bits_ok _ _ _) (ite_ok (bits_ok _ _ _) (ite_ok (bits_ok _ _ _) (ite_ok (u64ok_wrap _) (ite_ok (shr_ok _ hb) (ite_ok (ite_ok one_ok zero_ok) (ite_ok (ite_ok one_ok zero_ok) ha))))))))))))))
theorem numL_ok (l : List UInt8) (h : l.length ≤ 8) : u64ok (numL l : Nat) := by
  have h1 := numL_lt l
  have h2 : (2 : Nat) ^ (8 * l.length) ≤ 2 ^ 64 := Nat.pow_le_pow_right (by decide) (by omega)
  unfold u64ok; omega
theorem brI_ok {op n next a : Int} (h : u64ok next) : u64ok (brI op n next a) := by
  unfold brI; split
  · exact h
  · exact u64ok_wrap _
theorem doS_ok {c : Cod} {r : List Int} {pc : Int} {d : List UInt8} (hc : rightI c = true) (hk : okR r pc) : okR (doS c r pc d).1 (doS c r pc d).2.1 ∧ (doS c r pc d).2.2.1.length = d.length := by
  obtain ⟨h1, ha, hb, hz, hn⟩ := rightI_b hc
  have hnx : u64ok (nxI pc) := u64ok_wrap _
  have ga := hk.get c.a.toNat (by omega)
  have gb := hk.get c.b.toNat (by omega)
  have gz := hk.get c.c.toNat (by omega)
  unfold doS
  split
  · exact ⟨hk, rfl⟩
  split
  · exact ⟨hk.pc hnx, rfl⟩
  split
  · exact ⟨hk.pc hnx, rfl⟩
  split
  · exact ⟨(hk.pc hnx).set _ (resI_ok ga gb gz), rfl⟩
  split
  · split
    · split
      · refine ⟨(hk.pc hnx).set _ (numL_ok _ ?_), rfl⟩
        simp [szI]; split <;> omega
      · exact ⟨hk.pc hnx, over_len _ _ _⟩
    · exact ⟨hk, rfl⟩
  split
  · exact ⟨hk.pc (brI_ok hnx), rfl⟩
  split
  · exact ⟨(hk.pc gb).set _ hnx, rfl⟩
  exact ⟨hk.pc (hk.get 15 (by omega)), rfl⟩
theorem stepS_ok {r : List Int} {pc : Int} {d : List UInt8} (hk : okR r pc) : okR (stepS r pc d).1 (stepS r pc d).2.1 ∧ (stepS r pc d).2.2.1.length = d.length := by
  unfold stepS
  split
  · split
    · rename_i c hc; exact doS_ok (decC_right hc) hk
    · exact ⟨hk, rfl⟩
  · exact ⟨hk, rfl⟩
theorem overS_ok : ∀ (k : Nat) {r : List Int} {pc : Int} {d : List UInt8}, okR r pc → okR (overS k r pc d).1 (overS k r pc d).2.1 ∧ (overS k r pc d).2.2.1.length = d.length
  | 0, _, _, _, hk => ⟨hk, rfl⟩
  | k + 1, r, pc, d, hk => by
    obtain ⟨h1, h2⟩ := stepS_ok (d := d) hk
    unfold overS
    split
    · obtain ⟨h3, h4⟩ := overS_ok k (d := (stepS r pc d).2.2.1) h1
      exact ⟨h3, h4.trans h2⟩
    · exact ⟨h1, h2⟩
end Go.Proofs.Ytblhikmhmnkclaa
