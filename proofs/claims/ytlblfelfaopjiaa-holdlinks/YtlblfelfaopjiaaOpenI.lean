/- A row of integers that is handed in. -/
import Derived.Test.YtlblfelfaopjiaaOpenH
import Derived.Test.YtlblfelfaopjiaaShiftsBase
import Derived.Lib.SmallJoins
namespace Go.Proofs.Ytlblfelfaopjiaa
open Go.ChangeShapes Go.WideShapes Go.ChangeAt Go.RowKit
section
variable {H : Type} {enc : TypeId × Value → H}
theorem cellsInt : Try.prog.cellsOf 3 = 1 := by kernel_rfl
set_option maxRecDepth 100000 in
theorem ints_open {W : World} {r : Reach} {b0 : Nat} {v : Value} {d : DataW H} {ps : List MemPlace} (hv : Value.okWide Try.prog W r b0 38 v) (h : DataW.Trod enc Try.prog W 0 (fun _ => true) true 38 v d ps) :
    ∃ (p : Option Addr) (cap : Nat) (xs : List Int), v = .slice p xs.length cap ∧ IntsAt W p xs ∧ ∀ x ∈ xs, -9223372036854775808 ≤ x ∧ x ≤ 9223372036854775807 := by
  obtain ⟨a0, len0, cap0, rfl⟩ := okWide_slice Try.underlying38 hv
  obtain ⟨fuel, hf⟩ := h
  have hcs0 : (Value.slice a0 len0 cap0).cells.toList = [.slice a0 len0 cap0] := by simp [Value.cells]
  rw [hcs0] at hf
  rcases Deep.open_slice Try.underlying38 hf with ⟨hcs, _⟩ | ⟨a, len, cap, m, k, D, Pl, hcs, hb, hl, hm, hmm, _, hx⟩
  · simp only [List.cons.injEq, and_true] at hcs
    exact ⟨none, 0, [], hcs, fun j hj => by simp at hj, fun x hx => by cases hx⟩
  · simp only [List.cons.injEq, and_true] at hcs
    rw [if_pos rfl] at hmm
    subst hmm
    rw [cellsInt] at hx
    have hcell : ∀ i, i < len → ∃ y : Int, W.cell? (a.add (i * 1)) = some (.int .i64 y) ∧ (-9223372036854775808 ≤ y ∧ y ≤ 9223372036854775807) := fun i hi => by
      obtain ⟨cs', h1, h2⟩ := hx i (by omega)
      obtain ⟨c, e0, _, hw⟩ := DataW.trod_int Try.underlying3 h2
      subst e0
      obtain ⟨_, _, hcell⟩ := World.cells?_some h1
      have k0 := hcell 0 (by decide)
      exact ⟨c, by simpa [Addr.add] using k0, int_range hw⟩
    obtain ⟨f, hf'⟩ := Deep.choose_lt hcell
    refine ⟨some a, m, (List.range len).map f, by simpa using hcs, ?_, ?_⟩
    · intro j hj
      have hj' : j < len := by simpa using hj
      obtain ⟨e0, _⟩ := hf' j hj'
      have ha : a = ⟨a.block, a.off, none⟩ := by
        have hs := spot_none (hf' 0 (by omega)).1
        simpa [Addr.add] using hs
      have hblk : a.block < W.heap.size := by
        obtain ⟨cs', h1, _⟩ := hx j (by omega)
        have := World.cells?_block h1 (by decide)
        obtain ⟨b, o, s⟩ := a
        simp only [Addr.add] at this
        split at this <;> simpa using this
      rw [ha, addr_at, Nat.mul_one] at e0
      exact ⟨a.block, a.off, by rw [← ha], hblk, by simpa using e0⟩
    · intro x hx'
      obtain ⟨i, hi, rfl⟩ := List.mem_map.1 hx'
      exact (hf' i (List.mem_range.1 hi)).2
end
end Go.Proofs.Ytlblfelfaopjiaa
