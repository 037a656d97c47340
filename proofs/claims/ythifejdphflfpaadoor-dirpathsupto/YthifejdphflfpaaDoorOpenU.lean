/- A row of texts that is handed in, with how many bytes it has. -/
import Derived.Test.YthifejdphflfpaaDoorOpenD
import Derived.Test.YthifejdphflfpaaDoorJoin
namespace Go.Proofs.YthifejdphflfpaaDoor
open Go.ChangeShapes Go.WideShapes Go.ChangeAt Go.RowKit
theorem bulk_texts {H : Type} (l : List ByteArray) : Rows.uptoBulkAll (l.map fun s => (DataW.lit (.string s.data.toList) : DataW H)) = sumS l := by
  induction l with
  | nil => rfl
  | cons s l ih =>
    simp only [List.map_cons, Rows.uptoBulkAll, Rows.uptoBulk, ih]
    unfold sumS
    simp
section
variable {H : Type} {enc : TypeId × Value → H}
set_option maxRecDepth 100000 in
theorem texts_openU {W : World} {r : Reach} {b0 : Nat} {v : Value} {d : DataW H} {ps : List MemPlace} (hv : Value.okWide Tryd.prog W r b0 44 v) (h : DataW.Trod enc Tryd.prog W 0 (fun _ => true) true 44 v d ps) :
    ∃ (p : Option Addr) (cap : Nat) (xs : List ByteArray), v = .slice p xs.length cap ∧ TsAt W p xs ∧ xs.length ≤ cap ∧ sumS xs ≤ Rows.uptoBulk d := by
  obtain ⟨a0, len0, cap0, rfl⟩ := okWide_slice Tryd.underlying44 hv
  obtain ⟨fuel, hf⟩ := h
  have hcs0 : (Value.slice a0 len0 cap0).cells.toList = [.slice a0 len0 cap0] := by simp [Value.cells]
  rw [hcs0] at hf
  rcases Deep.open_strs Tryd.underlying44 Tryd.underlying9 cellsStr hf with ⟨hcs, _⟩ | ⟨a, len, cap, mm, Sx, hcs, hb, hle, hm, hmm, hxx, hcl⟩
  · simp only [List.cons.injEq, and_true] at hcs
    exact ⟨none, 0, [], hcs, fun j hj => by simp at hj, by simp, by unfold sumS; simp⟩
  · simp only [List.cons.injEq, and_true] at hcs
    rw [if_pos rfl] at hmm
    subst hmm
    refine ⟨some a, mm, (List.range len).map Sx, by simpa using hcs, fun j hj => ?_, by simpa using hle, ?_⟩
    · have hj' : j < len := by simpa using hj
      have ha : a = ⟨a.block, a.off, none⟩ := by
        have hs := spot_none (hcl 0 (by omega)).1
        simpa [Addr.add] using hs
      have hc := (hcl j (by omega)).1
      rw [ha, addr_at] at hc
      exact ⟨a.block, a.off, by rw [← ha], World.block_lt_of_cell? W ⟨a.block, a.off + j, none⟩ hc, by rw [hc]; simp⟩
    · have hx1 : d = _ := congrArg Prod.fst hxx
      rw [hx1]
      simp only [Rows.uptoBulk]
      have := bulk_texts (H := H) ((List.range len).map Sx)
      rw [List.map_map] at this
      have h2 : (fun s => (DataW.lit (.string s.data.toList) : DataW H)) ∘ Sx = fun i => .lit (.string (Sx i).data.toList) := rfl
      rw [h2] at this
      rw [this]
      omega
end
end Go.Proofs.YthifejdphflfpaaDoor
