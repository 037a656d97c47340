/- What Encode of package isa answers, for every instruction. -/
import Derived.Test.YtblhikmhmnkclaaPack
import Derived.Laws.Strings2
namespace Go.Proofs.Ytblhikmhmnkclaa
open Go.RowKit Go.Sort
def toU (ns : List Int) : List UInt8 := ns.map fun n => UInt8.ofNat (n % 256).toNat
def q4l (q : Q4) : List Int := [q.1, q.2.1, q.2.2.1, q.2.2.2]
/-- Four bytes, each of them one. -/
def okQ (q : Q4) : Prop := (0 ≤ q.1 ∧ q.1 < 256) ∧ (0 ≤ q.2.1 ∧ q.2.1 < 256) ∧ (0 ≤ q.2.2.1 ∧ q.2.2.1 < 256) ∧ (0 ≤ q.2.2.2 ∧ q.2.2.2 < 256)
theorem pkW_ok (c : Cod) (w : Int) (r : Q4) (h : okQ r) : okQ (pkW c w r) := by
  unfold okQ at h ⊢; unfold pkW
  repeat' split
  all_goals first | exact h | (simp only; omega)
theorem pk_ok (c : Cod) (s k : Nat) : okQ (pk c s k) := by
  induction k with
  | zero => simp only [pk, okQ]; omega
  | succ k ih => exact pkW_ok _ _ _ ih
theorem bytesC_ok (c : Cod) : okQ (bytesC c) := pk_ok _ _ _
theorem toU_byte (n : Int) (h : 0 ≤ n ∧ n < 256) : ((UInt8.ofNat (n % 256).toNat).toNat : Int) = n := by
  rw [UInt8.toNat_ofNat']; omega
def q4s (q : Q4) : ByteArray := ⟨(toU (q4l q)).toArray⟩
theorem conv4 (q : Q4) (w : World) (B : Nat) (hq : okQ q) (h : At4 w B q) : Sem.run Try.prog (convert 64 9 (.slice (some ⟨B, 0, none⟩) 4 4)) w = .ok (.string (q4s q)) w := by
  refine run_convert_bytes_back (P := Try.prog) w 64 9 5 ⟨B, 0, none⟩ 4 (toU (q4l q)) Try.underlying64 Try.underlying5 Try.underlying9 (fun j hj => ?_)
  obtain ⟨_, ⟨b0, b1, b2, b3⟩, _⟩ := h
  obtain ⟨o0, o1, o2, o3⟩ := hq
  have hj' : j < 4 := hj
  rcases (show j = 0 ∨ j = 1 ∨ j = 2 ∨ j = 3 by omega) with rfl | rfl | rfl | rfl
  · show w.cell? ⟨B, 0, none⟩ = some (.int .u8 ((UInt8.ofNat (q.1 % 256).toNat).toNat : Int)); rw [toU_byte _ o0]; exact b0
  · show w.cell? ⟨B, 1, none⟩ = some (.int .u8 ((UInt8.ofNat (q.2.1 % 256).toNat).toNat : Int)); rw [toU_byte _ o1]; exact b1
  · show w.cell? ⟨B, 2, none⟩ = some (.int .u8 ((UInt8.ofNat (q.2.2.1 % 256).toNat).toNat : Int)); rw [toU_byte _ o2]; exact b2
  · show w.cell? ⟨B, 3, none⟩ = some (.int .u8 ((UInt8.ofNat (q.2.2.2 % 256).toNat).toNat : Int)); rw [toU_byte _ o3]; exact b3
end Go.Proofs.Ytblhikmhmnkclaa
