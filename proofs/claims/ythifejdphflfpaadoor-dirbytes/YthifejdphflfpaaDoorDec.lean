/- What range over a string hands over, of bytes that are no letters of ASCII. -/
import Derived.Test.YthifejdphflfpaaDoorBase
import Derived.Laws.Runes
import Derived.Laws.RangeAny
namespace Go.Proofs.YthifejdphflfpaaDoor
open Go.RowKit Go.Sort
theorem get_lt (s : ByteArray) (j : Nat) (h : j < s.size) : s.get! j = s[j]'h := by
  simp [ByteArray.get!, getElem!_pos, h]; rfl
/-- What a rune takes beside its first byte is no letter of ASCII either, and stands in the string. -/
theorem decode_cover (s : ByteArray) (pos : Nat) (h : pos < s.size) (ha : 128 ≤ (s[pos]'h).toNat) :
    pos + (Utf8.decode s pos).2 ≤ s.size ∧ ∀ j, pos ≤ j → (hj : j < pos + (Utf8.decode s pos).2) → (hs : j < s.size) → 128 ≤ (s[j]'hs).toNat := by
  have hn : ¬ (s.get! (pos + 0)).toNat < 128 := by rw [get_at s pos h]; omega
  have key : ∀ k, (decide (pos + k < s.size) && (s.get! (pos + k)).toNat / 64 == 2) = true → pos + k < s.size ∧ ∀ (hs : pos + k < s.size), 128 ≤ (s[pos + k]'hs).toNat := fun k hk => by
    simp only [Bool.and_eq_true, decide_eq_true_eq, beq_iff_eq] at hk
    refine ⟨hk.1, fun hs => ?_⟩
    have := hk.2
    rw [get_lt s _ hs] at this
    omega
  have fin : ∀ n, pos + n ≤ s.size → (∀ k, k < n → ∀ (hs : pos + k < s.size), 128 ≤ (s[pos + k]'hs).toNat) → pos + n ≤ s.size ∧ ∀ j, pos ≤ j → (hj : j < pos + n) → (hs : j < s.size) → 128 ≤ (s[j]'hs).toNat := fun n h1 h2 =>
    ⟨h1, fun j hj1 hj2 hs => by
      have := h2 (j - pos) (by omega) (by rw [show pos + (j - pos) = j by omega]; exact hs)
      simpa only [show pos + (j - pos) = j by omega] using this⟩
  have z : ∀ (hs : pos + 0 < s.size), 128 ≤ (s[pos + 0]'hs).toNat := fun _ => ha
  have one : pos + 1 ≤ s.size ∧ ∀ j, pos ≤ j → (hj : j < pos + 1) → (hs : j < s.size) → 128 ≤ (s[j]'hs).toNat :=
    fin 1 (by omega) (fun k hk hs => by obtain rfl : k = 0 := (by omega); exact z hs)
  unfold Utf8.decode
  simp only [hn, if_false]
  split
  · rename_i h1
    simp only [Bool.and_eq_true] at h1
    have k1 := key 1 (by simpa using h1.2)
    split
    · exact fin 2 (by omega) (fun k hk hs => by
        rcases (by omega : k = 0 ∨ k = 1) with rfl | rfl
        · exact z hs
        · exact k1.2 hs)
    · exact one
  · split
    · rename_i h1
      simp only [Bool.and_eq_true] at h1
      have k1 := key 1 (by simpa using h1.1.2)
      have k2 := key 2 (by simpa using h1.2)
      split
      · exact fin 3 (by omega) (fun k hk hs => by
          rcases (by omega : k = 0 ∨ k = 1 ∨ k = 2) with rfl | rfl | rfl
          · exact z hs
          · exact k1.2 hs
          · exact k2.2 hs)
      · exact one
    · split
      · rename_i h1
        simp only [Bool.and_eq_true] at h1
        have k1 := key 1 (by simpa using h1.1.1.2)
        have k2 := key 2 (by simpa using h1.1.2)
        have k3 := key 3 (by simpa using h1.2)
        split
        · exact fin 4 (by omega) (fun k hk hs => by
            rcases (by omega : k = 0 ∨ k = 1 ∨ k = 2 ∨ k = 3) with rfl | rfl | rfl | rfl
            · exact z hs
            · exact k1.2 hs
            · exact k2.2 hs
            · exact k3.2 hs)
        · exact one
      · exact one
end Go.Proofs.YthifejdphflfpaaDoor
