/- A block's row of words, place by place. -/
import Derived.Test.YtfcmgodeehjnoaaDoorWd
namespace Go.Proofs.YtfcmgodeehjnoaaDoor
theorem grow_len : ∀ (n : Nat) (w : List Nat), (growN n w).length = w.length + n
  | 0, _ => rfl
  | n + 1, w => by rw [growN, grow_len n]; simp; omega
theorem grow_pre : ∀ (n : Nat) (w : List Nat) (j : Nat), j < w.length → (growN n w).getD j 0 = w.getD j 0
  | 0, _, _, _ => rfl
  | n + 1, w, j, h => by
    rw [growN, grow_pre n _ j (by simp; omega)]
    simp only [List.getD_eq_getElem?_getD]
    rw [List.getElem?_append_left h]
theorem next_of {w v : List Nat} {t : Nat} (h16 : 16 ≤ t) (h : ∀ j, j < t → w.getD j 0 = v.getD j 0) : nextN w t = nextN v t := by
  unfold nextN
  rw [h _ (by omega), h _ (by omega), h _ (by omega), h _ (by omega)]
theorem grow_next : ∀ (n : Nat) (w : List Nat) (j : Nat), 16 ≤ w.length → w.length ≤ j → j < w.length + n → (growN n w).getD j 0 = nextN (growN n w) j
  | 0, _, _, _, h1, h2 => by omega
  | n + 1, w, j, h16, h1, h2 => by
    rw [growN]
    by_cases hj : j = w.length
    · subst hj
      rw [grow_pre n _ _ (by simp), next_of (w := growN n (w ++ [nextN w w.length])) h16 (v := w) (fun i hi => by rw [grow_pre n _ i (by simp; omega)]; simp only [List.getD_eq_getElem?_getD]; rw [List.getElem?_append_left hi])]
      simp
    · exact grow_next n _ j (by simp; omega) (by simp; omega) (by simp; omega)
theorem row_len (m : List UInt8) : (rowN m).length = 64 := by unfold rowN; rw [grow_len]; simp
theorem row_first (m : List UInt8) (j : Nat) (h : j < 16) : (rowN m).getD j 0 = wordN m j := by
  unfold rowN; rw [grow_pre _ _ _ (by simp; exact h)]
  simp [List.getD_eq_getElem?_getD, List.getElem?_range h]
theorem row_next (m : List UInt8) (j : Nat) (h : 16 ≤ j) (h2 : j < 64) : (rowN m).getD j 0 = nextN (rowN m) j := by
  unfold rowN; exact grow_next _ _ _ (by simp) (by simp; exact h) (by simp; omega)
theorem word_lt (m : List UInt8) (t : Nat) : wordN m t < 4294967296 := by
  have := (m.getD (4 * t) 0).toNat_lt; have := (m.getD (4 * t + 1) 0).toNat_lt; have := (m.getD (4 * t + 2) 0).toNat_lt; have := (m.getD (4 * t + 3) 0).toNat_lt
  unfold wordN; omega
theorem row_lt (m : List UInt8) (j : Nat) : (rowN m).getD j 0 < 4294967296 := by
  by_cases h : j < 16
  · rw [row_first m j h]; exact word_lt m j
  · by_cases h2 : j < 64
    · rw [row_next m j (by omega) h2]; exact add_lt _ _
    · rw [List.getD_eq_getElem?_getD, List.getElem?_eq_none (by rw [row_len]; omega)]; decide
/-- The first k words, zeros behind. -/
def rowK (m : List UInt8) (k : Nat) : List Nat := (rowN m).take k ++ List.replicate (64 - k) 0
theorem rowK_len (m : List UInt8) (k : Nat) (h : k ≤ 64) : (rowK m k).length = 64 := by
  unfold rowK; rw [List.length_append, List.length_take, row_len, List.length_replicate]; omega
theorem rowK_zero (m : List UInt8) : rowK m 0 = List.replicate 64 0 := rfl
theorem rowK_full (m : List UInt8) : rowK m 64 = rowN m := by
  unfold rowK; rw [List.take_of_length_le (by rw [row_len]; exact Nat.le_refl _)]; simp
theorem rowK_at (m : List UInt8) (k j : Nat) (h : j < k) (h2 : k ≤ 64) : (rowK m k).getD j 0 = (rowN m).getD j 0 := by
  unfold rowK
  simp only [List.getD_eq_getElem?_getD]
  rw [List.getElem?_append_left (by rw [List.length_take, row_len]; omega), List.getElem?_take_of_lt h]
theorem rowK_set (m : List UInt8) (k : Nat) (h : k < 64) : (rowK m k).set k ((rowN m).getD k 0) = rowK m (k + 1) := by
  have hk : k < (rowN m).length := by rw [row_len]; exact h
  apply List.ext_getElem?
  intro j
  rw [List.getElem?_set]
  by_cases hj : k = j
  · subst hj
    rw [if_pos rfl, if_pos (by rw [rowK_len m k (by omega)]; exact h)]
    unfold rowK
    rw [List.getElem?_append_left (by rw [List.length_take, row_len]; omega), List.getElem?_take_of_lt (by omega), List.getD_eq_getElem?_getD, List.getElem?_eq_getElem hk]; rfl
  · rw [if_neg hj]
    unfold rowK
    by_cases h1 : j < k
    · rw [List.getElem?_append_left (by rw [List.length_take, row_len]; omega), List.getElem?_append_left (by rw [List.length_take, row_len]; omega), List.getElem?_take_of_lt h1, List.getElem?_take_of_lt (by omega)]
    · rw [List.getElem?_append_right (by rw [List.length_take, row_len]; omega), List.getElem?_append_right (by rw [List.length_take, row_len]; omega), List.length_take, List.length_take, row_len, Nat.min_eq_left (by omega), Nat.min_eq_left (by omega), List.getElem?_replicate, List.getElem?_replicate]
      by_cases h3 : j < 64
      · rw [if_pos (by omega), if_pos (by omega)]
      · rw [if_neg (by omega), if_neg (by omega)]
theorem row_step (m : List UInt8) (k : Nat) (h : 16 ≤ k) (h2 : k < 64) :
    addN (addN (addN ((rowN m).getD (k - 16) 0) (sig0 ((rowN m).getD (k - 15) 0))) ((rowN m).getD (k - 7) 0)) (sig1 ((rowN m).getD (k - 2) 0)) = (rowN m).getD k 0 := by
  rw [row_next m k h h2]; unfold nextN addN; omega
end Go.Proofs.YtfcmgodeehjnoaaDoor
