/- Digits, and texts cut at a byte: plain facts on lists of bytes. -/
import Derived.Test.YtfpjeclbilhgdaaDoorProg
import Derived.WalkKit
import Derived.Lib.ItoaNum
import Derived.Lib.IndexMore
import Derived.Shelf.Strings.SplitShaped
namespace Go.Proofs.YtfpjeclbilhgdaaDoor
open Go.RowKit
theorem dig_toNat (d : Nat) (h : d < 10) : (UInt8.ofNat (48 + d)).toNat = 48 + d := by rw [UInt8.toNat_ofNat']; omega
theorem dec_digits (u : Nat) : ∀ x ∈ Lib.decDigits u, 48 ≤ x.toNat ∧ x.toNat ≤ 57 := by
  induction u using Nat.strongRecOn with
  | _ u ih =>
    intro x hx
    rw [Lib.decDigits] at hx
    split at hx
    · rename_i h
      rw [List.mem_singleton.1 hx, dig_toNat u h]; omega
    · rename_i h
      rcases List.mem_append.1 hx with hx | hx
      · exact ih (u / 10) (by omega) x hx
      · rw [List.mem_singleton.1 hx, dig_toNat _ (by omega)]; omega
theorem dec_ne (u : Nat) : Lib.decDigits u ≠ [] := by
  rw [Lib.decDigits]; split <;> simp
theorem idx_hit (c : UInt8) : ∀ (a b : List UInt8), c ∉ a → Lib.indexByte (a ++ c :: b) c = a.length
  | [], b, _ => by simp [Lib.indexByte]
  | x :: a, b, h => by
    have hx : (x == c) = false := by simp only [beq_eq_false_iff_ne]; rintro rfl; exact h (by simp)
    have ih := idx_hit c a b (fun hm => h (by simp [hm]))
    simp only [List.cons_append, Lib.indexByte, hx, ih]
    rw [if_neg (by simp), if_neg (by simp)]; simp
theorem idx_miss (c : UInt8) : ∀ (a : List UInt8), c ∉ a → Lib.indexByte a c = -1
  | [], _ => rfl
  | x :: a, h => by
    have hx : (x == c) = false := by simp only [beq_eq_false_iff_ne]; rintro rfl; exact h (by simp)
    have ih := idx_miss c a (fun hm => h (by simp [hm]))
    simp [Lib.indexByte, hx, ih]
theorem spl_hit (k : Nat) (a b : List UInt8) (h : (32 : UInt8) ∉ a) : Lib.splitK [32] 0 (k + 1) (a ++ 32 :: b) = a :: Lib.splitK [32] 0 k b := by
  rw [Lib.splitK, Lib.index_one, idx_hit 32 a b h, if_neg (by simp)]
  congr 1
  · simp
  · congr 1; simp
theorem spl_miss (k : Nat) (a : List UInt8) (h : (32 : UInt8) ∉ a) : Lib.splitK [32] 0 k a = [a] := by
  cases k with
  | zero => rfl
  | succ k => rw [Lib.splitK, Lib.index_one, idx_miss 32 a h, if_pos (by simp)]
/-- Words with blanks between. -/
def jn32 : List (List UInt8) → List UInt8
  | [] => []
  | [w] => w
  | w :: v :: ws => w ++ 32 :: jn32 (v :: ws)
theorem jn32_cons (w : List UInt8) {ws : List (List UInt8)} (h : ws ≠ []) : jn32 (w :: ws) = w ++ 32 :: jn32 ws := by
  cases ws with
  | nil => exact absurd rfl h
  | cons v ws => rfl
theorem spl_ne (k : Nat) (l : List UInt8) : Lib.splitK [32] 0 k l ≠ [] := by
  cases k with
  | zero => simp [Lib.splitK]
  | succ k => rw [Lib.splitK]; split <;> simp
theorem spl_join : ∀ (k : Nat) (l : List UInt8), jn32 (Lib.splitK [32] 0 k l) = l
  | 0, l => rfl
  | k + 1, l => by
    by_cases h : (32 : UInt8) ∈ l
    · obtain ⟨a, b, rfl, ha⟩ := List.eq_append_cons_of_mem h
      rw [spl_hit k a b ha, jn32_cons a (spl_ne k b), spl_join k b]
    · rw [spl_miss _ l h]; rfl
theorem spl_len : ∀ (k : Nat) (l : List UInt8), (Lib.splitK [32] 0 k l).length ≤ k + 1
  | 0, l => by simp [Lib.splitK]
  | k + 1, l => by
    by_cases h : (32 : UInt8) ∈ l
    · obtain ⟨a, b, rfl, ha⟩ := List.eq_append_cons_of_mem h
      rw [spl_hit k a b ha, List.length_cons]
      have := spl_len k b; omega
    · rw [spl_miss _ l h]; simp
theorem spl_words : ∀ (ws : List (List UInt8)) (k : Nat), ws ≠ [] → (∀ w ∈ ws, (32 : UInt8) ∉ w) → ws.length ≤ k + 1 → Lib.splitK [32] 0 k (jn32 ws) = ws
  | [], _, h, _, _ => absurd rfl h
  | [w], k, _, hw, _ => spl_miss k w (hw w (by simp))
  | w :: v :: ws, k, _, hw, hk => by
    obtain ⟨k', rfl⟩ : ∃ k', k = k' + 1 := ⟨k - 1, by simp at hk; omega⟩
    rw [jn32, spl_hit k' w _ (hw w (by simp)), spl_words (v :: ws) k' (by simp) (fun x hx => hw x (by simp [hx])) (by simp at hk ⊢; omega)]
theorem jn32_len : ∀ ws : List (List UInt8), ws.length ≤ (jn32 ws).length + 1
  | [] => by simp
  | [w] => by simp
  | w :: v :: ws => by
    have := jn32_len (v :: ws)
    rw [jn32, List.length_append, List.length_cons]
    simp only [List.length_cons] at this ⊢
    omega
/-- Cut at the first ':'. -/
theorem cut_hit (a b : List UInt8) (h : (58 : UInt8) ∉ a) : Lib.cut (a ++ 58 :: b) [58] = (a, b, true) := by
  unfold Lib.cut
  rw [Lib.index_one, idx_hit 58 a b h, if_pos (by omega)]
  simp
theorem cut_miss (l : List UInt8) (h : (58 : UInt8) ∉ l) : Lib.cut l [58] = (l, [], false) := by
  unfold Lib.cut
  rw [Lib.index_one, idx_miss 58 l h, if_neg (by omega)]
end Go.Proofs.YtfpjeclbilhgdaaDoor
