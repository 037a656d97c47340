/- A block mixed in, step by step, as numbers. -/
import Derived.Test.YtfcmgodeehjnoaaDoorRowM
namespace Go.Proofs.YtfcmgodeehjnoaaDoor
def lst (s : St8) : List Nat := [s.a, s.b, s.c, s.d, s.e, s.f, s.g, s.h]
structure Ok (s : St8) : Prop where
  a : s.a < 4294967296
  b : s.b < 4294967296
  c : s.c < 4294967296
  d : s.d < 4294967296
  e : s.e < 4294967296
  f : s.f < 4294967296
  g : s.g < 4294967296
  h : s.h < 4294967296
theorem Ok.round {s : St8} (h : Ok s) (k w : Nat) : Ok (roundN s k w) := ⟨add_lt _ _, h.a, h.b, h.c, add_lt _ _, h.e, h.f, h.g⟩
theorem Ok.block (s : St8) (m : List UInt8) : Ok (blockN s m) := ⟨add_lt _ _, add_lt _ _, add_lt _ _, add_lt _ _, add_lt _ _, add_lt _ _, add_lt _ _, add_lt _ _⟩
theorem Ok.start : Ok startN := ⟨by decide, by decide, by decide, by decide, by decide, by decide, by decide, by decide⟩
theorem Ok.blocks : ∀ (k : Nat) {s : St8} (l : List UInt8), Ok s → Ok (blocksN k s l)
  | 0, _, _, h => h
  | k + 1, _, l, _ => Ok.blocks k (l.drop 64) (Ok.block _ _)
theorem kN_len : kN.length = 64 := by rw [kN_is]; rfl
/-- Behind i steps. -/
def upK (s : St8) (m : List UInt8) (i : Nat) : St8 := roundsN s ((kN.zip (rowN m)).take i)
theorem upK_zero (s : St8) (m : List UInt8) : upK s m 0 = s := rfl
theorem zip_len (m : List UInt8) : (kN.zip (rowN m)).length = 64 := by rw [List.length_zip, kN_len, row_len]; rfl
theorem upK_succ (s : St8) (m : List UInt8) (i : Nat) (h : i < 64) : upK s m (i + 1) = roundN (upK s m i) (kN.getD i 0) ((rowN m).getD i 0) := by
  unfold upK roundsN
  have h1 : i < (kN.zip (rowN m)).length := by rw [zip_len]; exact h
  rw [List.take_succ_eq_append_getElem h1, List.foldl_append, List.getElem_zip]
  have hk : i < kN.length := by rw [kN_len]; exact h
  have hr : i < (rowN m).length := by rw [row_len]; exact h
  simp only [List.foldl_cons, List.foldl_nil, List.getD_eq_getElem?_getD, List.getElem?_eq_getElem hk, List.getElem?_eq_getElem hr, Option.getD_some]
theorem upK_ok {s : St8} (h : Ok s) (m : List UInt8) : ∀ i, i ≤ 64 → Ok (upK s m i)
  | 0, _ => h
  | i + 1, hi => by rw [upK_succ s m i (by omega)]; exact (upK_ok h m i (by omega)).round _ _
/-- The first k of the one, the others of the other. -/
def mixL (A C : List Nat) (k : Nat) : List Nat := A.take k ++ C.drop k
theorem mixL_len {A C : List Nat} (k : Nat) (hA : A.length = 8) (hC : C.length = 8) (h : k ≤ 8) : (mixL A C k).length = 8 := by
  unfold mixL; rw [List.length_append, List.length_take, List.length_drop]; omega
theorem mixL_at {A C : List Nat} (k : Nat) (hA : A.length = 8) (h : k < 8) : (mixL A C k).getD k 0 = C.getD k 0 := by
  unfold mixL
  simp only [List.getD_eq_getElem?_getD]
  rw [List.getElem?_append_right (by rw [List.length_take]; omega), List.length_take, List.getElem?_drop, show k + (k - min k A.length) = k from by omega]
theorem mixL_set {A C : List Nat} (k : Nat) (hA : A.length = 8) (hC : C.length = 8) (h : k < 8) : (mixL A C k).set k (A.getD k 0) = mixL A C (k + 1) := by
  apply List.ext_getElem?
  intro j
  rw [List.getElem?_set]
  have hl := mixL_len k hA hC (by omega)
  by_cases hj : k = j
  · subst hj
    rw [if_pos rfl, if_pos (by omega)]
    unfold mixL
    rw [List.getElem?_append_left (by rw [List.length_take]; omega), List.getElem?_take_of_lt (by omega), List.getD_eq_getElem?_getD, List.getElem?_eq_getElem (by omega : k < A.length)]; rfl
  · rw [if_neg hj]
    unfold mixL
    by_cases h1 : j < k
    · rw [List.getElem?_append_left (by rw [List.length_take]; omega), List.getElem?_append_left (by rw [List.length_take]; omega), List.getElem?_take_of_lt h1, List.getElem?_take_of_lt (by omega)]
    · rw [List.getElem?_append_right (by rw [List.length_take]; omega), List.getElem?_append_right (by rw [List.length_take]; omega), List.length_take, List.length_take, List.getElem?_drop, List.getElem?_drop]
      congr 1; omega
theorem lst_len (s : St8) : (lst s).length = 8 := rfl
def addS (s r : St8) : St8 := ⟨addN s.a r.a, addN s.b r.b, addN s.c r.c, addN s.d r.d, addN s.e r.e, addN s.f r.f, addN s.g r.g, addN s.h r.h⟩
theorem addS_at (s X : St8) (k : Nat) (h : k < 8) : (lst (addS s X)).getD k 0 = addN ((lst s).getD k 0) ((lst X).getD k 0) := by
  obtain ⟨a, b, c, d, e, f, g, z⟩ := s
  obtain ⟨a', b', c', d', e', f', g', z'⟩ := X
  match k, h with
  | 0, _ => simp [lst, addS]
  | 1, _ => simp [lst, addS]
  | 2, _ => simp [lst, addS]
  | 3, _ => simp [lst, addS]
  | 4, _ => simp [lst, addS]
  | 5, _ => simp [lst, addS]
  | 6, _ => simp [lst, addS]
  | 7, _ => simp [lst, addS]
theorem block_add (s : St8) (m : List UInt8) : blockN s m = addS s (roundsN s (kN.zip (rowN m))) := by delta blockN addS; rfl
theorem block_at (s : St8) (m : List UInt8) (k : Nat) (h : k < 8) : (lst (blockN s m)).getD k 0 = addN ((lst s).getD k 0) ((lst (upK s m 64)).getD k 0) := by
  have e : upK s m 64 = roundsN s (kN.zip (rowN m)) := by unfold upK; rw [List.take_of_length_le (by rw [zip_len]; exact Nat.le_refl _)]
  rw [e, block_add, addS_at _ _ _ h]
/-- The eight numbers, the first k of them with what the steps came to. -/
def stK (s : St8) (m : List UInt8) (k : Nat) : List Nat := mixL (lst (blockN s m)) (lst s) k
theorem stK_zero (s : St8) (m : List UInt8) : stK s m 0 = lst s := by unfold stK mixL; rw [List.take_zero, List.drop_zero, List.nil_append]
theorem stK_full (s : St8) (m : List UInt8) : stK s m 8 = lst (blockN s m) := by
  unfold stK mixL; rw [List.take_of_length_le (by rw [lst_len]; exact Nat.le_refl _), List.drop_of_length_le (by rw [lst_len]; exact Nat.le_refl _), List.append_nil]
theorem stK_len (s : St8) (m : List UInt8) (k : Nat) (h : k ≤ 8) : (stK s m k).length = 8 := mixL_len k (lst_len _) (lst_len _) h
theorem stK_at (s : St8) (m : List UInt8) (k : Nat) (h : k < 8) : (stK s m k).getD k 0 = (lst s).getD k 0 := mixL_at k (lst_len _) h
theorem stK_set (s : St8) (m : List UInt8) (k : Nat) (h : k < 8) : (stK s m k).set k (addN ((lst s).getD k 0) ((lst (upK s m 64)).getD k 0)) = stK s m (k + 1) := by
  rw [← block_at s m k h]; exact mixL_set k (lst_len _) (lst_len _) h
end Go.Proofs.YtfcmgodeehjnoaaDoor
