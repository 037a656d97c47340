/- Bytes taken, block by block: as lists, and in the cells of a sum. -/
import Derived.Test.YtfcmgodeehjnoaaDoorHash
import Derived.Lib.SliceRun
namespace Go.Proofs.YtfcmgodeehjnoaaDoor
open Go.RowKit Go.Sort
theorem fold_short (s : St8) (r : List UInt8) (h : r.length < 64) : foldN s r = s := by
  unfold foldN; rw [Nat.div_eq_of_lt h]; rfl
theorem fold_one (s : St8) (r : List UInt8) (h : r.length = 64) : foldN s r = blockN s r := by
  unfold foldN; rw [h]
  show blocksN 0 (blockN s (r.take 64)) (r.drop 64) = _
  rw [List.take_of_length_le (by omega)]; rfl
theorem kept_short (r : List UInt8) (h : r.length < 64) : keptN r = r := by
  unfold keptN; rw [Nat.div_eq_of_lt h]; rfl
theorem kept_one (r : List UInt8) (h : r.length = 64) : keptN r = [] := by
  unfold keptN; rw [h]; exact List.drop_of_length_le (by omega)
def midC (G : St8) (K : List UInt8) (n : Nat) : List Value := U (lst G) ++ (B K ++ [.int .i64 (n : Int)])
/-- What is kept, with zeros behind. -/
def padK (l : List UInt8) : List UInt8 := l ++ List.replicate (64 - l.length) 0
theorem padK_len (l : List UInt8) (h : l.length ≤ 64) : (padK l).length = 64 := by unfold padK; rw [List.length_append, List.length_replicate]; omega
theorem hash_mid (l : List UInt8) : hashC l = midC (goneN l) (padK (keptN l)) l.length := rfl
theorem hash_less {L v : List UInt8} (h : (keptN L).length + v.length < 64) : hashC (L ++ v) = midC (goneN L) (padK (keptN L ++ v)) (L ++ v).length := by
  have h1 : (keptN L ++ v).length < 64 := by rw [List.length_append]; exact h
  rw [hash_mid, gone_app, kept_app, fold_short _ _ h1, kept_short _ h1]
theorem hash_block {L v : List UInt8} (h : (keptN L).length + v.length = 64) : hashC (L ++ v) = midC (blockN (goneN L) (keptN L ++ v)) (List.replicate 64 0) (L ++ v).length := by
  have h1 : (keptN L ++ v).length = 64 := by rw [List.length_append]; exact h
  rw [hash_mid, gone_app, kept_app, fold_one _ _ h1, kept_one _ h1]
  rfl
theorem pad_put (K v : List UInt8) (h : K.length + v.length ≤ 64) : (padK K).take K.length ++ v ++ (padK K).drop (K.length + v.length) = padK (K ++ v) := by
  unfold padK
  rw [List.take_append_of_le_length (Nat.le_refl _), List.take_of_length_le (Nat.le_refl _), List.drop_append, List.drop_of_length_le (by omega), List.nil_append, List.drop_replicate, List.length_append]
  congr 2; omega
theorem pad_full (K : List UInt8) (h : K.length = 64) : padK K = K := by unfold padK; rw [h]; simp
theorem mid_len (G : St8) (K : List UInt8) (n : Nat) : (midC G K n).length = 9 + K.length := by
  unfold midC; simp only [List.length_append, U_len, B_len, lst_len, List.length_cons, List.length_nil]; omega
theorem take_pre {α : Type} (A X : List α) (k c : Nat) (h : A.length = k) : (A ++ X).take (k + c) = A ++ X.take c := by
  subst h
  rw [List.take_append, List.take_of_length_le (by omega), Nat.add_sub_cancel_left]
theorem drop_pre {α : Type} (A X : List α) (k c : Nat) (h : A.length = k) : (A ++ X).drop (k + c) = X.drop c := by
  subst h
  rw [List.drop_append, List.drop_of_length_le (by omega), Nat.add_sub_cancel_left, List.nil_append]
theorem mid_sets {w : World} {g : Nat} {G : St8} {K : List UInt8} {n : Nat} (h : At w g 0 (midC G K n)) (c : Nat) (v : List UInt8) (hc : c + v.length ≤ K.length) : At (w.setCells g (8 + c) (B v)) g 0 (midC G (K.take c ++ v ++ K.drop (c + v.length)) n) := by
  have := h.sets (i := 8 + c) (B v) (by rw [mid_len, B_len]; omega)
  rw [Nat.zero_add] at this
  refine (show midC G (K.take c ++ v ++ K.drop (c + v.length)) n = _ from ?_) ▸ this
  unfold midC
  have hU : (U (lst G)).length = 8 := by rw [U_len, lst_len]
  rw [take_pre _ _ 8 c hU, B_len, Nat.add_assoc 8 c v.length, drop_pre _ _ 8 _ hU, List.take_append_of_le_length (l₁ := B K) (by rw [B_len]; omega), List.drop_append_of_le_length (l₁ := B K) (by rw [B_len]; exact hc)]
  unfold B
  simp only [List.map_append, List.map_take, List.map_drop, List.append_assoc]
theorem mid_n {w : World} {g : Nat} {G : St8} {K : List UInt8} {n : Nat} (h : At w g 0 (midC G K n)) (hK : K.length = 64) (n' : Nat) : At (w.setCell ⟨g, 72, none⟩ (.int .i64 (n' : Int))) g 0 (midC G K n') := by
  have := h.set 72 (.int .i64 (n' : Int)) (by rw [mid_len]; omega)
  rw [Nat.zero_add] at this
  refine (show midC G K n' = _ from ?_) ▸ this
  unfold midC
  rw [List.set_append_right _ _ (by rw [U_len, lst_len]; omega), List.set_append_right _ _ (by rw [U_len, lst_len, B_len]; omega), U_len, lst_len, B_len, hK]
  rfl
theorem mid_cell {w : World} {g : Nat} {G : St8} {K : List UInt8} {n : Nat} (h : At w g 0 (midC G K n)) (hK : K.length = 64) : w.cell? ⟨g, 72, none⟩ = some (.int .i64 (n : Int)) := by
  refine At.cell (j := 72) h ?_
  unfold midC
  rw [List.getElem?_append_right (by rw [U_len, lst_len]; omega), U_len, lst_len, List.getElem?_append_right (by rw [B_len]; omega), B_len, hK]
  rfl
theorem mid_fz {w : World} {g : Nat} {G : St8} {K : List UInt8} {n : Nat} (h : At w g 0 (midC G K n)) (hK : K.length = 64) : w.frozen? ⟨g, 72, none⟩ = false := by
  have := h.fz 72 (by rw [mid_len]; omega)
  rw [Nat.zero_add] at this; exact this
/-- 'copy(dst, s)', s a string: as many bytes as the shorter of the two has go over. -/
theorem run_copy_min {P : Program} (w : World) (dT sT ty elem : TypeId) (b o dLen dCap : Nat) (t : ByteArray) (n : Nat) (hn : min t.size dLen = n)
    (hu : P.underlying dT = some (.slice elem)) (hz : ∀ w, (Go.sizeOf elem).run P w = .ok 1 w)
    (hc : ∀ j, j < n → (w.cell? ⟨b, o + j, none⟩).isSome = true) (hf : ∀ j, j < n → w.frozen? ⟨b, o + j, none⟩ = false) :
    (Builtin.copy_ #[dT, sT] ty #[.slice (some ⟨b, o, none⟩) dLen dCap, .string t]).run P w = .ok (.int .i64 (n : Int)) (w.setCells b o (B (t.data.toList.take n))) := by
  have hmin : Nat.min t.size dLen = n := hn
  have hnt : n ≤ t.size := by omega
  have hl : (B (t.data.toList.take n)).length = n := by rw [B_len, List.length_take, ← Lib.size_eq]; omega
  have hst := run_storeCells_cells (P := P) b o (B (t.data.toList.take n)) 0 w (by rw [hl]; simpa using hc) (by rw [hl]; simpa using hf) (B_one _)
  simp [Builtin.copy_, run_underlying hu, Builtin.lenOf, Builtin.firstCells, hz, hmin]
  rw [show List.take n (t.data.toList.map fun x => Value.int .u8 (x.toNat : Int)) = B (t.data.toList.take n) from by unfold B; rw [List.map_take], hst]
  rfl
end Go.Proofs.YtfcmgodeehjnoaaDoor
