/- Numbers and their bytes: what lowBytes and number of package cpu answer. -/
import Derived.Test.YtblhikmhmnkclaaOpen
import Derived.Laws.Strings2
import Derived.Laws.BitsAllLaws
import Derived.Lib.ConvBytes
namespace Go.Proofs.Ytblhikmhmnkclaa
open Go.RowKit Go.Lib
def byteR (x : Int) (j : Nat) : UInt8 := UInt8.ofNat ((x / 2 ^ (8 * j) % 256).toNat)
def eightR (x : Int) (k : Nat) : List UInt8 := (List.range k).map (byteR x)
theorem eightR_len (x : Int) (k : Nat) : (eightR x k).length = k := by simp [eightR]
theorem eightR_succ (x : Int) (k : Nat) : eightR x (k + 1) = eightR x k ++ [byteR x k] := by unfold eightR; rw [List.range_succ, List.map_append]; rfl
theorem byteR_nat (x : Int) (j : Nat) : ((byteR x j).toNat : Int) = x / 2 ^ (8 * j) % 256 := by
  have h1 : 0 ≤ x / 2 ^ (8 * j) % 256 := Int.emod_nonneg _ (by decide)
  have h2 : x / 2 ^ (8 * j) % 256 < 256 := Int.emod_lt_of_pos _ (by decide)
  unfold byteR
  rw [UInt8.toNat_ofNat']
  omega
/-- The number that a row of bytes is, the lowest first. -/
def numL : List UInt8 → Nat
  | [] => 0
  | b :: l => b.toNat + 256 * numL l
theorem numL_snoc (l : List UInt8) (b : UInt8) : numL (l ++ [b]) = numL l + b.toNat * 2 ^ (8 * l.length) := by
  induction l with
  | nil => simp [numL]
  | cons x l ih =>
    show x.toNat + 256 * numL (l ++ [b]) = x.toNat + 256 * numL l + _
    rw [ih, List.length_cons, show 8 * (l.length + 1) = 8 * l.length + 8 from by omega, Nat.pow_add, Nat.mul_add]
    have : 256 * (b.toNat * 2 ^ (8 * l.length)) = b.toNat * (2 ^ (8 * l.length) * 2 ^ 8) := by
      rw [show (2 : Nat) ^ 8 = 256 from rfl, Nat.mul_comm 256, Nat.mul_assoc]
    omega
theorem numL_lt (l : List UInt8) : numL l < 2 ^ (8 * l.length) := by
  induction l with
  | nil => simp [numL]
  | cons x l ih =>
    show x.toNat + 256 * numL l < _
    rw [List.length_cons, show 8 * (l.length + 1) = 8 * l.length + 8 from by omega, Nat.pow_add]
    have := UInt8.toNat_lt x
    show _ < 2 ^ (8 * l.length) * 256
    omega
theorem orU_step (a b k : Nat) (hk : k < 8) (ha : a < 2 ^ (8 * k)) (hb : b < 256) : bits BinOp.or IntKind.u64 (a : Int) (IntKind.u64.wrap (IntKind.u64.wrap (b : Int) * 2 ^ (8 * k))) = ((a + b * 2 ^ (8 * k) : Nat) : Int) := by
  have hp : (2 : Nat) ^ (8 * k) ≤ 2 ^ 56 := Nat.pow_le_pow_right (by decide) (by omega)
  have e1 : IntKind.u64.wrap (b : Int) = b := by rw [IntKind.wrap_u64]; omega
  have hx : b * 2 ^ (8 * k) ≤ 255 * 2 ^ 56 := Nat.mul_le_mul (by omega) hp
  have e2 : ((b : Int) * 2 ^ (8 * k)) = ((b * 2 ^ (8 * k) : Nat) : Int) := by simp
  rw [e1, e2]
  have e3 : IntKind.u64.wrap ((b * 2 ^ (8 * k) : Nat) : Int) = ((b * 2 ^ (8 * k) : Nat) : Int) := by rw [IntKind.wrap_u64]; omega
  rw [e3]
  have ha' : a < 18446744073709551616 := by omega
  show IntKind.u64.wrap ((BitVec.ofInt 64 (a : Int) ||| BitVec.ofInt 64 ((b * 2 ^ (8 * k) : Nat) : Int)).toNat : Int) = _
  rw [BitVec.toNat_or, ofInt_u64 a ha', ofInt_u64 _ (by omega), Nat.or_comm, nat_join (8 * k) _ _ (Nat.mul_mod_left _ _) ha, Nat.add_comm]
  rw [IntKind.wrap_u64]
  generalize b * 2 ^ (8 * k) = z at *
  omega
set_option maxRecDepth 100000 in
set_option maxHeartbeats 1000000 in
theorem number_any (s : List UInt8) (w : World) (hs : s.length ≤ 8) : Calls Try.prog 45 #[.string ⟨s.toArray⟩] w fun e w' => e = .returned (.int .u64 (numL s : Nat)) ∧ w' = w := by
  obtain ⟨S, hS⟩ : ∃ S : ByteArray, (⟨s.toArray⟩ : ByteArray) = S := ⟨_, rfl⟩
  have hS8 : S.size = s.length := by rw [← hS]; show s.toArray.size = _; simp
  rw [hS]
  go_enter Try.func45, Try.ntmps45
  go_wp2_with fail
  go_loopw [3, 7] (fun x y wr => ∃ k : Nat, y = .int .i64 k ∧ k ≤ s.length ∧ x = .int .u64 (numL (s.take k) : Nat) ∧ wr = w) (fun _ y _ => (s.length - RowKit.intOf y).toNat)
  case atStart => exact ⟨0, rfl, by omega, by simp [numL], rfl⟩
  case round =>
    obtain ⟨k, rfl, hk, rfl, rfl⟩ := hrel
    by_cases hlt : k < s.length
    · have hki : (k : Int) < (s.length : Int) := by omega
      have hki2 : (k : Int) < (S.size : Int) := by omega
      have hkS : k < S.size := by omega
      have HL : Hid (numL (s.take (k + 1)) = numL (s.take k) + S[k].toNat * 2 ^ (8 * k)) := by
        have h1 : s.take (k + 1) = s.take k ++ [s[k]'(by omega)] := List.take_succ_eq_append_getElem (by omega)
        rw [h1, numL_snoc, List.length_take, Nat.min_eq_left (by omega)]
        congr 2
        subst hS
        rfl
      have HT : Hid (numL (s.take k) < 2 ^ (8 * k)) := by
        have := numL_lt (s.take k)
        rwa [List.length_take, Nat.min_eq_left (by omega)] at this
      go_wp2
      exact ⟨⟨k + 1, by go_num, by omega, by rw [orU_step _ _ k (by omega) HT.out (UInt8.toNat_lt _), HL.out], trivial⟩, by simp [RowKit.intOf]; omega⟩
    · obtain rfl : k = s.length := by omega
      rw [List.take_of_length_le (by omega)]
      go_wp2
      go_ret
      exact ⟨rfl, rfl⟩
theorem mk1 (w : World) : (Instr.makeSlice 64 (.int .i64 1) (.int .i64 1)).run Try.prog w = .ok (.slice (some ⟨w.heap.size, 0, none⟩) 1 1) (w.alloc (.cells #[.int .u8 0] 5)) := by kernel_rfl
theorem mk8 (w : World) : (Instr.makeSlice 64 (.int .i64 8) (.int .i64 8)).run Try.prog w = .ok (.slice (some ⟨w.heap.size, 0, none⟩) 8 8) (w.alloc (.cells #[.int .u8 0, .int .u8 0, .int .u8 0, .int .u8 0, .int .u8 0, .int .u8 0, .int .u8 0, .int .u8 0] 5)) := by kernel_rfl
/-- The row behind k rounds. -/
def rowK (x : Int) (n k : Nat) : Array Value := (u8s (eightR x k) ++ List.replicate (n - k) (Value.int .u8 0)).toArray
theorem rowK_set (x : Int) (n k : Nat) (h : k < n) : (rowK x n k).setIfInBounds k (.int .u8 (x / 2 ^ (8 * k) % 256)) = rowK x n (k + 1) := by
  unfold rowK
  apply Array.ext_getElem?
  intro j
  rw [Array.getElem?_setIfInBounds]
  have hl : (u8s (eightR x k)).length = k := by simp [u8s, eightR_len]
  have e1 : u8s (eightR x (k + 1)) = u8s (eightR x k) ++ [Value.int .u8 (x / 2 ^ (8 * k) % 256)] := by rw [eightR_succ]; unfold u8s; rw [List.map_append, List.map_singleton, byteR_nat]
  rw [e1, show n - k = (n - (k + 1)) + 1 from by omega, List.replicate_succ]
  simp only [List.getElem?_toArray, List.size_toArray, List.append_assoc, List.singleton_append]
  by_cases hj : k = j
  · subst hj
    rw [if_pos rfl, if_pos (by simp [hl]), List.getElem?_append_right (by omega), hl]
    simp
  · rw [if_neg hj]
    by_cases hj2 : j < k
    · rw [List.getElem?_append_left (by omega), List.getElem?_append_left (by omega)]
    · rw [List.getElem?_append_right (by omega), List.getElem?_append_right (by omega), hl]
      obtain ⟨m, hm⟩ : ∃ m, j - k = m + 1 := ⟨j - k - 1, by omega⟩
      rw [hm]; simp
theorem conv_row (x : Int) (n : Nat) (w : World) : Sem.run Try.prog (convert 64 9 (.slice (some ⟨w.heap.size, 0, none⟩) n n)) (w.alloc (.cells (rowK x n n) 5)) = .ok (.string ⟨(eightR x n).toArray⟩) (w.alloc (.cells (rowK x n n) 5)) := by
  have := run_convert_bytes_back (P := Try.prog) (w.alloc (.cells (rowK x n n) 5)) 64 9 5 ⟨w.heap.size, 0, none⟩ n (eightR x n) Try.underlying64 Try.underlying5 Try.underlying9 (fun j hj => by
    have hh : (w.alloc (.cells (rowK x n n) 5)).heap[w.heap.size]? = some (.cells (rowK x n n) 5 (0, 0)) := heap_new _ _
    have : (⟨w.heap.size, 0, none⟩ : Addr).add j = ⟨w.heap.size, j, none⟩ := by unfold Addr.add; split <;> simp_all
    rw [this]
    simp only [World.cell?, hh]
    simp [rowK, u8s, hj])
  rwa [eightR_len] at this
set_option maxRecDepth 100000 in
set_option maxHeartbeats 1000000 in
theorem lowBytes_any (x : Int) (n : Nat) (w : World) (hn : n = 1 ∨ n = 8) : Calls Try.prog 44 #[.int .u64 x, .int .i64 n] w fun e w' => e = .returned (.string ⟨(eightR x n).toArray⟩) ∧ Below w.heap.size w w' := by
  have hm : (Instr.makeSlice 64 (.int .i64 n) (.int .i64 n)).run Try.prog w = .ok (.slice (some ⟨w.heap.size, 0, none⟩) n n) (w.alloc (.cells (rowK x n 0) 5)) := by
    rcases hn with rfl | rfl
    · rw [show ((1 : Nat) : Int) = 1 from rfl, show rowK x 1 0 = #[.int .u8 0] from by simp [rowK, u8s, eightR]]; exact mk1 w
    · rw [show ((8 : Nat) : Int) = 8 from rfl, show rowK x 8 0 = #[.int .u8 0, .int .u8 0, .int .u8 0, .int .u8 0, .int .u8 0, .int .u8 0, .int .u8 0, .int .u8 0] from by simp [rowK, u8s, eightR, List.replicate]]; exact mk8 w
  have hn8 : n ≤ 8 := by omega
  have hcv := conv_row x n w
  go_enter Try.func44, Try.ntmps44
  go_wp2_with fail
  go_loopw [11] (fun y wr => ∃ k : Nat, y = .int .i64 k ∧ k ≤ n ∧ wr = w.alloc (.cells (rowK x n k) 5)) (fun y _ => (n - RowKit.intOf y).toNat)
  case atStart => exact ⟨0, rfl, by omega, rfl⟩
  case round =>
    obtain ⟨k, rfl, hk, rfl⟩ := hrel
    by_cases hlt : k < n
    · have hki : (k : Int) < (n : Int) := by omega
      have HS := Lib.hid (rowK_set x n k hlt)
      have hsz : (rowK x n k).size = n := by simp [rowK, u8s, eightR_len]; omega
      generalize rowK x n k = R at HS hsz ⊢
      go_wp2
      exact ⟨⟨k + 1, by go_num, by omega, by rw [HS.out]⟩, by simp [RowKit.intOf]; omega⟩
    · obtain rfl : k = n := by omega
      go_wp2
      go_ret
      exact ⟨rfl, by go_grown⟩
end Go.Proofs.Ytblhikmhmnkclaa
