/- Bytes of entries, as lists. -/
import Derived.Test.YthifejdphflfpaaDoorOrd
namespace Go.Proofs.YthifejdphflfpaaDoor
open Go.RowKit Go.Sort
/-- A number's lowest byte. -/
def bU (x : Int) : UInt8 := UInt8.ofNat (x % 256).toNat
theorem bU_val (x : Int) : ((bU x).toNat : Int) = x % 256 := by
  unfold bU
  rw [UInt8.toNat_ofNat']
  have := Int.emod_nonneg x (show (256 : Int) ≠ 0 by decide)
  have := Int.emod_lt_of_pos x (show (0 : Int) < 256 by decide)
  omega
/-- The first k bytes of a number, the lowest first. -/
def numK (n : Int) (k : Nat) : List UInt8 := (List.range k).map fun i => bU (n / 2 ^ (8 * i))
theorem numK_succ (n : Int) (k : Nat) : numK n (k + 1) = numK n k ++ [bU (n / 2 ^ (8 * k))] := by
  unfold numK; rw [List.range_succ, List.map_append]; rfl
theorem numK_len (n : Int) (k : Nat) : (numK n k).length = k := by simp [numK]
/-- An entry's bytes. -/
def entB (m : Nm) : List UInt8 := bU m.nm.size :: (m.nm.data.toList ++ bU m.kd :: numK m.id 8)
def encB (l : List Nm) : List UInt8 := l.flatMap entB
theorem entB_length (m : Nm) : (entB m).length = m.nm.size + 10 := by
  unfold entB numK
  have : m.nm.data.toList.length = m.nm.size := by simp
  simp [this]
theorem encB_append (l r : List Nm) : encB (l ++ r) = encB l ++ encB r := by simp [encB]
theorem encB_take (l : List Nm) (k : Nat) (h : k < l.length) : encB (l.take (k + 1)) = encB (l.take k) ++ entB l[k] := by
  rw [List.take_succ_eq_append_getElem h, encB_append]; simp [encB]
theorem encB_len : ∀ l : List Nm, ((encB l).length : Int) = sizeL l
  | [] => rfl
  | m :: l => by
    have ih := encB_len l
    have h : encB (m :: l) = entB m ++ encB l := rfl
    rw [h, List.length_append, entB_length]
    show _ = ((m.nm.size : Int) + 10) + sizeL l
    omega
def u8s (l : List UInt8) : List Value := l.map fun c => .int .u8 (c.toNat : Int)
theorem u8s_len (l : List UInt8) : (u8s l).length = l.length := by simp [u8s]
theorem u8s_append (l r : List UInt8) : u8s (l ++ r) = u8s l ++ u8s r := by simp [u8s]
theorem u8s_one (x : Int) : u8s [bU x] = [.int .u8 (x % 256)] := by simp [u8s, bU_val]
theorem sizeL_append (l r : List Nm) : sizeL (l ++ r) = sizeL l + sizeL r := by simp [sizeL]
theorem sizeL_take (l : List Nm) (k : Nat) : sizeL (l.take k) ≤ sizeL l := by
  have h : sizeL l = sizeL (l.take k) + sizeL (l.drop k) := by rw [← sizeL_append, List.take_append_drop]
  have := sizeL_nonneg (l.drop k)
  omega
/-- What a directory's size and entries are. -/
theorem right_all {l : List Nm} (h : rightL l = true) : l.all goodN = true ∧ risesB ⟨#[]⟩ l = true ∧ sizeL l ≤ 4096 := by
  unfold rightL at h
  rw [rk_eq l 0 _ (by omega)] at h
  simp only [Bool.and_eq_true, decide_eq_true_eq] at h
  exact ⟨h.1.1, h.1.2, by omega⟩
end Go.Proofs.YthifejdphflfpaaDoor
