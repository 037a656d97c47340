/- Rows that are filled from the front; bytes of numbers. -/
import Derived.Test.YtfcmgodeehjnoaaDoorSpread
import Derived.Laws.IdiomStrings
namespace Go.Proofs.YtfcmgodeehjnoaaDoor
open Go.RowKit Go.Sort
/-- The first k, something else behind. -/
def fill {α : Type} (L : List α) (z : α) (k : Nat) : List α := L.take k ++ List.replicate (L.length - k) z
theorem fill_len {α : Type} (L : List α) (z : α) (k : Nat) : (fill L z k).length = L.length := by
  unfold fill; rw [List.length_append, List.length_take, List.length_replicate]; omega
theorem fill_zero {α : Type} (L : List α) (z : α) : fill L z 0 = List.replicate L.length z := by unfold fill; simp
theorem fill_full {α : Type} (L : List α) (z : α) : fill L z L.length = L := by unfold fill; simp
theorem fill_set {α : Type} (L : List α) (z : α) (k : Nat) (v : α) (hv : L[k]? = some v) : (fill L z k).set k v = fill L z (k + 1) := by
  have hk := (List.getElem?_eq_some_iff.1 hv).1
  apply List.ext_getElem?
  intro j
  rw [List.getElem?_set, fill_len]
  by_cases hj : k = j
  · subst hj
    rw [if_pos rfl, if_pos hk]
    unfold fill
    rw [List.getElem?_append_left (by rw [List.length_take]; omega), List.getElem?_take_of_lt (by omega), hv]
  · rw [if_neg hj]
    unfold fill
    by_cases h1 : j < k
    · rw [List.getElem?_append_left (by rw [List.length_take]; omega), List.getElem?_append_left (by rw [List.length_take]; omega), List.getElem?_take_of_lt h1, List.getElem?_take_of_lt (by omega)]
    · rw [List.getElem?_append_right (by rw [List.length_take]; omega), List.getElem?_append_right (by rw [List.length_take]; omega), List.length_take, List.length_take, List.getElem?_replicate, List.getElem?_replicate]
      by_cases h3 : j < L.length
      · rw [if_pos (by omega), if_pos (by omega)]
      · rw [if_neg (by omega), if_neg (by omega)]
theorem B_set (l : List UInt8) (j : Nat) (b : UInt8) : (B l).set j (.int .u8 (b.toNat : Int)) = B (l.set j b) := by unfold B; rw [List.map_set]
theorem B_back {P : Program} {w : World} {g o cap : Nat} {l : List UInt8} {src dst e : TypeId} (h : At w g o (B l)) (hs : P.underlying src = some (.slice e)) (he : P.underlying e = some (.int .u8)) (hd : P.underlying dst = some .string) :
    (Go.convert src dst (.slice (some ⟨g, o, none⟩) l.length cap)).run P w = .ok (.string ⟨l.toArray⟩) w :=
  run_convert_bytes_back w src dst e ⟨g, o, none⟩ cap l hs he hd (fun j hj => by
    rw [Addr.add_mid]
    refine h.cell ?_
    unfold B; rw [List.getElem?_map, List.getElem?_eq_getElem hj]; rfl)
theorem byteW (x : Nat) : IntKind.u8.wrap (x : Int) = ((UInt8.ofNat x).toNat : Int) := by
  rw [IntKind.wrap_u8']; simp
theorem byteI (x n : Nat) : (x : Int) >>> n % 256 = ((UInt8.ofNat (x >>> n)).toNat : Int) := by
  show ((x >>> n : Nat) : Int) % 256 = _
  simp
theorem byteD (x n : Nat) : (x : Int) / 2 ^ n % 256 = ((UInt8.ofNat (x >>> n)).toNat : Int) := by
  rw [shrI]; simp
/-- Eight bytes, the lowest first. -/
def lowL (x : Nat) : List UInt8 := (List.range 8).map fun k => UInt8.ofNat (x >>> (8 * k))
theorem low_len (x : Nat) : (lowL x).length = 8 := by simp [lowL]
theorem low_at (x k : Nat) (h : k < 8) : (lowL x)[k]? = some (UInt8.ofNat (x >>> (8 * k))) := by
  unfold lowL; rw [List.getElem?_map, List.getElem?_range h]; rfl
end Go.Proofs.YtfcmgodeehjnoaaDoor
