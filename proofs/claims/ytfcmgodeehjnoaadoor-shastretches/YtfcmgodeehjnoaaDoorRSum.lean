/- The reference's sum. -/
import Derived.Test.YtfcmgodeehjnoaaDoorRConst
import Derived.Test.YtfcmgodeehjnoaaDoorBrow
import Derived.Test.YtfcmgodeehjnoaaDoorHex2
namespace Go.Proofs.YtfcmgodeehjnoaaDoor
open Go.RowKit Go.Sort
theorem high_at (x j : Nat) (h : j < 8) : (bytes8 x)[j]? = some (UInt8.ofNat (x >>> (8 * (7 - j)))) := by
  unfold bytes8 bytes4
  match j, h with
  | 0, _ => simp [← Nat.shiftRight_add]
  | 1, _ => simp [← Nat.shiftRight_add]
  | 2, _ => simp [← Nat.shiftRight_add]
  | 3, _ => simp
  | 4, _ => simp
  | 5, _ => simp
  | 6, _ => simp
  | 7, _ => simp
/-- The bytes with j of the zeros. -/
def zerN (l : List UInt8) (j : Nat) : List UInt8 := l ++ (0x80 : UInt8) :: List.replicate j 0
theorem zerN_len (l : List UInt8) (j : Nat) : (zerN l j).length = l.length + 1 + j := by unfold zerN; simp; omega
theorem zerN_succ (l : List UInt8) (j : Nat) : zerN l j ++ [0] = zerN l (j + 1) := by unfold zerN; rw [List.replicate_succ']; simp
theorem zer_pad (l : List UInt8) : zerN l ((119 - l.length % 64) % 64) ++ bytes8 (l.length * 8) = padN l := by unfold zerN padN; simp
theorem BR_len {w : World} {B : Nat} {v : Value} {xs : List UInt8} (h : BR w B v xs) : ∃ g cap, v = .slice (some ⟨g, 0, none⟩) xs.length cap ∧ g < w.heap.size ∧ B ≤ g := by
  obtain ⟨g, cap, e, h1, h2, _⟩ := h
  exact ⟨g, cap, e, h2, h1⟩
theorem cell_new1 (w : World) (v : Value) (t : TypeId) : ∀ j u, [v][j]? = some u → (w.alloc (.cells #[v] t)).cell? ((⟨w.heap.size, 0, none⟩ : Addr).add j) = some u := by
  intro j u h
  match j, h with
  | 0, h => simp at h; subst h; simp [Addr.add, go_sem]
theorem src_one (w : World) (b : UInt8) : Src Tryd.prog 1 35 (.slice (some ⟨w.heap.size, 0, none⟩) 1 1) [b].length (bc [b]) (w.alloc (.cells #[.int .u8 (b.toNat : Int)] 5)) :=
  Src.ofSlice (P := Tryd.prog) (w := w.alloc (.cells #[.int .u8 (b.toNat : Int)] 5)) (size := 1) Tryd.underlying35 ⟨w.heap.size, 0, none⟩ 1 1 (bc [b]) rfl (cell_new1 w (.int .u8 (b.toNat : Int)) 5) (by intro u' hu'; simp only [bc, List.mem_map] at hu'; obtain ⟨b, _, rfl⟩ := hu'; rfl)
end Go.Proofs.YtfcmgodeehjnoaaDoor
