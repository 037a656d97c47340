/- What Digits, Number, r and Text of the references answer. -/
import Derived.Test.YtgldkmabhmlijaaDoorText
namespace Go.Proofs.YtgldkmabhmlijaaDoor
open Go.RowKit Go.Sort
def digB (n : Nat) : ByteArray := ⟨(Lib.decDigits n).toArray⟩
theorem conv1 (w : World) (x : Int) (h : 0 ≤ x ∧ x < 256) : Sem.run Tryd.prog (convert 44 9 (.slice (some ⟨w.heap.size, 0, none⟩) 1 1)) (w.alloc (.cells #[.int .u8 x] 5)) = .ok (.string ⟨#[UInt8.ofNat x.toNat]⟩) (w.alloc (.cells #[.int .u8 x] 5)) := by
  have := run_convert_bytes_back (P := Tryd.prog) (w.alloc (.cells #[.int .u8 x] 5)) 44 9 5 ⟨w.heap.size, 0, none⟩ 1 [UInt8.ofNat x.toNat] Tryd.underlying44 Tryd.underlying5 Tryd.underlying9 (fun j hj => by
    have hj0 : j = 0 := by simp at hj; exact hj
    subst hj0
    show (w.alloc (.cells #[.int .u8 x] 5)).cell? ⟨w.heap.size, 0, none⟩ = some (.int .u8 ((UInt8.ofNat x.toNat).toNat : Int))
    rw [World.cell?_alloc_new, UInt8.toNat_ofNat']
    simp; omega)
  exact this
end Go.Proofs.YtgldkmabhmlijaaDoor
