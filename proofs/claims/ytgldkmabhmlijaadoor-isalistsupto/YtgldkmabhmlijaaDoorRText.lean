/- What Text of the reference answers, for every right instruction. -/
import Derived.Test.YtgldkmabhmlijaaDoorNumber
import Derived.Test.YtgldkmabhmlijaaDoorTail
namespace Go.Proofs.YtgldkmabhmlijaaDoor
open Go.RowKit Go.Sort
def rB (n : Int) : ByteArray := ⟨(32 :: 114 :: Lib.itoa n).toArray⟩
def nB (n : Int) : ByteArray := ⟨(Lib.itoa n).toArray⟩
theorem rB_size (n : Int) (h : -1000000 ≤ n ∧ n ≤ 1000000) : (rB n).size ≤ 30 := by
  show (32 :: 114 :: Lib.itoa n).length ≤ 30
  have := itoa_len n (by omega) (by omega)
  simp only [List.length_cons]; omega
theorem nB_size (n : Int) (h : -1000000 ≤ n ∧ n ≤ 1000000) : (nB n).size ≤ 30 := by
  show (Lib.itoa n).length ≤ 30
  have := itoa_len n (by omega) (by omega)
  omega
theorem nmB_size (op : Int) : (nmB op).size ≤ 4 := by
  unfold nmB; split
  · exact nm_len _
  · decide
theorem nmB_list {op : Int} (h : 0 ≤ op) : (nmB op).data.toList = nmL.getD op.toNat [] := by unfold nmB; rw [if_pos h]
theorem ba_eq {a b : ByteArray} (h : a.data.toList = b.data.toList) : a = b := ByteArray.ext (Array.toList_inj.1 h)
end Go.Proofs.YtgldkmabhmlijaaDoor
