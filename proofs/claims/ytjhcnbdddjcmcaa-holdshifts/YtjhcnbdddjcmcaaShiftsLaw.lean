/- HoldShifts answers true. -/
import Derived.Test.YtjhcnbdddjcmcaaShiftsG
import Derived.Test.YtjhcnbdddjcmcaaShiftsF
namespace Go.Proofs.Ytjhcnbdddjcmcaa
open Go.RowKit Go.Sort
theorem HoldShifts_any (n1 n2 : Int) (p : Option Addr) (cap : Nat) (xs : List Int) (w : World) (hp : IntsAt w p xs) (hr : ∀ x ∈ xs, i64 x) :
    Calls Try.prog 8 #[.int .i64 n1, .int .i64 n2, .slice p xs.length cap] w fun e w' => e = .returned (.bool true) ∧ Below w.heap.size w w' := by
  obtain ⟨m1, hm1, hv1⟩ := mod_num n1 1000 (by omega) (by omega)
  obtain ⟨m2, hm2, hv2⟩ := mod_num n2 1000 (by omega) (by omega)
  by_cases h : m2 < m1
  · exact HoldShifts_second n1 n2 m1 m2 hm1 hm2 hv1 hv2 h p cap xs w hp hr
  · exact HoldShifts_first n1 n2 m1 m2 hm1 hm2 hv1 hv2 h p cap xs w hp hr
end Go.Proofs.Ytjhcnbdddjcmcaa
