/- A digit, as the reference writes it. -/
import Derived.Test.YtpledmomljjfeaaDoorUnhex
namespace Go.Proofs.YtpledmomljjfeaaDoor
open Go.RowKit Go.Sort
theorem ret_u8 {a b : Int} (h : a = b) : Ending.returned (.int .u8 a) = .returned (.int .u8 b) := by rw [h]
set_option maxRecDepth 100000 in
theorem digit_any (n : Nat) (w : World) (h : n < 16) : Calls Tryd.prog 33 #[.int .u8 (n : Int)] w fun e w' => e = .returned (.int .u8 ((digN n).toNat : Int)) ∧ w' = w := by
  by_cases h10 : n < 10
  · have hi : (n : Int) < 10 := by omega
    have e1 : ((digN n).toNat : Int) = 48 + (n : Int) := by unfold digN; rw [if_pos h10]; simp; omega
    rw [e1]
    go_enter Tryd.func33, Tryd.ntmps33
    go_wp2
    go_ret
    exact ⟨ret_u8 (by first | rfl | omega), rfl⟩
  · have hi : ¬ (n : Int) < 10 := by omega
    have e1 : ((digN n).toNat : Int) = 97 + (n : Int) - 10 := by unfold digN; rw [if_neg h10]; simp; omega
    rw [e1]
    go_enter Tryd.func33, Tryd.ntmps33
    go_wp2
    go_ret
    exact ⟨ret_u8 (by first | rfl | omega), rfl⟩
end Go.Proofs.YtpledmomljjfeaaDoor
