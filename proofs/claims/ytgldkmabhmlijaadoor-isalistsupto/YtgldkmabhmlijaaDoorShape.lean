/- What shapeOf of package isa answers, for every number. -/
import Derived.Test.YtgldkmabhmlijaaDoorCodes
namespace Go.Proofs.YtgldkmabhmlijaaDoor
open Go.RowKit
theorem sh_cases (op : Int) : sh op = 0 ∨ sh op = 1 ∨ sh op = 2 ∨ sh op = 3 ∨ sh op = 4 ∨ sh op = 5 ∨ sh op = 6 := by
  unfold sh; (repeat' split) <;> simp
set_option maxRecDepth 100000 in
set_option maxHeartbeats 4000000 in
theorem shapeOf_any (op : Int) (w : World) : Calls Tryd.prog 14 #[.int .i64 op] w fun e w' => e = .returned (.agg #[.int .i64 (wd (sh op) 0), .int .i64 (wd (sh op) 1), .int .i64 (wd (sh op) 2)]) ∧ Below w.heap.size w w' := by
  by_cases h : 3 ≤ op ∧ op ≤ 25
  · obtain ⟨k, rfl⟩ : ∃ k : Nat, op = k := ⟨op.toNat, by omega⟩
    have hk : k = 3 ∨ k = 4 ∨ k = 5 ∨ k = 6 ∨ k = 7 ∨ k = 8 ∨ k = 9 ∨ k = 10 ∨ k = 11 ∨ k = 12 ∨ k = 13 ∨ k = 14 ∨ k = 15 ∨ k = 16 ∨ k = 17 ∨ k = 18 ∨ k = 19 ∨ k = 20 ∨ k = 21 ∨ k = 22 ∨ k = 23 ∨ k = 24 ∨ k = 25 := by omega
    rcases hk with rfl | rfl | rfl | rfl | rfl | rfl | rfl | rfl | rfl | rfl | rfl | rfl | rfl | rfl | rfl | rfl | rfl | rfl | rfl | rfl | rfl | rfl | rfl <;>
    · go_enter Tryd.func14, Tryd.ntmps14
      go_wp2
      refine bodyPost_ret (by simp [results, Tryd.results14, go_sem]; exact ⟨rfl, rfl, rfl⟩) rfl ⟨rfl, by go_grown⟩
  · have hs : sh op = 0 := by unfold sh; rw [if_neg (by omega), if_neg (by omega), if_neg (by omega), if_neg (by omega), if_neg (by omega), if_neg (by omega)]
    rw [hs]
    have n3 : (op == 3) = false := by simp; omega
    have n4 : (op == 4) = false := by simp; omega
    have n5 : (op == 5) = false := by simp; omega
    have n6 : (op == 6) = false := by simp; omega
    have n7 : (op == 7) = false := by simp; omega
    have n8 : (op == 8) = false := by simp; omega
    have n9 : (op == 9) = false := by simp; omega
    have n10 : (op == 10) = false := by simp; omega
    have n11 : (op == 11) = false := by simp; omega
    have n12 : (op == 12) = false := by simp; omega
    have n13 : (op == 13) = false := by simp; omega
    have n14 : (op == 14) = false := by simp; omega
    have n15 : (op == 15) = false := by simp; omega
    have n16 : (op == 16) = false := by simp; omega
    have n17 : (op == 17) = false := by simp; omega
    have n18 : (op == 18) = false := by simp; omega
    have n19 : (op == 19) = false := by simp; omega
    have n20 : (op == 20) = false := by simp; omega
    have n21 : (op == 21) = false := by simp; omega
    have n22 : (op == 22) = false := by simp; omega
    have n23 : (op == 23) = false := by simp; omega
    have n24 : (op == 24) = false := by simp; omega
    have n25 : (op == 25) = false := by simp; omega
    go_enter Tryd.func14, Tryd.ntmps14
    go_wp2
    refine bodyPost_ret (by simp [results, Tryd.results14, go_sem]; exact ⟨rfl, rfl, rfl⟩) rfl ⟨rfl, by go_grown⟩
end Go.Proofs.YtgldkmabhmlijaaDoor
