/- What the small functions of the reference answer, for every number. -/
import Derived.Test.YtgldkmabhmlijaaDoorRight
namespace Go.Proofs.YtgldkmabhmlijaaDoor
open Go.RowKit
def nmL : List (List UInt8) := [
  [104, 97, 108, 116],
  [110, 111, 112],
  [115, 121, 115],
  [115, 101, 116],
  [109, 111, 114, 101],
  [109, 111, 118, 101],
  [97, 100, 100],
  [115, 117, 98],
  [109, 117, 108],
  [100, 105, 118],
  [109, 111, 100],
  [97, 110, 100],
  [111, 114],
  [120, 111, 114],
  [115, 104, 108],
  [115, 104, 114],
  [108, 101, 115, 115],
  [115, 97, 109, 101],
  [108, 111, 97, 100],
  [107, 101, 101, 112],
  [112, 117, 108, 108],
  [112, 117, 115, 104],
  [103, 111],
  [122, 101, 114, 111],
  [110, 111, 116],
  [99, 97, 108, 108],
  [98, 97, 99, 107]]
/-- An operation's name; nothing, if there is none. -/
def nmB (op : Int) : ByteArray := if 0 ≤ op then ⟨(nmL.getD op.toNat []).toArray⟩ else ⟨#[]⟩
theorem op_cases {op : Int} (h : 0 ≤ op ∧ op ≤ 26) : op = 0 ∨ op = 1 ∨ op = 2 ∨ op = 3 ∨ op = 4 ∨ op = 5 ∨ op = 6 ∨ op = 7 ∨ op = 8 ∨ op = 9 ∨ op = 10 ∨ op = 11 ∨ op = 12 ∨ op = 13 ∨ op = 14 ∨ op = 15 ∨ op = 16 ∨ op = 17 ∨ op = 18 ∨ op = 19 ∨ op = 20 ∨ op = 21 ∨ op = 22 ∨ op = 23 ∨ op = 24 ∨ op = 25 ∨ op = 26 := by omega
set_option maxRecDepth 100000 in
set_option maxHeartbeats 4000000 in
theorem Name_in (op : Int) (w : World) (h : 0 ≤ op ∧ op ≤ 26) : Calls Tryd.prog 36 #[.int .i64 op] w fun e w' => e = .returned (.string (nmB op)) ∧ w' = w := by
  rcases op_cases h with rfl | rfl | rfl | rfl | rfl | rfl | rfl | rfl | rfl | rfl | rfl | rfl | rfl | rfl | rfl | rfl | rfl | rfl | rfl | rfl | rfl | rfl | rfl | rfl | rfl | rfl | rfl <;>
  · go_enter Tryd.func36, Tryd.ntmps36
    go_wp2
    go_ret
    exact ⟨rfl, rfl⟩
set_option maxRecDepth 100000 in
set_option maxHeartbeats 4000000 in
theorem Name_out (op : Int) (w : World) (h : ¬ (0 ≤ op ∧ op ≤ 26)) : Calls Tryd.prog 36 #[.int .i64 op] w fun e w' => e = .returned (.string ⟨#[]⟩) ∧ w' = w := by
  have n0 : (op == 0) = false := by simp; omega
  have n1 : (op == 1) = false := by simp; omega
  have n2 : (op == 2) = false := by simp; omega
  have n3 : (op == 3) = false := by simp; omega
  have n4 : (op == 4) = false := by simp; omega
  have n5 : (op == 5) = false := by simp; omega
  have n6 : (op == 6) = false := by simp; omega
  have n7 : (op == 7) = false := by simp; omega
  have n8 : (op == 8) = false := by simp; omega
  have n9 : (op == 9) = false := by simp; omega
  have n10 : (op == 10) = false := by simp; omega
  have n11 : (op == 11) = false := by simp; omega
  have n12 : (op == 12) = false := by simp; omega
  have n13 : (op == 13) = false := by simp; omega
  have n14 : (op == 14) = false := by simp; omega
  have n15 : (op == 15) = false := by simp; omega
  have n16 : (op == 16) = false := by simp; omega
  have n17 : (op == 17) = false := by simp; omega
  have n18 : (op == 18) = false := by simp; omega
  have n19 : (op == 19) = false := by simp; omega
  have n20 : (op == 20) = false := by simp; omega
  have n21 : (op == 21) = false := by simp; omega
  have n22 : (op == 22) = false := by simp; omega
  have n23 : (op == 23) = false := by simp; omega
  have n24 : (op == 24) = false := by simp; omega
  have n25 : (op == 25) = false := by simp; omega
  have n26 : (op == 26) = false := by simp; omega
  go_enter Tryd.func36, Tryd.ntmps36
  go_wp2
  go_ret
  exact ⟨rfl, rfl⟩
theorem nmB_out {op : Int} (h : ¬ (0 ≤ op ∧ op ≤ 26)) : nmB op = ⟨#[]⟩ := by
  unfold nmB
  split
  · rw [List.getD_eq_getElem?_getD, List.getElem?_eq_none (by show 27 ≤ _; omega)]; rfl
  · rfl
theorem nmB_ne {op : Int} (h : 0 ≤ op ∧ op ≤ 26) : (nmB op).toList.isEmpty = false := by
  rw [ByteArray.toList_eq]
  rcases op_cases h with rfl | rfl | rfl | rfl | rfl | rfl | rfl | rfl | rfl | rfl | rfl | rfl | rfl | rfl | rfl | rfl | rfl | rfl | rfl | rfl | rfl | rfl | rfl | rfl | rfl | rfl | rfl <;> rfl
theorem Name_any (op : Int) (w : World) : Calls Tryd.prog 36 #[.int .i64 op] w fun e w' => e = .returned (.string (nmB op)) ∧ w' = w := by
  by_cases h : 0 ≤ op ∧ op ≤ 26
  · exact Name_in op w h
  · rw [nmB_out h]; exact Name_out op w h
set_option maxRecDepth 100000 in
set_option maxHeartbeats 4000000 in
theorem Shape_any (op : Int) (w : World) : Calls Tryd.prog 20 #[.int .i64 op] w fun e w' => e = .returned (.int .i64 (sh op)) ∧ w' = w := by
  by_cases h : 0 ≤ op ∧ op ≤ 26
  · rcases op_cases h with rfl | rfl | rfl | rfl | rfl | rfl | rfl | rfl | rfl | rfl | rfl | rfl | rfl | rfl | rfl | rfl | rfl | rfl | rfl | rfl | rfl | rfl | rfl | rfl | rfl | rfl | rfl <;>
    · go_enter Tryd.func20, Tryd.ntmps20
      go_wp2
      go_ret
      exact ⟨rfl, rfl⟩
  · have hs : sh op = 0 := by unfold sh; rw [if_neg (by omega), if_neg (by omega), if_neg (by omega), if_neg (by omega), if_neg (by omega), if_neg (by omega)]
    rw [hs]
    have n3 : (op == 3) = false := by simp; omega
    have n4 : (op == 4) = false := by simp; omega
    have n5 : (op == 5) = false := by simp; omega
    have n22 : (op == 22) = false := by simp; omega
    have n23 : (op == 23) = false := by simp; omega
    have n24 : (op == 24) = false := by simp; omega
    have n25 : (op == 25) = false := by simp; omega
    by_cases h0 : 0 ≤ op
    · have h6 : 6 ≤ op := by omega
      have h17 : ¬ op ≤ 17 := by omega
      have h18 : 18 ≤ op := by omega
      have h21 : ¬ op ≤ 21 := by omega
      go_enter Tryd.func20, Tryd.ntmps20
      go_wp2
      go_ret
      exact ⟨rfl, rfl⟩
    · have h6 : ¬ 6 ≤ op := by omega
      have h18 : ¬ 18 ≤ op := by omega
      go_enter Tryd.func20, Tryd.ntmps20
      go_wp2
      go_ret
      exact ⟨rfl, rfl⟩
theorem reg_any (n : Int) (w : World) : Calls Tryd.prog 37 #[.int .i64 n] w fun e w' => e = .returned (.bool (reg n)) ∧ w' = w := by
  by_cases h1 : 0 ≤ n <;> by_cases h2 : n ≤ 15 <;>
  · go_enter Tryd.func37, Tryd.ntmps37
    go_wp2
    go_ret
    exact ⟨by simp [reg, h1, h2], rfl⟩
theorem way_any (n : Int) (w : World) : Calls Tryd.prog 38 #[.int .i64 n] w fun e w' => e = .returned (.bool (way n)) ∧ w' = w := by
  by_cases h1 : -32768 ≤ n <;> by_cases h2 : n ≤ 32767 <;>
  · go_enter Tryd.func38, Tryd.ntmps38
    go_wp2
    go_ret
    exact ⟨by simp [way, h1, h2], rfl⟩
end Go.Proofs.YtgldkmabhmlijaaDoor
