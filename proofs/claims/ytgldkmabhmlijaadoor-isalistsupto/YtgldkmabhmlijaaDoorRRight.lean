/- What Right of the reference answers, for every instruction. -/
import Derived.Test.YtgldkmabhmlijaaDoorRef
namespace Go.Proofs.YtgldkmabhmlijaaDoor
open Go.RowKit
set_option maxRecDepth 100000 in
set_option maxHeartbeats 4000000 in
theorem rRight_0 (c : Cod) (w : World) (h : 0 ≤ c.op ∧ c.op ≤ 26) (hs : sh c.op = 0) : Calls Tryd.prog 21 #[c.v] w fun e w' => e = .returned (.bool (rightC c)) ∧ Below w.heap.size w w' := by
  have hne := nmB_ne h
  have HS : Hid (∀ w, Calls Tryd.prog 20 #[.int .i64 c.op] w fun e w' => e = .returned (.int .i64 0) ∧ w' = w) := fun w => by have := Shape_any c.op w; rw [hs] at this; exact this
  have HR : Hid (rightC c = (zer c.a && zer c.b && zer c.c && zer c.n)) := by
    have h1 : decide (0 ≤ c.op) = true := by simp; omega
    have h2 : decide (c.op < 27) = true := by simp; omega
    simp [Hid, rightC, hs, h1, h2]
  clear hs h
  unfold Cod.v
  go_enter Tryd.func21, Tryd.ntmps21
  go_wp2_with (first | (go_at_call 36; refine (Name_any _ _).mono ?_; rintro e w' ⟨rfl, hw'⟩; rw [hw']; clear hw' w') | (go_at_call 20; refine (HS.out _).mono ?_; rintro e w' ⟨rfl, hw'⟩; rw [hw']; clear hw' w') | (go_at_call 37; refine (reg_any _ _).mono ?_; rintro e w' ⟨rfl, hw'⟩; rw [hw']; clear hw' w') | (go_at_call 38; refine (way_any _ _).mono ?_; rintro e w' ⟨rfl, hw'⟩; rw [hw']; clear hw' w'))
  all_goals
    go_ret
    refine ⟨?_, by go_grown⟩
    rw [HR.out]
    show Ending.returned (.bool _) = Ending.returned (.bool _)
    refine ret_bool ?_
    simp_all [zer] <;> first | rfl | omega
set_option maxRecDepth 100000 in
set_option maxHeartbeats 4000000 in
theorem rRight_1 (c : Cod) (w : World) (h : 0 ≤ c.op ∧ c.op ≤ 26) (hs : sh c.op = 1) : Calls Tryd.prog 21 #[c.v] w fun e w' => e = .returned (.bool (rightC c)) ∧ Below w.heap.size w w' := by
  have hne := nmB_ne h
  have HS : Hid (∀ w, Calls Tryd.prog 20 #[.int .i64 c.op] w fun e w' => e = .returned (.int .i64 1) ∧ w' = w) := fun w => by have := Shape_any c.op w; rw [hs] at this; exact this
  have HR : Hid (rightC c = (reg c.a && zer c.b && zer c.c && (decide (0 ≤ c.n) && decide (c.n ≤ 65535)))) := by
    have h1 : decide (0 ≤ c.op) = true := by simp; omega
    have h2 : decide (c.op < 27) = true := by simp; omega
    simp [Hid, rightC, hs, h1, h2]
  clear hs h
  unfold Cod.v
  go_enter Tryd.func21, Tryd.ntmps21
  go_wp2_with (first | (go_at_call 36; refine (Name_any _ _).mono ?_; rintro e w' ⟨rfl, hw'⟩; rw [hw']; clear hw' w') | (go_at_call 20; refine (HS.out _).mono ?_; rintro e w' ⟨rfl, hw'⟩; rw [hw']; clear hw' w') | (go_at_call 37; refine (reg_any _ _).mono ?_; rintro e w' ⟨rfl, hw'⟩; rw [hw']; clear hw' w') | (go_at_call 38; refine (way_any _ _).mono ?_; rintro e w' ⟨rfl, hw'⟩; rw [hw']; clear hw' w'))
  all_goals
    go_ret
    refine ⟨?_, by go_grown⟩
    rw [HR.out]
    show Ending.returned (.bool _) = Ending.returned (.bool _)
    refine ret_bool ?_
    simp_all [zer] <;> first | rfl | omega
set_option maxRecDepth 100000 in
set_option maxHeartbeats 4000000 in
theorem rRight_2 (c : Cod) (w : World) (h : 0 ≤ c.op ∧ c.op ≤ 26) (hs : sh c.op = 2) : Calls Tryd.prog 21 #[c.v] w fun e w' => e = .returned (.bool (rightC c)) ∧ Below w.heap.size w w' := by
  have hne := nmB_ne h
  have HS : Hid (∀ w, Calls Tryd.prog 20 #[.int .i64 c.op] w fun e w' => e = .returned (.int .i64 2) ∧ w' = w) := fun w => by have := Shape_any c.op w; rw [hs] at this; exact this
  have HR : Hid (rightC c = (reg c.a && reg c.b && zer c.c && zer c.n)) := by
    have h1 : decide (0 ≤ c.op) = true := by simp; omega
    have h2 : decide (c.op < 27) = true := by simp; omega
    simp [Hid, rightC, hs, h1, h2]
  clear hs h
  unfold Cod.v
  go_enter Tryd.func21, Tryd.ntmps21
  go_wp2_with (first | (go_at_call 36; refine (Name_any _ _).mono ?_; rintro e w' ⟨rfl, hw'⟩; rw [hw']; clear hw' w') | (go_at_call 20; refine (HS.out _).mono ?_; rintro e w' ⟨rfl, hw'⟩; rw [hw']; clear hw' w') | (go_at_call 37; refine (reg_any _ _).mono ?_; rintro e w' ⟨rfl, hw'⟩; rw [hw']; clear hw' w') | (go_at_call 38; refine (way_any _ _).mono ?_; rintro e w' ⟨rfl, hw'⟩; rw [hw']; clear hw' w'))
  all_goals
    go_ret
    refine ⟨?_, by go_grown⟩
    rw [HR.out]
    show Ending.returned (.bool _) = Ending.returned (.bool _)
    refine ret_bool ?_
    simp_all [zer] <;> first | rfl | omega
set_option maxRecDepth 100000 in
set_option maxHeartbeats 4000000 in
theorem rRight_3 (c : Cod) (w : World) (h : 0 ≤ c.op ∧ c.op ≤ 26) (hs : sh c.op = 3) : Calls Tryd.prog 21 #[c.v] w fun e w' => e = .returned (.bool (rightC c)) ∧ Below w.heap.size w w' := by
  have hne := nmB_ne h
  have HS : Hid (∀ w, Calls Tryd.prog 20 #[.int .i64 c.op] w fun e w' => e = .returned (.int .i64 3) ∧ w' = w) := fun w => by have := Shape_any c.op w; rw [hs] at this; exact this
  have HR : Hid (rightC c = (reg c.a && reg c.b && reg c.c && zer c.n)) := by
    have h1 : decide (0 ≤ c.op) = true := by simp; omega
    have h2 : decide (c.op < 27) = true := by simp; omega
    simp [Hid, rightC, hs, h1, h2]
  clear hs h
  unfold Cod.v
  go_enter Tryd.func21, Tryd.ntmps21
  go_wp2_with (first | (go_at_call 36; refine (Name_any _ _).mono ?_; rintro e w' ⟨rfl, hw'⟩; rw [hw']; clear hw' w') | (go_at_call 20; refine (HS.out _).mono ?_; rintro e w' ⟨rfl, hw'⟩; rw [hw']; clear hw' w') | (go_at_call 37; refine (reg_any _ _).mono ?_; rintro e w' ⟨rfl, hw'⟩; rw [hw']; clear hw' w') | (go_at_call 38; refine (way_any _ _).mono ?_; rintro e w' ⟨rfl, hw'⟩; rw [hw']; clear hw' w'))
  all_goals
    go_ret
    refine ⟨?_, by go_grown⟩
    rw [HR.out]
    show Ending.returned (.bool _) = Ending.returned (.bool _)
    refine ret_bool ?_
    simp_all [zer] <;> first | rfl | omega
set_option maxRecDepth 100000 in
set_option maxHeartbeats 4000000 in
theorem rRight_4 (c : Cod) (w : World) (h : 0 ≤ c.op ∧ c.op ≤ 26) (hs : sh c.op = 4) : Calls Tryd.prog 21 #[c.v] w fun e w' => e = .returned (.bool (rightC c)) ∧ Below w.heap.size w w' := by
  have hne := nmB_ne h
  have HS : Hid (∀ w, Calls Tryd.prog 20 #[.int .i64 c.op] w fun e w' => e = .returned (.int .i64 4) ∧ w' = w) := fun w => by have := Shape_any c.op w; rw [hs] at this; exact this
  have HR : Hid (rightC c = (reg c.a && reg c.b && zer c.c && (decide (0 ≤ c.n) && decide (c.n ≤ 255)))) := by
    have h1 : decide (0 ≤ c.op) = true := by simp; omega
    have h2 : decide (c.op < 27) = true := by simp; omega
    simp [Hid, rightC, hs, h1, h2]
  clear hs h
  unfold Cod.v
  go_enter Tryd.func21, Tryd.ntmps21
  go_wp2_with (first | (go_at_call 36; refine (Name_any _ _).mono ?_; rintro e w' ⟨rfl, hw'⟩; rw [hw']; clear hw' w') | (go_at_call 20; refine (HS.out _).mono ?_; rintro e w' ⟨rfl, hw'⟩; rw [hw']; clear hw' w') | (go_at_call 37; refine (reg_any _ _).mono ?_; rintro e w' ⟨rfl, hw'⟩; rw [hw']; clear hw' w') | (go_at_call 38; refine (way_any _ _).mono ?_; rintro e w' ⟨rfl, hw'⟩; rw [hw']; clear hw' w'))
  all_goals
    go_ret
    refine ⟨?_, by go_grown⟩
    rw [HR.out]
    show Ending.returned (.bool _) = Ending.returned (.bool _)
    refine ret_bool ?_
    simp_all [zer] <;> first | rfl | omega
set_option maxRecDepth 100000 in
set_option maxHeartbeats 4000000 in
theorem rRight_5 (c : Cod) (w : World) (h : 0 ≤ c.op ∧ c.op ≤ 26) (hs : sh c.op = 5) : Calls Tryd.prog 21 #[c.v] w fun e w' => e = .returned (.bool (rightC c)) ∧ Below w.heap.size w w' := by
  have hne := nmB_ne h
  have HS : Hid (∀ w, Calls Tryd.prog 20 #[.int .i64 c.op] w fun e w' => e = .returned (.int .i64 5) ∧ w' = w) := fun w => by have := Shape_any c.op w; rw [hs] at this; exact this
  have HR : Hid (rightC c = (zer c.a && zer c.b && zer c.c && way c.n)) := by
    have h1 : decide (0 ≤ c.op) = true := by simp; omega
    have h2 : decide (c.op < 27) = true := by simp; omega
    simp [Hid, rightC, hs, h1, h2]
  clear hs h
  unfold Cod.v
  go_enter Tryd.func21, Tryd.ntmps21
  go_wp2_with (first | (go_at_call 36; refine (Name_any _ _).mono ?_; rintro e w' ⟨rfl, hw'⟩; rw [hw']; clear hw' w') | (go_at_call 20; refine (HS.out _).mono ?_; rintro e w' ⟨rfl, hw'⟩; rw [hw']; clear hw' w') | (go_at_call 37; refine (reg_any _ _).mono ?_; rintro e w' ⟨rfl, hw'⟩; rw [hw']; clear hw' w') | (go_at_call 38; refine (way_any _ _).mono ?_; rintro e w' ⟨rfl, hw'⟩; rw [hw']; clear hw' w'))
  all_goals
    go_ret
    refine ⟨?_, by go_grown⟩
    rw [HR.out]
    show Ending.returned (.bool _) = Ending.returned (.bool _)
    refine ret_bool ?_
    simp_all [zer] <;> first | rfl | omega
set_option maxRecDepth 100000 in
set_option maxHeartbeats 4000000 in
theorem rRight_6 (c : Cod) (w : World) (h : 0 ≤ c.op ∧ c.op ≤ 26) (hs : sh c.op = 6) : Calls Tryd.prog 21 #[c.v] w fun e w' => e = .returned (.bool (rightC c)) ∧ Below w.heap.size w w' := by
  have hne := nmB_ne h
  have HS : Hid (∀ w, Calls Tryd.prog 20 #[.int .i64 c.op] w fun e w' => e = .returned (.int .i64 6) ∧ w' = w) := fun w => by have := Shape_any c.op w; rw [hs] at this; exact this
  have HR : Hid (rightC c = (reg c.a && zer c.b && zer c.c && way c.n)) := by
    have h1 : decide (0 ≤ c.op) = true := by simp; omega
    have h2 : decide (c.op < 27) = true := by simp; omega
    simp [Hid, rightC, hs, h1, h2]
  clear hs h
  unfold Cod.v
  go_enter Tryd.func21, Tryd.ntmps21
  go_wp2_with (first | (go_at_call 36; refine (Name_any _ _).mono ?_; rintro e w' ⟨rfl, hw'⟩; rw [hw']; clear hw' w') | (go_at_call 20; refine (HS.out _).mono ?_; rintro e w' ⟨rfl, hw'⟩; rw [hw']; clear hw' w') | (go_at_call 37; refine (reg_any _ _).mono ?_; rintro e w' ⟨rfl, hw'⟩; rw [hw']; clear hw' w') | (go_at_call 38; refine (way_any _ _).mono ?_; rintro e w' ⟨rfl, hw'⟩; rw [hw']; clear hw' w'))
  all_goals
    go_ret
    refine ⟨?_, by go_grown⟩
    rw [HR.out]
    show Ending.returned (.bool _) = Ending.returned (.bool _)
    refine ret_bool ?_
    simp_all [zer] <;> first | rfl | omega
theorem rRight_any (c : Cod) (w : World) : Calls Tryd.prog 21 #[c.v] w fun e w' => e = .returned (.bool (rightC c)) ∧ Below w.heap.size w w' := by
  by_cases h : 0 ≤ c.op ∧ c.op ≤ 26
  · rcases sh_cases c.op with hs | hs | hs | hs | hs | hs | hs
    · exact rRight_0 c w h hs
    · exact rRight_1 c w h hs
    · exact rRight_2 c w h hs
    · exact rRight_3 c w h hs
    · exact rRight_4 c w h hs
    · exact rRight_5 c w h hs
    · exact rRight_6 c w h hs
  · have HR : Hid (rightC c = false) := by
      have : (decide (0 ≤ c.op) && decide (c.op < 27)) = false := by simp only [Bool.and_eq_false_iff, decide_eq_false_iff_not]; omega
      simp only [Hid, rightC, this, Bool.false_and]
    have HN : Hid (∀ w, Calls Tryd.prog 36 #[.int .i64 c.op] w fun e w' => e = .returned (.string ⟨#[]⟩) ∧ w' = w) := fun w => Name_out c.op w h
    clear h
    unfold Cod.v
    go_enter Tryd.func21, Tryd.ntmps21
    go_wp2_with (first | (go_at_call 36; refine (HN.out _).mono ?_; rintro e w' ⟨rfl, hw'⟩; rw [hw']; clear hw' w'))
    go_ret
    exact ⟨by rw [HR.out]; rfl, by go_grown⟩
end Go.Proofs.YtgldkmabhmlijaaDoor
