/- What Encode of the reference answers, for every right instruction. -/
import Derived.Test.YtgldkmabhmlijaaGreatDoorRef
import Derived.Test.YtgldkmabhmlijaaGreatDoorEncode
namespace Go.Proofs.YtgldkmabhmlijaaGreatDoor
open Go.RowKit Go.Sort
theorem right_lim {c : Cod} (h : rightC c = true) : (0 ≤ c.op ∧ c.op ≤ 26) ∧ (0 ≤ c.a ∧ c.a ≤ 15) ∧ (0 ≤ c.b ∧ c.b ≤ 15) ∧ (0 ≤ c.c ∧ c.c ≤ 15) ∧ (-32768 ≤ c.n ∧ c.n ≤ 65535) := by
  obtain ⟨op, a, b, d, n⟩ := c
  unfold rightC at h
  simp only [Bool.and_eq_true, decide_eq_true_eq] at h ⊢
  obtain ⟨h0, h1⟩ := h
  rcases sh_cases op with hs | hs | hs | hs | hs | hs | hs <;> simp [hs, reg, way, zer] at h1 <;> omega
set_option maxRecDepth 100000 in
set_option maxHeartbeats 4000000 in
theorem rEncode_0 (c : Cod) (w : World) (l1 : 0 ≤ c.op ∧ c.op ≤ 26) (l2 : 0 ≤ c.a ∧ c.a ≤ 15) (l3 : 0 ≤ c.b ∧ c.b ≤ 15) (l4 : 0 ≤ c.c ∧ c.c ≤ 15) (_l5 : -32768 ≤ c.n ∧ c.n ≤ 65535) (hn : c.n = 0) (hs : sh c.op = 0) : Calls Tryz.prog 31 #[c.v] w fun e w' => e = .returned (.string (q4s (c.op, c.a, c.b, c.c))) ∧ Below w.heap.size w w' := by
  have hn0 : ¬ c.n < 0 := by omega
  clear hn
  have HS : Hid (∀ w, Calls Tryz.prog 20 #[.int .i64 c.op] w fun e w' => e = .returned (.int .i64 0) ∧ w' = w) := fun w => by have := Shape_any c.op w; rw [hs] at this; exact this
  have hok : okQ (c.op, c.a, c.b, c.c) := by unfold okQ; simp only; omega
  have hA := At4.new (w.alloc (.cells #[.int .i64 c.op, .int .i64 c.a, .int .i64 c.b, .int .i64 c.c, .int .i64 c.n] 24)) (c.op, c.a, c.b, c.c) 5
  rw [World.size_alloc] at hA
  have hcv := conv4 _ _ _ hok hA
  simp only at hcv
  clear hs hA hok
  unfold Cod.v
  go_enter Tryz.func31, Tryz.ntmps31
  go_wp2_with (first | (go_at_call 20; refine (HS.out _).mono ?_; rintro e w' ⟨rfl, hw'⟩; rw [hw']; clear hw' w'))
  go_ret
  exact ⟨rfl, by go_grown⟩
set_option maxRecDepth 100000 in
set_option maxHeartbeats 4000000 in
theorem rEncode_1 (c : Cod) (w : World) (l1 : 0 ≤ c.op ∧ c.op ≤ 26) (l2 : 0 ≤ c.a ∧ c.a ≤ 15) (l3 : 0 ≤ c.b ∧ c.b ≤ 15) (l4 : 0 ≤ c.c ∧ c.c ≤ 15) (l5 : -32768 ≤ c.n ∧ c.n ≤ 65535) (hn : 0 ≤ c.n) (hs : sh c.op = 1) : Calls Tryz.prog 31 #[c.v] w fun e w' => e = .returned (.string (q4s (c.op, c.a, c.n % 256, c.n / 256))) ∧ Below w.heap.size w w' := by
  have hn0 : ¬ c.n < 0 := by omega
  have HS : Hid (∀ w, Calls Tryz.prog 20 #[.int .i64 c.op] w fun e w' => e = .returned (.int .i64 1) ∧ w' = w) := fun w => by have := Shape_any c.op w; rw [hs] at this; exact this
  have hok : okQ (c.op, c.a, c.n % 256, c.n / 256) := by unfold okQ; simp only; omega
  have hA := At4.new (w.alloc (.cells #[.int .i64 c.op, .int .i64 c.a, .int .i64 c.b, .int .i64 c.c, .int .i64 c.n] 24)) (c.op, c.a, c.n % 256, c.n / 256) 5
  rw [World.size_alloc] at hA
  have hcv := conv4 _ _ _ hok hA
  simp only at hcv
  clear hs hA hok
  unfold Cod.v
  go_enter Tryz.func31, Tryz.ntmps31
  go_wp2_with (first | (go_at_call 20; refine (HS.out _).mono ?_; rintro e w' ⟨rfl, hw'⟩; rw [hw']; clear hw' w'))
  go_ret
  exact ⟨rfl, by go_grown⟩
set_option maxRecDepth 100000 in
set_option maxHeartbeats 4000000 in
theorem rEncode_2 (c : Cod) (w : World) (l1 : 0 ≤ c.op ∧ c.op ≤ 26) (l2 : 0 ≤ c.a ∧ c.a ≤ 15) (l3 : 0 ≤ c.b ∧ c.b ≤ 15) (l4 : 0 ≤ c.c ∧ c.c ≤ 15) (_l5 : -32768 ≤ c.n ∧ c.n ≤ 65535) (hn : c.n = 0) (hs : sh c.op = 2) : Calls Tryz.prog 31 #[c.v] w fun e w' => e = .returned (.string (q4s (c.op, c.a, c.b, c.c))) ∧ Below w.heap.size w w' := by
  have hn0 : ¬ c.n < 0 := by omega
  clear hn
  have HS : Hid (∀ w, Calls Tryz.prog 20 #[.int .i64 c.op] w fun e w' => e = .returned (.int .i64 2) ∧ w' = w) := fun w => by have := Shape_any c.op w; rw [hs] at this; exact this
  have hok : okQ (c.op, c.a, c.b, c.c) := by unfold okQ; simp only; omega
  have hA := At4.new (w.alloc (.cells #[.int .i64 c.op, .int .i64 c.a, .int .i64 c.b, .int .i64 c.c, .int .i64 c.n] 24)) (c.op, c.a, c.b, c.c) 5
  rw [World.size_alloc] at hA
  have hcv := conv4 _ _ _ hok hA
  simp only at hcv
  clear hs hA hok
  unfold Cod.v
  go_enter Tryz.func31, Tryz.ntmps31
  go_wp2_with (first | (go_at_call 20; refine (HS.out _).mono ?_; rintro e w' ⟨rfl, hw'⟩; rw [hw']; clear hw' w'))
  go_ret
  exact ⟨rfl, by go_grown⟩
set_option maxRecDepth 100000 in
set_option maxHeartbeats 4000000 in
theorem rEncode_3 (c : Cod) (w : World) (l1 : 0 ≤ c.op ∧ c.op ≤ 26) (l2 : 0 ≤ c.a ∧ c.a ≤ 15) (l3 : 0 ≤ c.b ∧ c.b ≤ 15) (l4 : 0 ≤ c.c ∧ c.c ≤ 15) (_l5 : -32768 ≤ c.n ∧ c.n ≤ 65535) (hn : c.n = 0) (hs : sh c.op = 3) : Calls Tryz.prog 31 #[c.v] w fun e w' => e = .returned (.string (q4s (c.op, c.a, c.b, c.c))) ∧ Below w.heap.size w w' := by
  have hn0 : ¬ c.n < 0 := by omega
  clear hn
  have HS : Hid (∀ w, Calls Tryz.prog 20 #[.int .i64 c.op] w fun e w' => e = .returned (.int .i64 3) ∧ w' = w) := fun w => by have := Shape_any c.op w; rw [hs] at this; exact this
  have hok : okQ (c.op, c.a, c.b, c.c) := by unfold okQ; simp only; omega
  have hA := At4.new (w.alloc (.cells #[.int .i64 c.op, .int .i64 c.a, .int .i64 c.b, .int .i64 c.c, .int .i64 c.n] 24)) (c.op, c.a, c.b, c.c) 5
  rw [World.size_alloc] at hA
  have hcv := conv4 _ _ _ hok hA
  simp only at hcv
  clear hs hA hok
  unfold Cod.v
  go_enter Tryz.func31, Tryz.ntmps31
  go_wp2_with (first | (go_at_call 20; refine (HS.out _).mono ?_; rintro e w' ⟨rfl, hw'⟩; rw [hw']; clear hw' w'))
  go_ret
  exact ⟨rfl, by go_grown⟩
set_option maxRecDepth 100000 in
set_option maxHeartbeats 4000000 in
theorem rEncode_4 (c : Cod) (w : World) (l1 : 0 ≤ c.op ∧ c.op ≤ 26) (l2 : 0 ≤ c.a ∧ c.a ≤ 15) (l3 : 0 ≤ c.b ∧ c.b ≤ 15) (l4 : 0 ≤ c.c ∧ c.c ≤ 15) (l5 : -32768 ≤ c.n ∧ c.n ≤ 65535) (hn : 0 ≤ c.n ∧ c.n ≤ 255) (hs : sh c.op = 4) : Calls Tryz.prog 31 #[c.v] w fun e w' => e = .returned (.string (q4s (c.op, c.a, c.b, c.n))) ∧ Below w.heap.size w w' := by
  have hn0 : ¬ c.n < 0 := by omega
  have HS : Hid (∀ w, Calls Tryz.prog 20 #[.int .i64 c.op] w fun e w' => e = .returned (.int .i64 4) ∧ w' = w) := fun w => by have := Shape_any c.op w; rw [hs] at this; exact this
  have hok : okQ (c.op, c.a, c.b, c.n) := by unfold okQ; simp only; omega
  have hA := At4.new (w.alloc (.cells #[.int .i64 c.op, .int .i64 c.a, .int .i64 c.b, .int .i64 c.c, .int .i64 c.n] 24)) (c.op, c.a, c.b, c.n) 5
  rw [World.size_alloc] at hA
  have hcv := conv4 _ _ _ hok hA
  simp only at hcv
  clear hs hA hok
  unfold Cod.v
  go_enter Tryz.func31, Tryz.ntmps31
  go_wp2_with (first | (go_at_call 20; refine (HS.out _).mono ?_; rintro e w' ⟨rfl, hw'⟩; rw [hw']; clear hw' w'))
  go_ret
  exact ⟨rfl, by go_grown⟩
set_option maxRecDepth 100000 in
set_option maxHeartbeats 4000000 in
theorem rEncode_5n (c : Cod) (w : World) (l1 : 0 ≤ c.op ∧ c.op ≤ 26) (l2 : 0 ≤ c.a ∧ c.a ≤ 15) (l3 : 0 ≤ c.b ∧ c.b ≤ 15) (l4 : 0 ≤ c.c ∧ c.c ≤ 15) (l5 : -32768 ≤ c.n ∧ c.n ≤ 65535) (hn : c.n < 0) (hs : sh c.op = 5) : Calls Tryz.prog 31 #[c.v] w fun e w' => e = .returned (.string (q4s (c.op, c.a, (c.n + 65536) % 256, (c.n + 65536) / 256))) ∧ Below w.heap.size w w' := by
  have HS : Hid (∀ w, Calls Tryz.prog 20 #[.int .i64 c.op] w fun e w' => e = .returned (.int .i64 5) ∧ w' = w) := fun w => by have := Shape_any c.op w; rw [hs] at this; exact this
  have hok : okQ (c.op, c.a, (c.n + 65536) % 256, (c.n + 65536) / 256) := by unfold okQ; simp only; omega
  have hA := At4.new (w.alloc (.cells #[.int .i64 c.op, .int .i64 c.a, .int .i64 c.b, .int .i64 c.c, .int .i64 c.n] 24)) (c.op, c.a, (c.n + 65536) % 256, (c.n + 65536) / 256) 5
  rw [World.size_alloc] at hA
  have hcv := conv4 _ _ _ hok hA
  simp only at hcv
  clear hs hA hok
  unfold Cod.v
  go_enter Tryz.func31, Tryz.ntmps31
  go_wp2_with (first | (go_at_call 20; refine (HS.out _).mono ?_; rintro e w' ⟨rfl, hw'⟩; rw [hw']; clear hw' w'))
  go_ret
  exact ⟨rfl, by go_grown⟩
set_option maxRecDepth 100000 in
set_option maxHeartbeats 4000000 in
theorem rEncode_5p (c : Cod) (w : World) (l1 : 0 ≤ c.op ∧ c.op ≤ 26) (l2 : 0 ≤ c.a ∧ c.a ≤ 15) (l3 : 0 ≤ c.b ∧ c.b ≤ 15) (l4 : 0 ≤ c.c ∧ c.c ≤ 15) (l5 : -32768 ≤ c.n ∧ c.n ≤ 65535) (hn : 0 ≤ c.n) (hs : sh c.op = 5) : Calls Tryz.prog 31 #[c.v] w fun e w' => e = .returned (.string (q4s (c.op, c.a, c.n % 256, c.n / 256))) ∧ Below w.heap.size w w' := by
  have hn0 : ¬ c.n < 0 := by omega
  have HS : Hid (∀ w, Calls Tryz.prog 20 #[.int .i64 c.op] w fun e w' => e = .returned (.int .i64 5) ∧ w' = w) := fun w => by have := Shape_any c.op w; rw [hs] at this; exact this
  have hok : okQ (c.op, c.a, c.n % 256, c.n / 256) := by unfold okQ; simp only; omega
  have hA := At4.new (w.alloc (.cells #[.int .i64 c.op, .int .i64 c.a, .int .i64 c.b, .int .i64 c.c, .int .i64 c.n] 24)) (c.op, c.a, c.n % 256, c.n / 256) 5
  rw [World.size_alloc] at hA
  have hcv := conv4 _ _ _ hok hA
  simp only at hcv
  clear hs hA hok
  unfold Cod.v
  go_enter Tryz.func31, Tryz.ntmps31
  go_wp2_with (first | (go_at_call 20; refine (HS.out _).mono ?_; rintro e w' ⟨rfl, hw'⟩; rw [hw']; clear hw' w'))
  go_ret
  exact ⟨rfl, by go_grown⟩
set_option maxRecDepth 100000 in
set_option maxHeartbeats 4000000 in
theorem rEncode_6n (c : Cod) (w : World) (l1 : 0 ≤ c.op ∧ c.op ≤ 26) (l2 : 0 ≤ c.a ∧ c.a ≤ 15) (l3 : 0 ≤ c.b ∧ c.b ≤ 15) (l4 : 0 ≤ c.c ∧ c.c ≤ 15) (l5 : -32768 ≤ c.n ∧ c.n ≤ 65535) (hn : c.n < 0) (hs : sh c.op = 6) : Calls Tryz.prog 31 #[c.v] w fun e w' => e = .returned (.string (q4s (c.op, c.a, (c.n + 65536) % 256, (c.n + 65536) / 256))) ∧ Below w.heap.size w w' := by
  have HS : Hid (∀ w, Calls Tryz.prog 20 #[.int .i64 c.op] w fun e w' => e = .returned (.int .i64 6) ∧ w' = w) := fun w => by have := Shape_any c.op w; rw [hs] at this; exact this
  have hok : okQ (c.op, c.a, (c.n + 65536) % 256, (c.n + 65536) / 256) := by unfold okQ; simp only; omega
  have hA := At4.new (w.alloc (.cells #[.int .i64 c.op, .int .i64 c.a, .int .i64 c.b, .int .i64 c.c, .int .i64 c.n] 24)) (c.op, c.a, (c.n + 65536) % 256, (c.n + 65536) / 256) 5
  rw [World.size_alloc] at hA
  have hcv := conv4 _ _ _ hok hA
  simp only at hcv
  clear hs hA hok
  unfold Cod.v
  go_enter Tryz.func31, Tryz.ntmps31
  go_wp2_with (first | (go_at_call 20; refine (HS.out _).mono ?_; rintro e w' ⟨rfl, hw'⟩; rw [hw']; clear hw' w'))
  go_ret
  exact ⟨rfl, by go_grown⟩
set_option maxRecDepth 100000 in
set_option maxHeartbeats 4000000 in
theorem rEncode_6p (c : Cod) (w : World) (l1 : 0 ≤ c.op ∧ c.op ≤ 26) (l2 : 0 ≤ c.a ∧ c.a ≤ 15) (l3 : 0 ≤ c.b ∧ c.b ≤ 15) (l4 : 0 ≤ c.c ∧ c.c ≤ 15) (l5 : -32768 ≤ c.n ∧ c.n ≤ 65535) (hn : 0 ≤ c.n) (hs : sh c.op = 6) : Calls Tryz.prog 31 #[c.v] w fun e w' => e = .returned (.string (q4s (c.op, c.a, c.n % 256, c.n / 256))) ∧ Below w.heap.size w w' := by
  have hn0 : ¬ c.n < 0 := by omega
  have HS : Hid (∀ w, Calls Tryz.prog 20 #[.int .i64 c.op] w fun e w' => e = .returned (.int .i64 6) ∧ w' = w) := fun w => by have := Shape_any c.op w; rw [hs] at this; exact this
  have hok : okQ (c.op, c.a, c.n % 256, c.n / 256) := by unfold okQ; simp only; omega
  have hA := At4.new (w.alloc (.cells #[.int .i64 c.op, .int .i64 c.a, .int .i64 c.b, .int .i64 c.c, .int .i64 c.n] 24)) (c.op, c.a, c.n % 256, c.n / 256) 5
  rw [World.size_alloc] at hA
  have hcv := conv4 _ _ _ hok hA
  simp only at hcv
  clear hs hA hok
  unfold Cod.v
  go_enter Tryz.func31, Tryz.ntmps31
  go_wp2_with (first | (go_at_call 20; refine (HS.out _).mono ?_; rintro e w' ⟨rfl, hw'⟩; rw [hw']; clear hw' w'))
  go_ret
  exact ⟨rfl, by go_grown⟩
theorem rEncode_any (c : Cod) (w : World) (h : rightC c = true) : Calls Tryz.prog 31 #[c.v] w fun e w' => e = .returned (.string (q4s (bytesC c))) ∧ Below w.heap.size w w' := by
  obtain ⟨l1, l2, l3, l4, l5⟩ := right_lim h
  have h' := h
  unfold rightC at h'
  simp only [Bool.and_eq_true, decide_eq_true_eq] at h'
  have h1 := h'.2
  rcases sh_cases c.op with hs | hs | hs | hs | hs | hs | hs <;> simp [hs, reg, way, zer] at h1
  · refine (rEncode_0 c w l1 l2 l3 l4 l5 (by omega) hs).mono ?_
    rintro e w' ⟨rfl, hb⟩
    refine ⟨by congr 3; simp [bytesC, hs, pk, pkW, wd]; omega, hb⟩
  · refine (rEncode_1 c w l1 l2 l3 l4 l5 (by omega) hs).mono ?_
    rintro e w' ⟨rfl, hb⟩
    refine ⟨by congr 3; simp [bytesC, hs, pk, pkW, wd]; omega, hb⟩
  · refine (rEncode_2 c w l1 l2 l3 l4 l5 (by omega) hs).mono ?_
    rintro e w' ⟨rfl, hb⟩
    refine ⟨by congr 3; simp [bytesC, hs, pk, pkW, wd]; omega, hb⟩
  · refine (rEncode_3 c w l1 l2 l3 l4 l5 (by omega) hs).mono ?_
    rintro e w' ⟨rfl, hb⟩
    refine ⟨by congr 3; simp [bytesC, hs, pk, pkW, wd]; omega, hb⟩
  · refine (rEncode_4 c w l1 l2 l3 l4 l5 (by omega) hs).mono ?_
    rintro e w' ⟨rfl, hb⟩
    refine ⟨by congr 3; simp [bytesC, hs, pk, pkW, wd]; omega, hb⟩
  · by_cases hn : c.n < 0
    · refine (rEncode_5n c w l1 l2 l3 l4 l5 hn hs).mono ?_
      rintro e w' ⟨rfl, hb⟩
      refine ⟨by congr 3; simp [bytesC, hs, pk, pkW, wd]; omega, hb⟩
    · refine (rEncode_5p c w l1 l2 l3 l4 l5 (by omega) hs).mono ?_
      rintro e w' ⟨rfl, hb⟩
      refine ⟨by congr 3; simp [bytesC, hs, pk, pkW, wd]; omega, hb⟩
  · by_cases hn : c.n < 0
    · refine (rEncode_6n c w l1 l2 l3 l4 l5 hn hs).mono ?_
      rintro e w' ⟨rfl, hb⟩
      refine ⟨by congr 3; simp [bytesC, hs, pk, pkW, wd]; omega, hb⟩
    · refine (rEncode_6p c w l1 l2 l3 l4 l5 (by omega) hs).mono ?_
      rintro e w' ⟨rfl, hb⟩
      refine ⟨by congr 3; simp [bytesC, hs, pk, pkW, wd]; omega, hb⟩
end Go.Proofs.YtgldkmabhmlijaaGreatDoor
