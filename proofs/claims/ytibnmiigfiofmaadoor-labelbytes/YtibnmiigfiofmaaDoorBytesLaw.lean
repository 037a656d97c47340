/- LabelBytes answers true, for every label and every string, whatever the memory. -/
import Derived.Test.YtibnmiigfiofmaaDoorLives
import Derived.Test.YtibnmiigfiofmaaDoorSame
import Derived.Test.YtibnmiigfiofmaaDoorBytesM
import Derived.Test.YtibnmiigfiofmaaDoorRBytes
namespace Go.Proofs.YtibnmiigfiofmaaDoor
open Go.RowKit Go.Sort

theorem same_self (d : Int) (xs : List (Int × Int)) : sameS d d xs xs = true := by simp [sameS]
theorem labs1 {W : World} {b : Nat} {A : Lab} (h : W.heap[b]? = some (.cells #[.int .i64 A.d, .slice A.p A.xs.length A.cap] 24 (0, 0)))
    (ha : CatsAt W A.p A.xs ∧ A.xs.length ≤ maxLen) : LabsAt W b [A] := by
  intro j hj
  simp only [List.length_cons, List.length_nil] at hj
  match j, hj with
  | 0, _ => exact ⟨by simp [World.cell?, h], by simp [World.cell?, h], ha⟩

/-- What Read of a string answers, in the words of the law: refused, and then it isn't two bytes of a level and nought; or a right label, whose bytes the string is. -/
theorem read_cases (s : ByteArray) (hm : s.size ≤ maxLen) :
    (Hid (∀ W, Calls Tryd.prog 39 #[.string s] W fun e w' => ∃ p c, e = .returned (.tuple #[.agg #[.int .i64 0, .slice p 0 c], .int .i64 2]) ∧ Below W.heap.size W w') ∧ (s.size ≠ 2 ∨ (s.size = 2 ∧ by' s 1 ≠ 0) ∨ (s.size = 2 ∧ by' s 1 = 0 ∧ 5 < by' s 0))) ∨
    (∃ (d : Int) (xs : List (Int × Int)), rightS d xs = true ∧ lby (bytesI d xs.length xs) = s ∧ Hid (∀ W, Calls Tryd.prog 39 #[.string s] W fun e w' => ∃ p c, e = .returned (.tuple #[.agg #[.int .i64 d, .slice p xs.length c], .int .i64 0]) ∧ CatsAt w' p xs ∧ Below W.heap.size W w')) := by
  by_cases hb : s.size < 2 ∨ s.size ≠ 2 + 9 * by' s 1
  · refine .inl ⟨fun W => (Read_bad s W hm hb).mono fun e w' ⟨he, hb⟩ => ⟨none, 0, he, hb⟩, ?_⟩
    omega
  · have hs : s.size = 2 + 9 * by' s 1 := by omega
    have hR := fun W => Read_ok s (by' s 1) W hs rfl
    by_cases hr : rightS (by' s 0) (entL s (by' s 1)) = true
    · refine .inr ⟨(by' s 0 : Int), entL s (by' s 1), hr, read_bytes hs rfl hr, fun W => (hR W).mono ?_⟩
      rintro e w' ⟨v, rfl, hRw, hb⟩
      simp only [rD, rL, rE, hr, if_true] at hRw ⊢
      obtain ⟨p, c, rfl, hc, _⟩ := hRw.out
      exact ⟨p, c, rfl, hc, hb⟩
    · refine .inl ⟨fun W => (hR W).mono ?_, ?_⟩
      · rintro e w' ⟨v, rfl, hRw, hb⟩
        simp only [rD, rL, rE, hr] at hRw ⊢
        obtain ⟨p, c, rfl, hc, _⟩ := hRw.out
        exact ⟨p, c, rfl, hb⟩
      · by_cases h0 : by' s 1 = 0
        · refine .inr (.inr ⟨by omega, h0, ?_⟩)
          rw [h0] at hr
          have hn : ¬ (lev (by' s 0 : Int) = true) := fun h => hr (by simp [rightS, entL, rOk, h])
          simp [lev] at hn
          omega
        · exact .inl (by omega)

set_option maxRecDepth 100000 in
set_option maxHeartbeats 8000000 in
theorem LabelBytes_any (A : Lab) (s : ByteArray) (w : World) (ma : A.xs.length ≤ maxLen) (ms : s.size ≤ maxLen) (ha : CatsAt w A.p A.xs) :
    Calls Tryd.prog 8 #[.agg #[.int .i64 A.d, .slice A.p A.xs.length A.cap], .string s] w fun e w' => e = .returned (.bool true) ∧ Below w.heap.size w w' := by
  have RC := Lib.hid (read_cases s ms)
  unfold maxLen at ms
  obtain ⟨W3, hW3⟩ : ∃ W3, w.alloc (.cells #[.int .i64 A.d, .slice A.p A.xs.length A.cap] 24) = W3 := ⟨_, rfl⟩
  have hB3 : Below w.heap.size w W3 := by rw [← hW3]; go_grown
  have hz3 : W3.heap.size = w.heap.size + 1 := by rw [← hW3]; simp
  have a0 : W3.cell? ⟨w.heap.size, 0, none⟩ = some (.int .i64 A.d) := by rw [← hW3]; simp [go_sem]
  have a1 : W3.cell? ⟨w.heap.size, 1, none⟩ = some (.slice A.p A.xs.length A.cap) := by rw [← hW3]; simp [go_sem]
  have hL := lives_any W3
  go_enter Tryd.func8, Tryd.ntmps8
  go_wp2_with (go_at_call 9; refine hL.mono ?_; rintro e w1 ⟨rfl, hb1⟩; refine Hid.out ?_)
  refine Lib.hid ?_
  clear hL hW3
  have hB1 : Below w.heap.size w w1 := hB3.trans (hb1.mono hB3.size)
  have hz1 : w.heap.size + 1 ≤ w1.heap.size := by have := hb1.size; omega
  have d0 := (hb1.cell (p := ⟨w.heap.size, 0, none⟩) (by simp; omega)).trans a0
  have d1 := (hb1.cell (p := ⟨w.heap.size, 1, none⟩) (by simp; omega)).trans a1
  have hbA : Below w.heap.size w (w1.alloc (.cells #[.int .i64 A.d, .slice A.p A.xs.length A.cap] 24)) := hB1.alloc hB1.size _
  have hR := right_any w1.heap.size [A] _ (by simp) (by simp) (labs1 (World.alloc_heap_new w1 _) ⟨ha.below hbA, ma⟩)
  simp only [List.length_cons, List.length_nil, Nat.zero_add] at hR
  clear a0 a1
  by_cases hr : allRight [A] = true
  · rw [hr] at hR
    simp only [allRight, List.all_cons, List.all_nil, Bool.and_true] at hr
    have RA := right_rise hr
    have h16 := RA.2.2.1
    have hlim := right_lim (right_rok hr)
    obtain ⟨bb, hbb⟩ : ∃ b, b = lby (bytesI A.d A.xs.length A.xs) := ⟨_, rfl⟩
    have hbr := bytes_read hr
    have hbz : (lby (bytesI A.d A.xs.length A.xs)).size = 2 + 9 * A.xs.length := by rw [lby_size, bytesI_length]
    have H38 : Hid (∀ W, CatsAt W A.p A.xs → Calls Tryd.prog 38 #[.agg #[.int .i64 A.d, .slice A.p A.xs.length A.cap]] W fun e w' => e = .returned (.string bb) ∧ Below W.heap.size W w') := fun W h => by rw [hbb]; exact Bytes_any A.d A.p A.cap A.xs W (by omega) h
    have H40 : Hid (∀ W, CatsAt W A.p A.xs → Calls Tryd.prog 40 #[.agg #[.int .i64 A.d, .slice A.p A.xs.length A.cap]] W fun e w' => e = .returned (.string bb) ∧ Below W.heap.size W w') := fun W h => by rw [hbb]; exact rBytes_any A.d A.p A.cap A.xs W (by omega) (fun x hx => ⟨by have := (hlim x hx).1.1; omega, (hlim x hx).1.2⟩) h
    have H39 : Hid (∀ W, Calls Tryd.prog 39 #[.string bb] W fun e w' => ∃ p c, e = .returned (.tuple #[.agg #[.int .i64 A.d, .slice p A.xs.length c], .int .i64 0]) ∧ CatsAt w' p A.xs ∧ Below W.heap.size W w') := fun W => by
      rw [hbb]
      refine (Read_ok _ A.xs.length W hbz hbr.1).mono ?_
      rintro e w' ⟨v, rfl, hRw, hb⟩
      rw [hbr.2.2, hbr.2.1] at hRw ⊢
      simp only [rD, rL, rE, hr, if_true] at hRw ⊢
      obtain ⟨p, c, rfl, hc, _⟩ := hRw.out
      exact ⟨p, c, rfl, hc, hb⟩
    have sA := same_self A.d A.xs
    clear RA hbr hbz hbb hlim
    go_wp2_with (go_at_call 21; refine hR.mono ?_; rintro e w2 ⟨rfl, hb2⟩; refine Hid.out ?_)
    refine Lib.hid ?_
    clear hR
    have hB2 : Below w.heap.size w w2 := hbA.trans (hb2.mono hbA.size)
    have hb12 : Below w1.heap.size w1 w2 := ((Below.refl _ w1).alloc (Nat.le_refl _) _).trans (hb2.mono (by simp))
    have hz2 : w.heap.size + 1 ≤ w2.heap.size := by have := hb12.size; omega
    have HA : Hid (∀ W, Below w2.heap.size w2 W → CatsAt W A.p A.xs) := fun W h => (ha.below hB2).below h
    have i0 := (hb12.cell (p := ⟨w.heap.size, 0, none⟩) (by simp; omega)).trans d0
    have i1 := (hb12.cell (p := ⟨w.heap.size, 1, none⟩) (by simp; omega)).trans d1
    have HC : Hid (∀ W, Below w2.heap.size w2 W → W.cell? ⟨w.heap.size, 0, none⟩ = some (.int .i64 A.d) ∧ W.cell? ⟨w.heap.size, 1, none⟩ = some (.slice A.p A.xs.length A.cap)) := fun W h => ⟨(h.cell (p := ⟨w.heap.size, 0, none⟩) (by simp; omega)).trans i0, (h.cell (p := ⟨w.heap.size, 1, none⟩) (by simp; omega)).trans i1⟩
    clear ha hb1 hb2 d0 d1 hb12
    go_wp2_with (first
      | (go_at_call 38; refine Calls.mono (H38.out _ (HA.out _ (Below.refl _ _))) ?_; rintro e w3 ⟨rfl, hb3⟩)
      | (go_at_call 39; refine Calls.mono (H39.out _) ?_; rintro e w4 ⟨p4, c4, rfl, hc4, hb4⟩; refine Hid.out ?_))
    refine Lib.hid ?_
    have h24 : Below w2.heap.size w2 w4 := hb3.trans (hb4.mono hb3.size)
    clear i0 i1
    obtain ⟨m0, m1⟩ := HC.out w4 h24
    have g4 : w.heap.size < w4.heap.size := by have := h24.size; omega
    obtain ⟨X4, hX4⟩ : ∃ X, X = w4.alloc (.cells #[.int .i64 A.d, .slice p4 A.xs.length c4] 24) := ⟨_, rfl⟩
    have hbX4 : Below w4.heap.size w4 X4 := by rw [hX4]; exact (Below.refl _ _).alloc (Nat.le_refl _) _
    have hzX4 : X4.heap.size = w4.heap.size + 1 := by rw [hX4]; simp
    have k0 : X4.cell? ⟨w4.heap.size, 0, none⟩ = some (.int .i64 A.d) := by rw [hX4]; simp [go_sem]
    have k1 : X4.cell? ⟨w4.heap.size, 1, none⟩ = some (.slice p4 A.xs.length c4) := by rw [hX4]; simp [go_sem]
    have h2X : Below w2.heap.size w2 X4 := h24.trans (hbX4.mono h24.size)
    have hcX : CatsAt X4 p4 A.xs := hc4.below hbX4
    clear hb3 hb4
    go_wp2_with (go_at_call 40; rw [← hX4]; refine Calls.mono (H40.out _ (HA.out _ h2X)) ?_; rintro e w5 ⟨rfl, hb5⟩; refine Hid.out ?_)
    refine Lib.hid ?_
    have h25 : Below w2.heap.size w2 w5 := h2X.trans (hb5.mono h2X.size)
    clear m0 m1 hX4
    obtain ⟨m0, m1⟩ := HC.out w5 h25
    have q0 := (hb5.cell (p := ⟨w4.heap.size, 0, none⟩) (by simp; omega)).trans k0
    have q1 := (hb5.cell (p := ⟨w4.heap.size, 1, none⟩) (by simp; omega)).trans k1
    have hS := Same_any A.d A.d A.p p4 A.cap c4 A.xs A.xs w5 ma ma (HA.out _ h25) (hcX.below hb5)
    rw [sA] at hS
    have hBw5 : Below w.heap.size w w5 := hB2.trans (h25.mono hB2.size)
    clear H38 H39 H40
    go_wp2_with (go_at_call 20; refine hS.mono ?_; rintro e w6 ⟨rfl, hb6⟩; refine Hid.out ?_)
    refine Lib.hid ?_
    have hB6 : Below w.heap.size w w6 := hBw5.trans (hb6.mono hBw5.size)
    clear hS m0 m1 q0 q1 k0 k1 HC HA hcX hc4
    rcases RC.out with ⟨H39s, hE⟩ | ⟨dm, xm, hrm, hbm, H39s⟩
    · clear RC
      go_wp2_with (go_at_call 39; refine Calls.mono (H39s.out _) ?_; rintro e w7 ⟨p7, c7, rfl, hb7⟩; refine Hid.out ?_)
      refine Lib.hid ?_
      have hB7 : Below w.heap.size w w7 := hB6.trans (hb7.mono hB6.size)
      have hb7X : Below w7.heap.size w7 (w7.alloc (.cells #[.int .i64 0, .slice p7 0 c7] 24)) := (Below.refl _ _).alloc (Nat.le_refl _) _
      have H20 : Hid (∀ W, Calls Tryd.prog 20 #[.agg #[.int .i64 0, .slice p7 0 c7], .agg #[.int .i64 0, .slice none 0 0]] W fun e w' => e = .returned (.bool true) ∧ Below W.heap.size W w') := fun W => by
        have := Same_any 0 0 p7 none c7 0 [] [] W (by simp [maxLen]) (by simp [maxLen]) (fun j hj => by simp at hj) (fun j hj => by simp at hj)
        rw [same_self] at this; exact this
      clear H39s hb7
      rcases hE with hE | ⟨hE, h1⟩ | ⟨hE, h1, h0⟩
      · have hEi : ((s.size : Int) == 2) = false := by simp; omega
        go_wp2_with (go_at_call 20; refine Calls.mono (H20.out _) ?_; rintro e w8 ⟨rfl, hb8⟩)
        go_ret
        exact ⟨ret_bool (by simp), hB7.trans ((hb7X.trans (hb8.mono hb7X.size)).mono hB7.size)⟩
      · have hl1 : 1 < s.size := by omega
        have hl1i : (1 : Int) < (s.size : Int) := by omega
        have hg1 : s[1].toNat = by' s 1 := by_get s 1 hl1
        have hEi : ((s.size : Int) == 2) = true := by simp; omega
        have h1i : ((by' s 1 : Int) == 0) = false := by simp; omega
        go_wp2_with (go_at_call 20; refine Calls.mono (H20.out _) ?_; rintro e w8 ⟨rfl, hb8⟩)
        go_ret
        exact ⟨ret_bool (by simp), hB7.trans ((hb7X.trans (hb8.mono hb7X.size)).mono hB7.size)⟩
      · have hl1 : 1 < s.size := by omega
        have hl0 : 0 < s.size := by omega
        have hl1i : (1 : Int) < (s.size : Int) := by omega
        have hl0i : (0 : Int) < (s.size : Int) := by omega
        have hg1 : s[1].toNat = 0 := by rw [by_get s 1 hl1]; exact h1
        have hg0 : s[0].toNat = by' s 0 := by_get s 0 hl0
        have hEi : ((s.size : Int) == 2) = true := by simp; omega
        have h0i : ¬ (by' s 0 : Int) ≤ 5 := by omega
        have h0j : 5 < (by' s 0 : Int) := by omega
        go_wp2_with (go_at_call 20; refine Calls.mono (H20.out _) ?_; rintro e w8 ⟨rfl, hb8⟩)
        go_ret
        exact ⟨ret_bool (by simp; omega), hB7.trans ((hb7X.trans (hb8.mono hb7X.size)).mono hB7.size)⟩
    · clear RC
      go_wp2_with (go_at_call 39; refine Calls.mono (H39s.out _) ?_; rintro e w7 ⟨p7, c7, rfl, hc7, hb7⟩; refine Hid.out ?_)
      refine Lib.hid ?_
      have hB7 : Below w.heap.size w w7 := hB6.trans (hb7.mono hB6.size)
      obtain ⟨X7, hX7⟩ : ∃ X, X = w7.alloc (.cells #[.int .i64 dm, .slice p7 xm.length c7] 24) := ⟨_, rfl⟩
      have hbX7 : Below w7.heap.size w7 X7 := by rw [hX7]; exact (Below.refl _ _).alloc (Nat.le_refl _) _
      have hzX7 : X7.heap.size = w7.heap.size + 1 := by rw [hX7]; simp
      have k0 : X7.cell? ⟨w7.heap.size, 0, none⟩ = some (.int .i64 dm) := by rw [hX7]; simp [go_sem]
      have k1 : X7.cell? ⟨w7.heap.size, 1, none⟩ = some (.slice p7 xm.length c7) := by rw [hX7]; simp [go_sem]
      have hcX : CatsAt X7 p7 xm := hc7.below hbX7
      have RM := right_rise hrm
      have hxm : xm.length ≤ maxLen := by have := RM.2.2.1; unfold maxLen; omega
      have hlm := right_lim (right_rok hrm)
      have hbY : Below X7.heap.size X7 (X7.alloc (.cells #[.int .i64 dm, .slice p7 xm.length c7] 24)) := (Below.refl _ _).alloc (Nat.le_refl _) _
      have hRm := right_any X7.heap.size [⟨dm, p7, c7, xm⟩] _ (by simp) (by simp) (labs1 (A := ⟨dm, p7, c7, xm⟩) (World.alloc_heap_new X7 _) ⟨hcX.below hbY, hxm⟩)
      simp only [List.length_cons, List.length_nil, Nat.zero_add, allRight, List.all_cons, List.all_nil, Bool.and_true] at hRm
      rw [hrm] at hRm
      have hBX : Below w.heap.size w X7 := hB7.trans (hbX7.mono hB7.size)
      have H40m : Hid (∀ W, CatsAt W p7 xm → Calls Tryd.prog 40 #[.agg #[.int .i64 dm, .slice p7 xm.length c7]] W fun e w' => e = .returned (.string s) ∧ Below W.heap.size W w') := fun W h => by
        rw [← hbm]; exact rBytes_any dm p7 c7 xm W (by have := RM.2.2.1; omega) (fun x hx => ⟨by have := (hlm x hx).1.1; omega, (hlm x hx).1.2⟩) h
      have z7 : w7.heap.size < X7.heap.size := by omega
      clear H39s hb7 hc7 hbm hlm RM hrm
      go_wp2_with (go_at_call 21; rw [← hX7, ← hzX7]; refine hRm.mono ?_; rintro e w8 ⟨rfl, hb8⟩; refine Hid.out ?_)
      refine Lib.hid ?_
      have hb78 : Below X7.heap.size X7 w8 := hbY.trans (hb8.mono hbY.size)
      have q0 := (hb78.cell (p := ⟨w7.heap.size, 0, none⟩) z7).trans k0
      have q1 := (hb78.cell (p := ⟨w7.heap.size, 1, none⟩) z7).trans k1
      have hc8 := hcX.below hb78
      have hB8 : Below w.heap.size w w8 := hBX.trans (hb78.mono hBX.size)
      clear hRm k0 k1 hX7 hbY
      go_wp2_with (go_at_call 40; refine Calls.mono (H40m.out _ hc8) ?_; rintro e w9 ⟨rfl, hb9⟩)
      go_ret
      exact ⟨ret_bool (by simp), hB8.trans (hb9.mono hB8.size)⟩
  · have hr' : allRight [A] = false := by simpa using hr
    rw [hr'] at hR
    go_wp2_with (go_at_call 21; refine hR.mono ?_; rintro e w6 ⟨rfl, hb2⟩; refine Hid.out ?_)
    refine Lib.hid ?_
    have hB6 : Below w.heap.size w w6 := hbA.trans (hb2.mono hbA.size)
    clear hR hr hr' d0 d1 ha
    rcases RC.out with ⟨H39s, hE⟩ | ⟨dm, xm, hrm, hbm, H39s⟩
    · clear RC
      go_wp2_with (go_at_call 39; refine Calls.mono (H39s.out _) ?_; rintro e w7 ⟨p7, c7, rfl, hb7⟩; refine Hid.out ?_)
      refine Lib.hid ?_
      have hB7 : Below w.heap.size w w7 := hB6.trans (hb7.mono hB6.size)
      have hb7X : Below w7.heap.size w7 (w7.alloc (.cells #[.int .i64 0, .slice p7 0 c7] 24)) := (Below.refl _ _).alloc (Nat.le_refl _) _
      have H20 : Hid (∀ W, Calls Tryd.prog 20 #[.agg #[.int .i64 0, .slice p7 0 c7], .agg #[.int .i64 0, .slice none 0 0]] W fun e w' => e = .returned (.bool true) ∧ Below W.heap.size W w') := fun W => by
        have := Same_any 0 0 p7 none c7 0 [] [] W (by simp [maxLen]) (by simp [maxLen]) (fun j hj => by simp at hj) (fun j hj => by simp at hj)
        rw [same_self] at this; exact this
      clear H39s hb7
      rcases hE with hE | ⟨hE, h1⟩ | ⟨hE, h1, h0⟩
      · have hEi : ((s.size : Int) == 2) = false := by simp; omega
        go_wp2_with (go_at_call 20; refine Calls.mono (H20.out _) ?_; rintro e w8 ⟨rfl, hb8⟩)
        go_ret
        exact ⟨ret_bool (by simp), hB7.trans ((hb7X.trans (hb8.mono hb7X.size)).mono hB7.size)⟩
      · have hl1 : 1 < s.size := by omega
        have hl1i : (1 : Int) < (s.size : Int) := by omega
        have hg1 : s[1].toNat = by' s 1 := by_get s 1 hl1
        have hEi : ((s.size : Int) == 2) = true := by simp; omega
        have h1i : ((by' s 1 : Int) == 0) = false := by simp; omega
        go_wp2_with (go_at_call 20; refine Calls.mono (H20.out _) ?_; rintro e w8 ⟨rfl, hb8⟩)
        go_ret
        exact ⟨ret_bool (by simp), hB7.trans ((hb7X.trans (hb8.mono hb7X.size)).mono hB7.size)⟩
      · have hl1 : 1 < s.size := by omega
        have hl0 : 0 < s.size := by omega
        have hl1i : (1 : Int) < (s.size : Int) := by omega
        have hl0i : (0 : Int) < (s.size : Int) := by omega
        have hg1 : s[1].toNat = 0 := by rw [by_get s 1 hl1]; exact h1
        have hg0 : s[0].toNat = by' s 0 := by_get s 0 hl0
        have hEi : ((s.size : Int) == 2) = true := by simp; omega
        have h0i : ¬ (by' s 0 : Int) ≤ 5 := by omega
        have h0j : 5 < (by' s 0 : Int) := by omega
        go_wp2_with (go_at_call 20; refine Calls.mono (H20.out _) ?_; rintro e w8 ⟨rfl, hb8⟩)
        go_ret
        exact ⟨ret_bool (by simp; omega), hB7.trans ((hb7X.trans (hb8.mono hb7X.size)).mono hB7.size)⟩
    · clear RC
      go_wp2_with (go_at_call 39; refine Calls.mono (H39s.out _) ?_; rintro e w7 ⟨p7, c7, rfl, hc7, hb7⟩; refine Hid.out ?_)
      refine Lib.hid ?_
      have hB7 : Below w.heap.size w w7 := hB6.trans (hb7.mono hB6.size)
      obtain ⟨X7, hX7⟩ : ∃ X, X = w7.alloc (.cells #[.int .i64 dm, .slice p7 xm.length c7] 24) := ⟨_, rfl⟩
      have hbX7 : Below w7.heap.size w7 X7 := by rw [hX7]; exact (Below.refl _ _).alloc (Nat.le_refl _) _
      have hzX7 : X7.heap.size = w7.heap.size + 1 := by rw [hX7]; simp
      have k0 : X7.cell? ⟨w7.heap.size, 0, none⟩ = some (.int .i64 dm) := by rw [hX7]; simp [go_sem]
      have k1 : X7.cell? ⟨w7.heap.size, 1, none⟩ = some (.slice p7 xm.length c7) := by rw [hX7]; simp [go_sem]
      have hcX : CatsAt X7 p7 xm := hc7.below hbX7
      have RM := right_rise hrm
      have hxm : xm.length ≤ maxLen := by have := RM.2.2.1; unfold maxLen; omega
      have hlm := right_lim (right_rok hrm)
      have hbY : Below X7.heap.size X7 (X7.alloc (.cells #[.int .i64 dm, .slice p7 xm.length c7] 24)) := (Below.refl _ _).alloc (Nat.le_refl _) _
      have hRm := right_any X7.heap.size [⟨dm, p7, c7, xm⟩] _ (by simp) (by simp) (labs1 (A := ⟨dm, p7, c7, xm⟩) (World.alloc_heap_new X7 _) ⟨hcX.below hbY, hxm⟩)
      simp only [List.length_cons, List.length_nil, Nat.zero_add, allRight, List.all_cons, List.all_nil, Bool.and_true] at hRm
      rw [hrm] at hRm
      have hBX : Below w.heap.size w X7 := hB7.trans (hbX7.mono hB7.size)
      have H40m : Hid (∀ W, CatsAt W p7 xm → Calls Tryd.prog 40 #[.agg #[.int .i64 dm, .slice p7 xm.length c7]] W fun e w' => e = .returned (.string s) ∧ Below W.heap.size W w') := fun W h => by
        rw [← hbm]; exact rBytes_any dm p7 c7 xm W (by have := RM.2.2.1; omega) (fun x hx => ⟨by have := (hlm x hx).1.1; omega, (hlm x hx).1.2⟩) h
      have z7 : w7.heap.size < X7.heap.size := by omega
      clear H39s hb7 hc7 hbm hlm RM hrm
      go_wp2_with (go_at_call 21; rw [← hX7, ← hzX7]; refine hRm.mono ?_; rintro e w8 ⟨rfl, hb8⟩; refine Hid.out ?_)
      refine Lib.hid ?_
      have hb78 : Below X7.heap.size X7 w8 := hbY.trans (hb8.mono hbY.size)
      have q0 := (hb78.cell (p := ⟨w7.heap.size, 0, none⟩) z7).trans k0
      have q1 := (hb78.cell (p := ⟨w7.heap.size, 1, none⟩) z7).trans k1
      have hc8 := hcX.below hb78
      have hB8 : Below w.heap.size w w8 := hBX.trans (hb78.mono hBX.size)
      clear hRm k0 k1 hX7 hbY
      go_wp2_with (go_at_call 40; refine Calls.mono (H40m.out _ hc8) ?_; rintro e w9 ⟨rfl, hb9⟩)
      go_ret
      exact ⟨ret_bool (by simp), hB8.trans (hb9.mono hB8.size)⟩

end Go.Proofs.YtibnmiigfiofmaaDoor
