/- What Text of the reference answers, for every right instruction. -/
import Derived.Test.YtgldkmabhmlijaaGreatDoorNumber
import Derived.Test.YtgldkmabhmlijaaGreatDoorTail
namespace Go.Proofs.YtgldkmabhmlijaaGreatDoor
open Go.RowKit Go.Sort
def rB (n : Int) : ByteArray := ⟨(32 :: 114 :: Lib.itoa n).toArray⟩
def nB (n : Int) : ByteArray := ⟨(Lib.itoa n).toArray⟩
theorem rB_size (n : Int) (h : -1000000 ≤ n ∧ n ≤ 1000000) : (rB n).size ≤ 30 := by
  show (32 :: 114 :: Lib.itoa n).length ≤ 30
  have := itoa_len n (by omega) (by omega)
  simp only [List.length_cons]; omega
theorem nB_size (n : Int) (h : -1000000 ≤ n ∧ n ≤ 1000000) : (nB n).size ≤ 30 := by
  show (Lib.itoa n).length ≤ 30
  have := itoa_len n (by omega) (by omega)
  omega
theorem nmB_size (op : Int) : (nmB op).size ≤ 4 := by
  unfold nmB; split
  · exact nm_len _
  · decide
theorem nmB_list {op : Int} (h : 0 ≤ op) : (nmB op).data.toList = nmL.getD op.toNat [] := by unfold nmB; rw [if_pos h]
theorem ba_eq {a b : ByteArray} (h : a.data.toList = b.data.toList) : a = b := ByteArray.ext (Array.toList_inj.1 h)
set_option maxRecDepth 100000 in
set_option maxHeartbeats 2000000 in
theorem rText_0 (c : Cod) (w : World) (h : rightC c = true) (hs : sh c.op = 0) : Calls Tryz.prog 8 #[c.v] w fun e w' => e = .returned (.string ⟨(textC c).toArray⟩) ∧ Below w.heap.size w w' := by
  obtain ⟨l1, l2, l3, l4, l5⟩ := right_lim h
  have HS : Hid (∀ w, Calls Tryz.prog 20 #[.int .i64 c.op] w fun e w' => e = .returned (.int .i64 0) ∧ w' = w) := fun w => by have := Shape_any c.op w; rw [hs] at this; exact this
  have HN := Lib.hid (Name_any c.op)
  have HT : Hid ((⟨(textC c).toArray⟩ : ByteArray) = nmB c.op) := by
    apply ba_eq
    show textC c = _
    simp [textC, txK, hs, wd, tw, nmB_list l1.1]
  have z0 := nmB_size c.op
  generalize nmB c.op = nb at *
  have hbA : Below w.heap.size w (w.alloc (.cells #[.int .i64 c.op, .int .i64 c.a, .int .i64 c.b, .int .i64 c.c, .int .i64 c.n] 24)) := (Below.refl _ _).alloc (Nat.le_refl _) _
  obtain ⟨cl, ⟨b0, b1, b2, b3, b4⟩, _⟩ := At5.new w c 24
  unfold Cod.v
  go_enter Tryz.func8, Tryz.ntmps8
  go_wp2_with (first | (go_at_call 19; refine (HN.out _).mono ?_; rintro e w' ⟨rfl, hw'⟩; rw [hw']; clear hw' w') | (go_at_call 20; refine (HS.out _).mono ?_; rintro e w' ⟨rfl, hw'⟩; rw [hw']; clear hw' w'))
  go_ret
  exact ⟨by rw [HT.out]; rfl, hbA⟩
set_option maxRecDepth 100000 in
set_option maxHeartbeats 2000000 in
theorem rText_1 (c : Cod) (w : World) (h : rightC c = true) (hs : sh c.op = 1) : Calls Tryz.prog 8 #[c.v] w fun e w' => e = .returned (.string ⟨(textC c).toArray⟩) ∧ Below w.heap.size w w' := by
  obtain ⟨l1, l2, l3, l4, l5⟩ := right_lim h
  have HS : Hid (∀ w, Calls Tryz.prog 20 #[.int .i64 c.op] w fun e w' => e = .returned (.int .i64 1) ∧ w' = w) := fun w => by have := Shape_any c.op w; rw [hs] at this; exact this
  have HN := Lib.hid (Name_any c.op)
  have HT : Hid ((⟨(textC c).toArray⟩ : ByteArray) = nmB c.op ++ (rB c.a) ++ ⟨#[32]⟩ ++ (nB c.n)) := by
    apply ba_eq
    show textC c = _
    simp [textC, txK, hs, wd, tw, fld, ByteArray.data_append, nmB_list l1.1, nB, rB]
  have HA : Hid (∀ W, Calls Tryz.prog 25 #[.int .i64 c.a] W fun e w' => e = .returned (.string (rB c.a)) ∧ Below W.heap.size W w') := fun W => r_any c.a W (by omega)
  have za := rB_size c.a (by omega)
  have HNu : Hid (∀ W, Calls Tryz.prog 26 #[.int .i64 c.n] W fun e w' => e = .returned (.string (nB c.n)) ∧ Below W.heap.size W w') := fun W => Number_any c.n W (by omega)
  have zn := nB_size c.n (by omega)
  have z0 := nmB_size c.op
  generalize rB c.a = ra at *
  generalize nB c.n = rn at *
  generalize nmB c.op = nb at *
  have z32 : (⟨#[32]⟩ : ByteArray).size = 1 := rfl
  have y0 : nb.size + (ra).size ≤ 9223372036854775807 := by omega
  have y1 : (nb ++ ra).size + ((⟨#[32]⟩ : ByteArray)).size ≤ 9223372036854775807 := by simp only [ByteArray.size_append]; omega
  have y2 : (nb ++ ra ++ (⟨#[32]⟩ : ByteArray)).size + (rn).size ≤ 9223372036854775807 := by simp only [ByteArray.size_append]; omega
  have hbA : Below w.heap.size w (w.alloc (.cells #[.int .i64 c.op, .int .i64 c.a, .int .i64 c.b, .int .i64 c.c, .int .i64 c.n] 24)) := (Below.refl _ _).alloc (Nat.le_refl _) _
  obtain ⟨cl, ⟨b0, b1, b2, b3, b4⟩, _⟩ := At5.new w c 24
  unfold Cod.v
  go_enter Tryz.func8, Tryz.ntmps8
  go_wp2_with (first | (go_at_call 19; refine (HN.out _).mono ?_; rintro e w' ⟨rfl, hw'⟩; rw [hw']; clear hw' w') | (go_at_call 20; refine (HS.out _).mono ?_; rintro e w' ⟨rfl, hw'⟩; rw [hw']; clear hw' w'))
  generalize w.alloc (.cells #[.int .i64 c.op, .int .i64 c.a, .int .i64 c.b, .int .i64 c.c, .int .i64 c.n] 24) = W0 at hbA cl b0 b1 b2 b3 b4 ⊢
  have g1 : ∀ n os, (gx W0 n os).cell? ⟨w.heap.size, 1, none⟩ = some (.int .i64 c.a) := cell_gx cl b1
  have g2 : ∀ n os, (gx W0 n os).cell? ⟨w.heap.size, 2, none⟩ = some (.int .i64 c.b) := cell_gx cl b2
  have g3 : ∀ n os, (gx W0 n os).cell? ⟨w.heap.size, 3, none⟩ = some (.int .i64 c.c) := cell_gx cl b3
  have g4 : ∀ n os, (gx W0 n os).cell? ⟨w.heap.size, 4, none⟩ = some (.int .i64 c.n) := cell_gx cl b4
  clear b0 b1 b2 b3 b4
  refine wp_region_quiet_gx (by kernel_rfl) (by kernel_rfl) ?_
  repeat (first | go_big_quiet_step (first
    | (go_at_call 25; with_reducible exact calls_gx (HA.out _))
    | (go_at_call 26; with_reducible exact calls_gx (HNu.out _))) | (refine wpQuiet_step (fun K hK => ?_); go_simp; split <;> first | (exfalso; omega) | (refine hK _ ?_; clear hK K)))
  refine wpQuiet_nil ?_
  intro _ hw'
  obtain ⟨⟨nq, osq⟩, hw''⟩ := hw'
  subst hw''
  go_wp2
  go_ret
  exact ⟨by rw [HT.out]; rfl, hbA.trans ((gx_below W0 nq osq).mono hbA.size)⟩
set_option maxRecDepth 100000 in
set_option maxHeartbeats 2000000 in
theorem rText_2 (c : Cod) (w : World) (h : rightC c = true) (hs : sh c.op = 2) : Calls Tryz.prog 8 #[c.v] w fun e w' => e = .returned (.string ⟨(textC c).toArray⟩) ∧ Below w.heap.size w w' := by
  obtain ⟨l1, l2, l3, l4, l5⟩ := right_lim h
  have HS : Hid (∀ w, Calls Tryz.prog 20 #[.int .i64 c.op] w fun e w' => e = .returned (.int .i64 2) ∧ w' = w) := fun w => by have := Shape_any c.op w; rw [hs] at this; exact this
  have HN := Lib.hid (Name_any c.op)
  have HT : Hid ((⟨(textC c).toArray⟩ : ByteArray) = nmB c.op ++ (rB c.a) ++ (rB c.b)) := by
    apply ba_eq
    show textC c = _
    simp [textC, txK, hs, wd, tw, fld, ByteArray.data_append, nmB_list l1.1, rB]
  have HA : Hid (∀ W, Calls Tryz.prog 25 #[.int .i64 c.a] W fun e w' => e = .returned (.string (rB c.a)) ∧ Below W.heap.size W w') := fun W => r_any c.a W (by omega)
  have za := rB_size c.a (by omega)
  have HB : Hid (∀ W, Calls Tryz.prog 25 #[.int .i64 c.b] W fun e w' => e = .returned (.string (rB c.b)) ∧ Below W.heap.size W w') := fun W => r_any c.b W (by omega)
  have zb := rB_size c.b (by omega)
  have z0 := nmB_size c.op
  generalize rB c.a = ra at *
  generalize rB c.b = rb at *
  generalize nmB c.op = nb at *
  have y0 : nb.size + (ra).size ≤ 9223372036854775807 := by omega
  have y1 : (nb ++ ra).size + (rb).size ≤ 9223372036854775807 := by simp only [ByteArray.size_append]; omega
  have hbA : Below w.heap.size w (w.alloc (.cells #[.int .i64 c.op, .int .i64 c.a, .int .i64 c.b, .int .i64 c.c, .int .i64 c.n] 24)) := (Below.refl _ _).alloc (Nat.le_refl _) _
  obtain ⟨cl, ⟨b0, b1, b2, b3, b4⟩, _⟩ := At5.new w c 24
  unfold Cod.v
  go_enter Tryz.func8, Tryz.ntmps8
  go_wp2_with (first | (go_at_call 19; refine (HN.out _).mono ?_; rintro e w' ⟨rfl, hw'⟩; rw [hw']; clear hw' w') | (go_at_call 20; refine (HS.out _).mono ?_; rintro e w' ⟨rfl, hw'⟩; rw [hw']; clear hw' w'))
  generalize w.alloc (.cells #[.int .i64 c.op, .int .i64 c.a, .int .i64 c.b, .int .i64 c.c, .int .i64 c.n] 24) = W0 at hbA cl b0 b1 b2 b3 b4 ⊢
  have g1 : ∀ n os, (gx W0 n os).cell? ⟨w.heap.size, 1, none⟩ = some (.int .i64 c.a) := cell_gx cl b1
  have g2 : ∀ n os, (gx W0 n os).cell? ⟨w.heap.size, 2, none⟩ = some (.int .i64 c.b) := cell_gx cl b2
  have g3 : ∀ n os, (gx W0 n os).cell? ⟨w.heap.size, 3, none⟩ = some (.int .i64 c.c) := cell_gx cl b3
  have g4 : ∀ n os, (gx W0 n os).cell? ⟨w.heap.size, 4, none⟩ = some (.int .i64 c.n) := cell_gx cl b4
  clear b0 b1 b2 b3 b4
  refine wp_region_quiet_gx (by kernel_rfl) (by kernel_rfl) ?_
  repeat (first | go_big_quiet_step (first
    | (go_at_call 25; with_reducible exact calls_gx (HA.out _))
    | (go_at_call 25; with_reducible exact calls_gx (HB.out _))) | (refine wpQuiet_step (fun K hK => ?_); go_simp; split <;> first | (exfalso; omega) | (refine hK _ ?_; clear hK K)))
  refine wpQuiet_nil ?_
  intro _ hw'
  obtain ⟨⟨nq, osq⟩, hw''⟩ := hw'
  subst hw''
  go_wp2
  go_ret
  exact ⟨by rw [HT.out]; rfl, hbA.trans ((gx_below W0 nq osq).mono hbA.size)⟩
set_option maxRecDepth 100000 in
set_option maxHeartbeats 2000000 in
theorem rText_3 (c : Cod) (w : World) (h : rightC c = true) (hs : sh c.op = 3) : Calls Tryz.prog 8 #[c.v] w fun e w' => e = .returned (.string ⟨(textC c).toArray⟩) ∧ Below w.heap.size w w' := by
  obtain ⟨l1, l2, l3, l4, l5⟩ := right_lim h
  have HS : Hid (∀ w, Calls Tryz.prog 20 #[.int .i64 c.op] w fun e w' => e = .returned (.int .i64 3) ∧ w' = w) := fun w => by have := Shape_any c.op w; rw [hs] at this; exact this
  have HN := Lib.hid (Name_any c.op)
  have HT : Hid ((⟨(textC c).toArray⟩ : ByteArray) = nmB c.op ++ (rB c.a) ++ (rB c.b) ++ (rB c.c)) := by
    apply ba_eq
    show textC c = _
    simp [textC, txK, hs, wd, tw, fld, ByteArray.data_append, nmB_list l1.1, rB]
  have HA : Hid (∀ W, Calls Tryz.prog 25 #[.int .i64 c.a] W fun e w' => e = .returned (.string (rB c.a)) ∧ Below W.heap.size W w') := fun W => r_any c.a W (by omega)
  have za := rB_size c.a (by omega)
  have HB : Hid (∀ W, Calls Tryz.prog 25 #[.int .i64 c.b] W fun e w' => e = .returned (.string (rB c.b)) ∧ Below W.heap.size W w') := fun W => r_any c.b W (by omega)
  have zb := rB_size c.b (by omega)
  have HC : Hid (∀ W, Calls Tryz.prog 25 #[.int .i64 c.c] W fun e w' => e = .returned (.string (rB c.c)) ∧ Below W.heap.size W w') := fun W => r_any c.c W (by omega)
  have zc := rB_size c.c (by omega)
  have z0 := nmB_size c.op
  generalize rB c.a = ra at *
  generalize rB c.b = rb at *
  generalize rB c.c = rc at *
  generalize nmB c.op = nb at *
  have y0 : nb.size + (ra).size ≤ 9223372036854775807 := by omega
  have y1 : (nb ++ ra).size + (rb).size ≤ 9223372036854775807 := by simp only [ByteArray.size_append]; omega
  have y2 : (nb ++ ra ++ rb).size + (rc).size ≤ 9223372036854775807 := by simp only [ByteArray.size_append]; omega
  have hbA : Below w.heap.size w (w.alloc (.cells #[.int .i64 c.op, .int .i64 c.a, .int .i64 c.b, .int .i64 c.c, .int .i64 c.n] 24)) := (Below.refl _ _).alloc (Nat.le_refl _) _
  obtain ⟨cl, ⟨b0, b1, b2, b3, b4⟩, _⟩ := At5.new w c 24
  unfold Cod.v
  go_enter Tryz.func8, Tryz.ntmps8
  go_wp2_with (first | (go_at_call 19; refine (HN.out _).mono ?_; rintro e w' ⟨rfl, hw'⟩; rw [hw']; clear hw' w') | (go_at_call 20; refine (HS.out _).mono ?_; rintro e w' ⟨rfl, hw'⟩; rw [hw']; clear hw' w'))
  generalize w.alloc (.cells #[.int .i64 c.op, .int .i64 c.a, .int .i64 c.b, .int .i64 c.c, .int .i64 c.n] 24) = W0 at hbA cl b0 b1 b2 b3 b4 ⊢
  have g1 : ∀ n os, (gx W0 n os).cell? ⟨w.heap.size, 1, none⟩ = some (.int .i64 c.a) := cell_gx cl b1
  have g2 : ∀ n os, (gx W0 n os).cell? ⟨w.heap.size, 2, none⟩ = some (.int .i64 c.b) := cell_gx cl b2
  have g3 : ∀ n os, (gx W0 n os).cell? ⟨w.heap.size, 3, none⟩ = some (.int .i64 c.c) := cell_gx cl b3
  have g4 : ∀ n os, (gx W0 n os).cell? ⟨w.heap.size, 4, none⟩ = some (.int .i64 c.n) := cell_gx cl b4
  clear b0 b1 b2 b3 b4
  refine wp_region_quiet_gx (by kernel_rfl) (by kernel_rfl) ?_
  repeat (first | go_big_quiet_step (first
    | (go_at_call 25; with_reducible exact calls_gx (HA.out _))
    | (go_at_call 25; with_reducible exact calls_gx (HB.out _))
    | (go_at_call 25; with_reducible exact calls_gx (HC.out _))) | (refine wpQuiet_step (fun K hK => ?_); go_simp; split <;> first | (exfalso; omega) | (refine hK _ ?_; clear hK K)))
  refine wpQuiet_nil ?_
  intro _ hw'
  obtain ⟨⟨nq, osq⟩, hw''⟩ := hw'
  subst hw''
  go_wp2
  go_ret
  exact ⟨by rw [HT.out]; rfl, hbA.trans ((gx_below W0 nq osq).mono hbA.size)⟩
set_option maxRecDepth 100000 in
set_option maxHeartbeats 2000000 in
theorem rText_4 (c : Cod) (w : World) (h : rightC c = true) (hs : sh c.op = 4) : Calls Tryz.prog 8 #[c.v] w fun e w' => e = .returned (.string ⟨(textC c).toArray⟩) ∧ Below w.heap.size w w' := by
  obtain ⟨l1, l2, l3, l4, l5⟩ := right_lim h
  have HS : Hid (∀ w, Calls Tryz.prog 20 #[.int .i64 c.op] w fun e w' => e = .returned (.int .i64 4) ∧ w' = w) := fun w => by have := Shape_any c.op w; rw [hs] at this; exact this
  have HN := Lib.hid (Name_any c.op)
  have HT : Hid ((⟨(textC c).toArray⟩ : ByteArray) = nmB c.op ++ (rB c.a) ++ (rB c.b) ++ ⟨#[32]⟩ ++ (nB c.n)) := by
    apply ba_eq
    show textC c = _
    simp [textC, txK, hs, wd, tw, fld, ByteArray.data_append, nmB_list l1.1, nB, rB]
  have HA : Hid (∀ W, Calls Tryz.prog 25 #[.int .i64 c.a] W fun e w' => e = .returned (.string (rB c.a)) ∧ Below W.heap.size W w') := fun W => r_any c.a W (by omega)
  have za := rB_size c.a (by omega)
  have HB : Hid (∀ W, Calls Tryz.prog 25 #[.int .i64 c.b] W fun e w' => e = .returned (.string (rB c.b)) ∧ Below W.heap.size W w') := fun W => r_any c.b W (by omega)
  have zb := rB_size c.b (by omega)
  have HNu : Hid (∀ W, Calls Tryz.prog 26 #[.int .i64 c.n] W fun e w' => e = .returned (.string (nB c.n)) ∧ Below W.heap.size W w') := fun W => Number_any c.n W (by omega)
  have zn := nB_size c.n (by omega)
  have z0 := nmB_size c.op
  generalize rB c.a = ra at *
  generalize rB c.b = rb at *
  generalize nB c.n = rn at *
  generalize nmB c.op = nb at *
  have z32 : (⟨#[32]⟩ : ByteArray).size = 1 := rfl
  have y0 : nb.size + (ra).size ≤ 9223372036854775807 := by omega
  have y1 : (nb ++ ra).size + (rb).size ≤ 9223372036854775807 := by simp only [ByteArray.size_append]; omega
  have y2 : (nb ++ ra ++ rb).size + ((⟨#[32]⟩ : ByteArray)).size ≤ 9223372036854775807 := by simp only [ByteArray.size_append]; omega
  have y3 : (nb ++ ra ++ rb ++ (⟨#[32]⟩ : ByteArray)).size + (rn).size ≤ 9223372036854775807 := by simp only [ByteArray.size_append]; omega
  have hbA : Below w.heap.size w (w.alloc (.cells #[.int .i64 c.op, .int .i64 c.a, .int .i64 c.b, .int .i64 c.c, .int .i64 c.n] 24)) := (Below.refl _ _).alloc (Nat.le_refl _) _
  obtain ⟨cl, ⟨b0, b1, b2, b3, b4⟩, _⟩ := At5.new w c 24
  unfold Cod.v
  go_enter Tryz.func8, Tryz.ntmps8
  go_wp2_with (first | (go_at_call 19; refine (HN.out _).mono ?_; rintro e w' ⟨rfl, hw'⟩; rw [hw']; clear hw' w') | (go_at_call 20; refine (HS.out _).mono ?_; rintro e w' ⟨rfl, hw'⟩; rw [hw']; clear hw' w'))
  generalize w.alloc (.cells #[.int .i64 c.op, .int .i64 c.a, .int .i64 c.b, .int .i64 c.c, .int .i64 c.n] 24) = W0 at hbA cl b0 b1 b2 b3 b4 ⊢
  have g1 : ∀ n os, (gx W0 n os).cell? ⟨w.heap.size, 1, none⟩ = some (.int .i64 c.a) := cell_gx cl b1
  have g2 : ∀ n os, (gx W0 n os).cell? ⟨w.heap.size, 2, none⟩ = some (.int .i64 c.b) := cell_gx cl b2
  have g3 : ∀ n os, (gx W0 n os).cell? ⟨w.heap.size, 3, none⟩ = some (.int .i64 c.c) := cell_gx cl b3
  have g4 : ∀ n os, (gx W0 n os).cell? ⟨w.heap.size, 4, none⟩ = some (.int .i64 c.n) := cell_gx cl b4
  clear b0 b1 b2 b3 b4
  refine wp_region_quiet_gx (by kernel_rfl) (by kernel_rfl) ?_
  repeat (first | go_big_quiet_step (first
    | (go_at_call 25; with_reducible exact calls_gx (HA.out _))
    | (go_at_call 25; with_reducible exact calls_gx (HB.out _))
    | (go_at_call 26; with_reducible exact calls_gx (HNu.out _))) | (refine wpQuiet_step (fun K hK => ?_); go_simp; split <;> first | (exfalso; omega) | (refine hK _ ?_; clear hK K)))
  refine wpQuiet_nil ?_
  intro _ hw'
  obtain ⟨⟨nq, osq⟩, hw''⟩ := hw'
  subst hw''
  go_wp2
  go_ret
  exact ⟨by rw [HT.out]; rfl, hbA.trans ((gx_below W0 nq osq).mono hbA.size)⟩
set_option maxRecDepth 100000 in
set_option maxHeartbeats 2000000 in
theorem rText_5 (c : Cod) (w : World) (h : rightC c = true) (hs : sh c.op = 5) : Calls Tryz.prog 8 #[c.v] w fun e w' => e = .returned (.string ⟨(textC c).toArray⟩) ∧ Below w.heap.size w w' := by
  obtain ⟨l1, l2, l3, l4, l5⟩ := right_lim h
  have HS : Hid (∀ w, Calls Tryz.prog 20 #[.int .i64 c.op] w fun e w' => e = .returned (.int .i64 5) ∧ w' = w) := fun w => by have := Shape_any c.op w; rw [hs] at this; exact this
  have HN := Lib.hid (Name_any c.op)
  have HT : Hid ((⟨(textC c).toArray⟩ : ByteArray) = nmB c.op ++ ⟨#[32]⟩ ++ (nB c.n)) := by
    apply ba_eq
    show textC c = _
    simp [textC, txK, hs, wd, tw, fld, ByteArray.data_append, nmB_list l1.1, nB]
  have HNu : Hid (∀ W, Calls Tryz.prog 26 #[.int .i64 c.n] W fun e w' => e = .returned (.string (nB c.n)) ∧ Below W.heap.size W w') := fun W => Number_any c.n W (by omega)
  have zn := nB_size c.n (by omega)
  have z0 := nmB_size c.op
  generalize nB c.n = rn at *
  generalize nmB c.op = nb at *
  have z32 : (⟨#[32]⟩ : ByteArray).size = 1 := rfl
  have y0 : nb.size + ((⟨#[32]⟩ : ByteArray)).size ≤ 9223372036854775807 := by omega
  have y1 : (nb ++ (⟨#[32]⟩ : ByteArray)).size + (rn).size ≤ 9223372036854775807 := by simp only [ByteArray.size_append]; omega
  have hbA : Below w.heap.size w (w.alloc (.cells #[.int .i64 c.op, .int .i64 c.a, .int .i64 c.b, .int .i64 c.c, .int .i64 c.n] 24)) := (Below.refl _ _).alloc (Nat.le_refl _) _
  unfold Cod.v
  go_enter Tryz.func8, Tryz.ntmps8
  go_wp2_with (first | (go_at_call 19; refine (HN.out _).mono ?_; rintro e w' ⟨rfl, hw'⟩; rw [hw']; clear hw' w') | (go_at_call 20; refine (HS.out _).mono ?_; rintro e w' ⟨rfl, hw'⟩; rw [hw']; clear hw' w'))
  refine (HNu.out _).mono ?_
  rintro e w1 ⟨rfl, hb1⟩
  go_wp2
  go_ret
  exact ⟨by rw [HT.out]; rfl, hbA.trans (hb1.mono hbA.size)⟩
set_option maxRecDepth 100000 in
set_option maxHeartbeats 2000000 in
theorem rText_6 (c : Cod) (w : World) (h : rightC c = true) (hs : sh c.op = 6) : Calls Tryz.prog 8 #[c.v] w fun e w' => e = .returned (.string ⟨(textC c).toArray⟩) ∧ Below w.heap.size w w' := by
  obtain ⟨l1, l2, l3, l4, l5⟩ := right_lim h
  have HS : Hid (∀ w, Calls Tryz.prog 20 #[.int .i64 c.op] w fun e w' => e = .returned (.int .i64 6) ∧ w' = w) := fun w => by have := Shape_any c.op w; rw [hs] at this; exact this
  have HN := Lib.hid (Name_any c.op)
  have HT : Hid ((⟨(textC c).toArray⟩ : ByteArray) = nmB c.op ++ (rB c.a) ++ ⟨#[32]⟩ ++ (nB c.n)) := by
    apply ba_eq
    show textC c = _
    simp [textC, txK, hs, wd, tw, fld, ByteArray.data_append, nmB_list l1.1, nB, rB]
  have HA : Hid (∀ W, Calls Tryz.prog 25 #[.int .i64 c.a] W fun e w' => e = .returned (.string (rB c.a)) ∧ Below W.heap.size W w') := fun W => r_any c.a W (by omega)
  have za := rB_size c.a (by omega)
  have HNu : Hid (∀ W, Calls Tryz.prog 26 #[.int .i64 c.n] W fun e w' => e = .returned (.string (nB c.n)) ∧ Below W.heap.size W w') := fun W => Number_any c.n W (by omega)
  have zn := nB_size c.n (by omega)
  have z0 := nmB_size c.op
  generalize rB c.a = ra at *
  generalize nB c.n = rn at *
  generalize nmB c.op = nb at *
  have z32 : (⟨#[32]⟩ : ByteArray).size = 1 := rfl
  have y0 : nb.size + (ra).size ≤ 9223372036854775807 := by omega
  have y1 : (nb ++ ra).size + ((⟨#[32]⟩ : ByteArray)).size ≤ 9223372036854775807 := by simp only [ByteArray.size_append]; omega
  have y2 : (nb ++ ra ++ (⟨#[32]⟩ : ByteArray)).size + (rn).size ≤ 9223372036854775807 := by simp only [ByteArray.size_append]; omega
  have hbA : Below w.heap.size w (w.alloc (.cells #[.int .i64 c.op, .int .i64 c.a, .int .i64 c.b, .int .i64 c.c, .int .i64 c.n] 24)) := (Below.refl _ _).alloc (Nat.le_refl _) _
  obtain ⟨cl, ⟨b0, b1, b2, b3, b4⟩, _⟩ := At5.new w c 24
  unfold Cod.v
  go_enter Tryz.func8, Tryz.ntmps8
  go_wp2_with (first | (go_at_call 19; refine (HN.out _).mono ?_; rintro e w' ⟨rfl, hw'⟩; rw [hw']; clear hw' w') | (go_at_call 20; refine (HS.out _).mono ?_; rintro e w' ⟨rfl, hw'⟩; rw [hw']; clear hw' w'))
  generalize w.alloc (.cells #[.int .i64 c.op, .int .i64 c.a, .int .i64 c.b, .int .i64 c.c, .int .i64 c.n] 24) = W0 at hbA cl b0 b1 b2 b3 b4 ⊢
  have g1 : ∀ n os, (gx W0 n os).cell? ⟨w.heap.size, 1, none⟩ = some (.int .i64 c.a) := cell_gx cl b1
  have g2 : ∀ n os, (gx W0 n os).cell? ⟨w.heap.size, 2, none⟩ = some (.int .i64 c.b) := cell_gx cl b2
  have g3 : ∀ n os, (gx W0 n os).cell? ⟨w.heap.size, 3, none⟩ = some (.int .i64 c.c) := cell_gx cl b3
  have g4 : ∀ n os, (gx W0 n os).cell? ⟨w.heap.size, 4, none⟩ = some (.int .i64 c.n) := cell_gx cl b4
  clear b0 b1 b2 b3 b4
  refine wp_region_quiet_gx (by kernel_rfl) (by kernel_rfl) ?_
  repeat (first | go_big_quiet_step (first
    | (go_at_call 25; with_reducible exact calls_gx (HA.out _))
    | (go_at_call 26; with_reducible exact calls_gx (HNu.out _))) | (refine wpQuiet_step (fun K hK => ?_); go_simp; split <;> first | (exfalso; omega) | (refine hK _ ?_; clear hK K)))
  refine wpQuiet_nil ?_
  intro _ hw'
  obtain ⟨⟨nq, osq⟩, hw''⟩ := hw'
  subst hw''
  go_wp2
  go_ret
  exact ⟨by rw [HT.out]; rfl, hbA.trans ((gx_below W0 nq osq).mono hbA.size)⟩
theorem rText_any (c : Cod) (w : World) (h : rightC c = true) : Calls Tryz.prog 8 #[c.v] w fun e w' => e = .returned (.string ⟨(textC c).toArray⟩) ∧ Below w.heap.size w w' := by
  rcases sh_cases c.op with hs | hs | hs | hs | hs | hs | hs
  · exact rText_0 c w h hs
  · exact rText_1 c w h hs
  · exact rText_2 c w h hs
  · exact rText_3 c w h hs
  · exact rText_4 c w h hs
  · exact rText_5 c w h hs
  · exact rText_6 c w h hs
end Go.Proofs.YtgldkmabhmlijaaGreatDoor
