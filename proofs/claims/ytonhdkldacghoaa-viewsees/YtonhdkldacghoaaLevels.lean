/- The iterator of package view: what levels tells, for every two labels. -/
import Derived.Test.YtonhdkldacghoaaPairs
import Derived.Test.YtonhdkldacghoaaRTail
namespace Go.Proofs.Ytonhdkldacghoaa
open Go.RowKit Go.Sort Go.Shelf
attribute [local go_sem] Oper.semAt_some

def encV (x : Int × Int) : Array Value := #[.int .i64 x.1, .int .i64 x.2]
def prX (od ld : Int) (xs ys : List (Int × Int)) (k : Nat) : List (Int × Int) := (od, ld) :: (xs.take k).map fun e => (e.2, atS ld ys e.1)
def prY (od ld : Int) (xs ys : List (Int × Int)) (k : Nat) : List (Int × Int) := prX od ld xs ys xs.length ++ (ys.take k).map fun e => (atS od xs e.1, e.2)
def allV (od ld : Int) (xs ys : List (Int × Int)) : List (Int × Int) := prY od ld xs ys ys.length
theorem prX_succ (od ld : Int) (xs ys : List (Int × Int)) (k : Nat) (h : k < xs.length) : prX od ld xs ys (k + 1) = prX od ld xs ys k ++ [(xs[k].2, atS ld ys xs[k].1)] := by
  unfold prX; rw [List.take_succ_eq_append_getElem h, List.map_append, List.map_cons, List.map_nil, List.cons_append]
theorem prY_succ (od ld : Int) (xs ys : List (Int × Int)) (k : Nat) (h : k < ys.length) : prY od ld xs ys (k + 1) = prY od ld xs ys k ++ [(atS od xs ys[k].1, ys[k].2)] := by
  unfold prY; rw [List.take_succ_eq_append_getElem h, List.map_append, List.map_cons, List.map_nil, List.append_assoc]
theorem prX_len (od ld : Int) (xs ys : List (Int × Int)) (k : Nat) (h : k ≤ xs.length) : (prX od ld xs ys k).length = k + 1 := by simp [prX]; omega
theorem prY_len (od ld : Int) (xs ys : List (Int × Int)) (k : Nat) (h : k ≤ ys.length) : (prY od ld xs ys k).length = xs.length + k + 1 := by simp [prY, prX]; omega
theorem prY_pre (od ld : Int) (xs ys : List (Int × Int)) (k : Nat) : prY od ld xs ys k <+: allV od ld xs ys := by
  unfold allV prY; rw [List.take_length]
  exact List.prefix_append_right_inj _ |>.2 (List.IsPrefix.map _ (List.take_prefix _ _))
theorem prX_pre (od ld : Int) (xs ys : List (Int × Int)) (k : Nat) : prX od ld xs ys k <+: allV od ld xs ys := by
  have h : prX od ld xs ys k <+: prX od ld xs ys xs.length := by
    unfold prX; rw [List.take_length]
    exact (List.prefix_cons_inj _).2 (List.IsPrefix.map _ (List.take_prefix _ _))
  exact h.trans (List.prefix_append _ _)

set_option maxRecDepth 100000 in
set_option maxHeartbeats 2000000 in
theorem levels1_in (n : Nat) (hn : 1 ≤ n) (l Ba Bb n₀ B0 : Nat) (od ld : Int) (p q : Option Addr) (cx cy : Nat) (xs ys : List (Int × Int)) (J Jx : List (Int × Int) → World → Prop) (hJ : AbidesFrom B0 J)
    (hmx : xs.length ≤ maxLen) (hmy : ys.length ≤ maxLen)
    (hY : ∀ pre x W, J pre W → pre.length < xs.length + ys.length + 1 → YieldAt Fence.wide (n - 1) Try.prog l (encV x) W fun e W' =>
      (e = .returned (.bool true) ∧ J (pre ++ [x]) W' ∧ KpP n₀ Ba Bb W W') ∨ (e = .returned (.bool false) ∧ Jx (pre ++ [x]) W'))
    (W : World) (hn₀ : n₀ ≤ W.heap.size) (hBa : Ba < W.heap.size) (hBb : Bb < W.heap.size)
    (a0 : W.cell? ⟨Ba, 0, none⟩ = some (.int .i64 od)) (a1 : W.cell? ⟨Ba, 1, none⟩ = some (.slice p xs.length cx)) (b0 : W.cell? ⟨Bb, 0, none⟩ = some (.int .i64 ld)) (b1 : W.cell? ⟨Bb, 1, none⟩ = some (.slice q ys.length cy))
    (hx : CatsB n₀ W p xs) (hy : CatsB n₀ W q ys) (h0 : J [] W) :
    CallsIn Fence.wide n Try.prog 49 #[.func (.yield l) #[] #[], .pointer (some ⟨Ba, 0, none⟩), .pointer (some ⟨Bb, 0, none⟩)] W fun e W' => (∃ v, e = .returned v) ∧
      ((∃ zs, zs = allV od ld xs ys ∧ J zs W') ∨ (∃ pre, pre <+: allV od ld xs ys ∧ Jx pre W')) := by
  have h76 : Fence.wide.fn 49 := trivial
  have h77 : Fence.wide.fn 50 := trivial
  have hro : Fence.wide.round = none := rfl
  have hmx' := hmx
  have hmy' := hmy
  unfold maxLen at hmx hmy
  obtain ⟨fn, tmps, assign, body, hy0, hR⟩ := hY [] (od, ld) W h0 (by simp)
  dsimp only [encV] at hy0
  refine callsIn_of_wp Try.func49 rfl h76 ?_ hro
  simp only [Try.ntmps49, List.size_toArray, List.length_cons, List.length_nil, Nat.reduceAdd, Nat.reduceSub, Array.replicate_succ, Array.replicate_zero, List.push_toArray, List.append_toArray, List.nil_append, List.cons_append]
  gi_wp2
  refine hR.mono ?_
  rintro e W1 (⟨rfl, hJ1, hk1⟩ | ⟨rfl, hJx1⟩)
  · have a0' : W1.cell? ⟨Ba, 0, none⟩ = some (.int .i64 od) := (cell_same hk1.2.1 0).trans a0
    have a1' : W1.cell? ⟨Ba, 1, none⟩ = some (.slice p xs.length cx) := (cell_same hk1.2.1 1).trans a1
    have b0' : W1.cell? ⟨Bb, 0, none⟩ = some (.int .i64 ld) := (cell_same hk1.2.2 0).trans b0
    have b1' : W1.cell? ⟨Bb, 1, none⟩ = some (.slice q ys.length cy) := (cell_same hk1.2.2 1).trans b1
    have hsz1 : W.heap.size ≤ W1.heap.size := hk1.1.size
    have hx1 := hx.keep hk1.1
    have hy1 := hy.keep hk1.1
    have hJ1' : J (prX od ld xs ys 0) W1 := hJ1
    clear hx hy a0 a1 b0 b1 hR h0 hJ1
    gi_wp2
    gi_loopw [18] (fun i wr => ∃ k : Nat, k ≤ xs.length ∧ i = .int .i64 k ∧ (CatsB n₀ wr p xs ∧ CatsB n₀ wr q ys) ∧ J (prX od ld xs ys k) wr ∧ W.heap.size ≤ wr.heap.size ∧ wr.cell? ⟨Ba, 0, none⟩ = some (.int .i64 od) ∧ wr.cell? ⟨Ba, 1, none⟩ = some (.slice p xs.length cx) ∧ wr.cell? ⟨Bb, 0, none⟩ = some (.int .i64 ld) ∧ wr.cell? ⟨Bb, 1, none⟩ = some (.slice q ys.length cy))
      (fun i _ => xs.length - (intOf i).toNat)
    case atStart => exact ⟨0, Nat.zero_le _, rfl, ⟨hx1, hy1⟩, hJ1', hsz1, a0', a1', b0', b1'⟩
    case round =>
      obtain ⟨k, hk, rfl, ⟨hX, hYs⟩, hJs, hsz, ca0, ca1, cb0, cb1⟩ := hrel
      clear a0' a1' b0' b1' hx1 hy1 hJ1' hk1
      by_cases hlt : k < xs.length
      · have HJ : Hid (J (prX od ld xs ys k) wr) := hJs
        clear hJs
        obtain ⟨b, off, rfl, hbl, c0, c1⟩ := hX k hlt
        have hbl' : b < wr.heap.size := by omega
        have HX : Hid (CatsB n₀ wr (some ⟨b, off, none⟩) xs ∧ CatsB n₀ wr q ys) := ⟨hX, hYs⟩
        clear hX hYs
        have hBa' : Ba < wr.heap.size := by omega
        have hBb' : Bb < wr.heap.size := by omega
        gi_wp2
        obtain ⟨W2, hW2⟩ : ∃ W2, wr.alloc (.cells #[.int .i64 xs[k].1, .int .i64 xs[k].2] 50) = W2 := ⟨_, rfl⟩
        have hb2 : Below wr.heap.size wr W2 := by rw [← hW2]; go_grown
        have hz2 : W2.heap.size = wr.heap.size + 1 := by rw [← hW2]; simp
        have d0 : W2.cell? ⟨wr.heap.size, 0, none⟩ = some (.int .i64 xs[k].1) := by rw [← hW2]; simp [go_sem]
        have d1 : W2.cell? ⟨wr.heap.size, 1, none⟩ = some (.int .i64 xs[k].2) := by rw [← hW2]; simp [go_sem]
        rw [hW2]
        clear hW2
        have s0 : ∀ n os, (gx W2 n os).cell? ⟨wr.heap.size, 0, none⟩ = some (.int .i64 xs[k].1) := fun n os => cell_gx (a := ⟨wr.heap.size, 0, none⟩) (by simp; omega) d0 n os
        have s1 : ∀ n os, (gx W2 n os).cell? ⟨wr.heap.size, 1, none⟩ = some (.int .i64 xs[k].2) := fun n os => cell_gx (a := ⟨wr.heap.size, 1, none⟩) (by simp; omega) d1 n os
        have t0 : ∀ n os, (gx W2 n os).cell? ⟨Bb, 0, none⟩ = some (.int .i64 ld) := fun n os => cell_gx (a := ⟨Bb, 0, none⟩) (by simp; omega) ((hb2.cell (p := ⟨Bb, 0, none⟩) hBb').trans cb0) n os
        have t1 : ∀ n os, (gx W2 n os).cell? ⟨Bb, 1, none⟩ = some (.slice q ys.length cy) := fun n os => cell_gx (a := ⟨Bb, 1, none⟩) (by simp; omega) ((hb2.cell (p := ⟨Bb, 1, none⟩) hBb').trans cb1) n os
        have HB : Hid (∀ n os, CatsAt (gx W2 n os) q ys) := fun n os => ((HX.out.2.here (by omega)).below hb2).below (gx_below W2 n os)
        have HC : Hid (wr.cell? ⟨Ba, 0, none⟩ = some (.int .i64 od) ∧ wr.cell? ⟨Ba, 1, none⟩ = some (.slice (some ⟨b, off, none⟩) xs.length cx) ∧ wr.cell? ⟨Bb, 0, none⟩ = some (.int .i64 ld) ∧ wr.cell? ⟨Bb, 1, none⟩ = some (.slice q ys.length cy)) := ⟨ca0, ca1, cb0, cb1⟩
        clear ca0 ca1 cb0 cb1 d0 d1 c0 c1
        refine wpIn_region_tail_gxW 7 (by kernel_rfl) (by kernel_rfl) (by kernel_rfl) ?_
        simp only [List.take_succ_cons, List.take_zero, List.drop_succ_cons, List.drop_zero]
        repeat (quiet_step (first
          | (go_at_call 50; with_reducible exact calls_gx (At_any ld xs[k].1 q cy ys _ hmy' (HB.out _ _)))))
        refine wpQuiet_nil ?_
        intro _ hw'
        obtain ⟨⟨nq, osq⟩, hw''⟩ := hw'
        subst hw''
        have hbg : Below wr.heap.size wr (gx W2 nq osq) := hb2.trans ((gx_below W2 nq osq).mono (by omega))
        obtain ⟨W3, hW3⟩ : ∃ W3, gx W2 nq osq = W3 := ⟨_, rfl⟩
        rw [hW3] at hbg ⊢
        clear s0 s1 t0 t1 HB hb2
        obtain ⟨fn3, tmps3, assign3, body3, hy3, hR3⟩ := hY (prX od ld xs ys k) (xs[k].2, atS ld ys xs[k].1) W3 (abides_below hJ HJ.out hbg) (by rw [prX_len _ _ _ _ _ hk]; omega)
        dsimp only [encV] at hy3
        have hz3 : wr.heap.size ≤ W3.heap.size := hbg.size
        gi_wp2
        refine hR3.mono ?_
        rintro e W4 (⟨rfl, hJ3, hk3⟩ | ⟨rfl, hJx3⟩)
        · gi_wp2
          go_roundw
          case rel =>
            exact ⟨k + 1, by omega, by go_num, ⟨(HX.out.1.keep (hbg.mono (by omega))).keep hk3.1, (HX.out.2.keep (hbg.mono (by omega))).keep hk3.1⟩, by rw [prX_succ _ _ _ _ _ hlt]; exact hJ3, by have := hk3.1.size; omega,
              (cell_same hk3.2.1 0).trans ((hbg.cell (p := ⟨Ba, 0, none⟩) hBa').trans HC.out.1), (cell_same hk3.2.1 1).trans ((hbg.cell (p := ⟨Ba, 1, none⟩) hBa').trans HC.out.2.1), (cell_same hk3.2.2 0).trans ((hbg.cell (p := ⟨Bb, 0, none⟩) hBb').trans HC.out.2.2.1), (cell_same hk3.2.2 1).trans ((hbg.cell (p := ⟨Bb, 1, none⟩) hBb').trans HC.out.2.2.2)⟩
          case measure => simp [intOf]; omega
        · gi_wp2
          refine bodyPost_ret (results_none rfl _ _ _) rfl ?_
          exact ⟨⟨_, rfl⟩, .inr ⟨_, by rw [← prX_succ _ _ _ _ _ hlt]; exact prX_pre od ld xs ys (k + 1), hJx3⟩⟩
      · have hke : k = xs.length := by omega
        subst hke
        have hJ0 : J (prY od ld xs ys 0) wr := by unfold prY; simpa using hJs
        clear hJs
        gi_wp2
        obtain ⟨wo, rfl⟩ : ∃ wo, wo = wr := ⟨_, rfl⟩
        gi_loopw [35] (fun i wr => ∃ k : Nat, k ≤ ys.length ∧ i = .int .i64 k ∧ (CatsB n₀ wr p xs ∧ CatsB n₀ wr q ys) ∧ J (prY od ld xs ys k) wr ∧ W.heap.size ≤ wr.heap.size ∧ wr.cell? ⟨Ba, 0, none⟩ = some (.int .i64 od) ∧ wr.cell? ⟨Ba, 1, none⟩ = some (.slice p xs.length cx))
          (fun i _ => ys.length - (intOf i).toNat)
        case atStart => exact ⟨0, Nat.zero_le _, rfl, ⟨hX, hYs⟩, hJ0, hsz, ca0, ca1⟩
        case round =>
          clear ca0 ca1 cb0 cb1 hX hYs hJ0 hsz
          obtain ⟨k, hk, rfl, ⟨hX, hYs⟩, hJs, hsz, ca0, ca1⟩ := hrel
          by_cases hlt : k < ys.length
          · have HJ : Hid (J (prY od ld xs ys k) wr) := hJs
            clear hJs
            obtain ⟨b, off, rfl, hbl, c0, c1⟩ := hYs k hlt
            have hbl' : b < wr.heap.size := by omega
            have HX : Hid (CatsB n₀ wr p xs ∧ CatsB n₀ wr (some ⟨b, off, none⟩) ys) := ⟨hX, hYs⟩
            clear hX hYs
            have hBa' : Ba < wr.heap.size := by omega
            gi_wp2
            obtain ⟨W2, hW2⟩ : ∃ W2, wr.alloc (.cells #[.int .i64 ys[k].1, .int .i64 ys[k].2] 50) = W2 := ⟨_, rfl⟩
            have hb2 : Below wr.heap.size wr W2 := by rw [← hW2]; go_grown
            have hz2 : W2.heap.size = wr.heap.size + 1 := by rw [← hW2]; simp
            have d0 : W2.cell? ⟨wr.heap.size, 0, none⟩ = some (.int .i64 ys[k].1) := by rw [← hW2]; simp [go_sem]
            have d1 : W2.cell? ⟨wr.heap.size, 1, none⟩ = some (.int .i64 ys[k].2) := by rw [← hW2]; simp [go_sem]
            rw [hW2]
            clear hW2
            have s0 : ∀ n os, (gx W2 n os).cell? ⟨wr.heap.size, 0, none⟩ = some (.int .i64 ys[k].1) := fun n os => cell_gx (a := ⟨wr.heap.size, 0, none⟩) (by simp; omega) d0 n os
            have s1 : ∀ n os, (gx W2 n os).cell? ⟨wr.heap.size, 1, none⟩ = some (.int .i64 ys[k].2) := fun n os => cell_gx (a := ⟨wr.heap.size, 1, none⟩) (by simp; omega) d1 n os
            have t0 : ∀ n os, (gx W2 n os).cell? ⟨Ba, 0, none⟩ = some (.int .i64 od) := fun n os => cell_gx (a := ⟨Ba, 0, none⟩) (by simp; omega) ((hb2.cell (p := ⟨Ba, 0, none⟩) hBa').trans ca0) n os
            have t1 : ∀ n os, (gx W2 n os).cell? ⟨Ba, 1, none⟩ = some (.slice p xs.length cx) := fun n os => cell_gx (a := ⟨Ba, 1, none⟩) (by simp; omega) ((hb2.cell (p := ⟨Ba, 1, none⟩) hBa').trans ca1) n os
            have HB : Hid (∀ n os, CatsAt (gx W2 n os) p xs) := fun n os => ((HX.out.1.here (by omega)).below hb2).below (gx_below W2 n os)
            have HC : Hid (wr.cell? ⟨Ba, 0, none⟩ = some (.int .i64 od) ∧ wr.cell? ⟨Ba, 1, none⟩ = some (.slice p xs.length cx)) := ⟨ca0, ca1⟩
            clear ca0 ca1 d0 d1 c0 c1
            refine wpIn_region_tail_gxW 7 (by kernel_rfl) (by kernel_rfl) (by kernel_rfl) ?_
            simp only [List.take_succ_cons, List.take_zero, List.drop_succ_cons, List.drop_zero]
            repeat (quiet_step (first
              | (go_at_call 50; with_reducible exact calls_gx (At_any od ys[k].1 p cx xs _ hmx' (HB.out _ _)))))
            refine wpQuiet_nil ?_
            intro _ hw'
            obtain ⟨⟨nq, osq⟩, hw''⟩ := hw'
            subst hw''
            have hbg : Below wr.heap.size wr (gx W2 nq osq) := hb2.trans ((gx_below W2 nq osq).mono (by omega))
            obtain ⟨W3, hW3⟩ : ∃ W3, gx W2 nq osq = W3 := ⟨_, rfl⟩
            rw [hW3] at hbg ⊢
            clear s0 s1 t0 t1 HB hb2
            obtain ⟨fn3, tmps3, assign3, body3, hy3, hR3⟩ := hY (prY od ld xs ys k) (atS od xs ys[k].1, ys[k].2) W3 (abides_below hJ HJ.out hbg) (by rw [prY_len _ _ _ _ _ hk]; omega)
            dsimp only [encV] at hy3
            have hz3 : wr.heap.size ≤ W3.heap.size := hbg.size
            gi_wp2
            refine hR3.mono ?_
            rintro e W4 (⟨rfl, hJ3, hk3⟩ | ⟨rfl, hJx3⟩)
            · gi_wp2
              go_roundw
              case rel =>
                exact ⟨k + 1, by omega, by go_num, ⟨(HX.out.1.keep (hbg.mono (by omega))).keep hk3.1, (HX.out.2.keep (hbg.mono (by omega))).keep hk3.1⟩, by rw [prY_succ _ _ _ _ _ hlt]; exact hJ3, by have := hk3.1.size; omega,
                  (cell_same hk3.2.1 0).trans ((hbg.cell (p := ⟨Ba, 0, none⟩) hBa').trans HC.out.1), (cell_same hk3.2.1 1).trans ((hbg.cell (p := ⟨Ba, 1, none⟩) hBa').trans HC.out.2)⟩
              case measure => simp [intOf]; omega
            · gi_wp2
              refine bodyPost_ret (results_none rfl _ _ _) rfl ?_
              exact ⟨⟨_, rfl⟩, .inr ⟨_, by rw [← prY_succ _ _ _ _ _ hlt]; exact prY_pre od ld xs ys (k + 1), hJx3⟩⟩
          · have hke : k = ys.length := by omega
            subst hke
            gi_wp2
            go_end0
            exact ⟨⟨_, rfl⟩, .inl ⟨_, rfl, hJs⟩⟩
  · gi_wp2
    refine bodyPost_ret (results_none rfl _ _ _) rfl ?_
    exact ⟨⟨_, rfl⟩, .inr ⟨[(od, ld)], prX_pre od ld xs ys 0, hJx1⟩⟩
end Go.Proofs.Ytonhdkldacghoaa
