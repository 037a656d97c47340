/- What Sign and Text of the reference answer, for every right label. -/
import Derived.Test.YtfpjeclbilhgdaaDoorTextG
namespace Go.Proofs.YtfpjeclbilhgdaaDoor
open Go.RowKit Go.Sort

set_option maxHeartbeats 1000000 in
theorem Sign_any (l : Int) (h0 : 0 ≤ l) (h1 : l ≤ 5) (w : World) : Calls Tryd.prog 22 #[.int .i64 l] w fun e w' => e = .returned (.string ⟨#[sgL l]⟩) ∧ Below w.heap.size w w' := by
  rcases (show l = 0 ∨ l = 1 ∨ l = 2 ∨ l = 3 ∨ l = 4 ∨ l = 5 by omega) with rfl | rfl | rfl | rfl | rfl | rfl
  all_goals
    go_enter Tryd.func22, Tryd.ntmps22
    go_wp2_with (go_at_call 36; refine (Level_any _ _).mono ?_; rintro e w' ⟨rfl, rfl⟩)
    go_ret
    exact ⟨rfl, Below.refl _ _⟩

set_option maxRecDepth 100000 in
set_option maxHeartbeats 4000000 in
theorem rText1_any (d : Int) (p : Option Addr) (cap : Nat) (xs : List (Int × Int)) (w : World) (hd : 0 ≤ d ∧ d ≤ 5) (hn : xs.length ≤ 16) (hx : ∀ x ∈ xs, 1 ≤ x.1 ∧ x.1 ≤ 2305843009213693951 ∧ 0 ≤ x.2 ∧ x.2 ≤ 5) (hc : CatsAt w p xs) :
    Calls Tryd.prog 8 #[.agg #[.int .i64 d, .slice p xs.length cap]] w fun e w' => e = .returned (.string ⟨(lbT d xs).toArray⟩) ∧ Below w.heap.size w w' := by
  have HX := Lib.hid hx
  have HP := Lib.hid (prT_len d xs)
  have HSd := Lib.hid (Sign_any d hd.1 hd.2)
  have hB0 : Below w.heap.size w (w.alloc (.cells #[.int .i64 d, .slice p xs.length cap] 24)) := (Below.refl _ _).alloc (Nat.le_refl _) _
  have a0 : (w.alloc (.cells #[.int .i64 d, .slice p xs.length cap] 24)).cell? ⟨w.heap.size, 1, none⟩ = some (.slice p xs.length cap) := by simp [go_sem]
  have HI : Hid ((⟨#[123]⟩ ++ ⟨#[sgL d]⟩ : ByteArray) = ⟨(prT d (xs.take 0)).toArray⟩) := by simp only [Hid]; apply ByteArray.ext; simp [prT]
  have hs1 : (⟨#[123]⟩ : ByteArray).size + (⟨#[sgL d]⟩ : ByteArray).size ≤ 9223372036854775807 := by show 1 + 1 ≤ _; decide
  clear hx hd
  go_enter Tryd.func8, Tryd.ntmps8
  go_wp2_with (go_at_call 22; refine (HSd.out _).mono ?_; rintro e w1 ⟨rfl, hb1⟩; refine Hid.out ?_)
  refine Lib.hid ?_
  have a1 := (hb1.cell (p := ⟨w.heap.size, 1, none⟩) (by simp)).trans a0
  have hB1 : Below w.heap.size w w1 := hB0.trans (hb1.mono hB0.size)
  have hz1 : w.heap.size + 1 ≤ w1.heap.size := by have := hb1.size; simp at this; omega
  clear a0 hb1 hB0
  go_wp2
  go_loopw [3, 13] (fun r i wr => ∃ k : Nat, k ≤ xs.length ∧ i = .int .i64 k ∧ r = .string ⟨(prT d (xs.take k)).toArray⟩ ∧ Below w.heap.size w wr) (fun _ i _ => xs.length - (intOf i).toNat)
  case atStart => exact ⟨0, Nat.zero_le _, rfl, by rw [← HI.out], hB1⟩
  case round =>
    obtain ⟨k, hk, rfl, rfl, hB⟩ := hrel
    obtain ⟨W1, rfl⟩ : ∃ W1, W1 = wr := ⟨wr, rfl⟩
    have hlen := HP.out k hk (fun x hx => (HX.out x hx).2.1)
    by_cases hlt : k < xs.length
    · obtain ⟨b, off, rfl, hbl, c0, c1⟩ := hc.get hB (Below.refl _ _) (Nat.le_refl _) k hlt
      have hxk := HX.out xs[k] (List.getElem_mem hlt)
      obtain ⟨n, hn'⟩ : ∃ n : Nat, xs[k].1 = (n : Int) := ⟨xs[k].1.toNat, by omega⟩
      have hdk := nDig_le n (by omega)
      have HD := Lib.hid (fun W => Digits_any n W (by omega))
      have HSg := Lib.hid (Sign_any xs[k].2 hxk.2.2.1 hxk.2.2.2)
      have HS : Hid ((⟨(prT d (xs.take k)).toArray⟩ ++ (⟨#[32]⟩ ++ digB n ++ ⟨#[58]⟩ ++ ⟨#[sgL xs[k].2]⟩) : ByteArray) = ⟨(prT d (xs.take (k + 1))).toArray⟩) := by
        simp only [Hid]; apply ByteArray.ext; rw [prT_snoc d xs k hlt, hn']; simp [ByteArray.data_append, digB]
      have hq : (digB n).size ≤ 20 := by show (Lib.decDigits n).length ≤ 20; rw [Lib.decDigits_length]; exact hdk
      have hpz : (⟨(prT d (xs.take k)).toArray⟩ : ByteArray).size ≤ 400 := by show (prT d (xs.take k)).length ≤ 400; omega
      rw [hn'] at c0
      generalize digB n = q at HD HS hq
      generalize (⟨(prT d (xs.take k)).toArray⟩ : ByteArray) = q0 at HS hpz
      have z32 : (⟨#[32]⟩ : ByteArray).size = 1 := rfl
      have z58 : (⟨#[58]⟩ : ByteArray).size = 1 := rfl
      have zs : (⟨#[sgL xs[k].2]⟩ : ByteArray).size = 1 := rfl
      have y0 : (⟨#[32]⟩ : ByteArray).size + q.size ≤ 9223372036854775807 := by omega
      have y1 : (⟨#[32]⟩ ++ q : ByteArray).size + (⟨#[58]⟩ : ByteArray).size ≤ 9223372036854775807 := by simp only [ByteArray.size_append]; omega
      have y2 : (⟨#[32]⟩ ++ q ++ ⟨#[58]⟩ : ByteArray).size + (⟨#[sgL xs[k].2]⟩ : ByteArray).size ≤ 9223372036854775807 := by simp only [ByteArray.size_append]; omega
      have y3 : q0.size + (⟨#[32]⟩ ++ q ++ ⟨#[58]⟩ ++ ⟨#[sgL xs[k].2]⟩ : ByteArray).size ≤ 9223372036854775807 := by simp only [ByteArray.size_append]; omega
      obtain ⟨W0, hW0⟩ : ∃ W0, W1.alloc (.cells #[.int .i64 (n : Int), .int .i64 xs[k].2] 35) = W0 := ⟨_, rfl⟩
      have hbA : Below w.heap.size w W0 := by rw [← hW0]; exact hB.alloc hB.size _
      have cl : W1.heap.size < W0.heap.size := by rw [← hW0]; simp
      have b0 : W0.cell? ⟨W1.heap.size, 0, none⟩ = some (.int .i64 (n : Int)) := by rw [← hW0]; simp [go_sem]
      have b1 : W0.cell? ⟨W1.heap.size, 1, none⟩ = some (.int .i64 xs[k].2) := by rw [← hW0]; simp [go_sem]
      have g0 : ∀ n' os, (gx W0 n' os).cell? ⟨W1.heap.size, 0, none⟩ = some (.int .i64 (n : Int)) := cell_gx cl b0
      have g1 : ∀ n' os, (gx W0 n' os).cell? ⟨W1.heap.size, 1, none⟩ = some (.int .i64 xs[k].2) := cell_gx cl b1
      clear b0 b1 hxk hc
      go_upto_region 5 with fail
      try rw [hW0]
      refine wp_region_quiet_gx (by kernel_rfl) (by kernel_rfl) ?_
      repeat (first | go_big_quiet_step (first
        | (go_at_call 23; with_reducible exact calls_gx (HD.out _))
        | (go_at_call 22; with_reducible exact calls_gx (HSg.out _))) | (refine wpQuiet_step (fun K hK => ?_); go_simp; split <;> first | (exfalso; omega) | (refine hK _ ?_; clear hK K)))
      refine wpQuiet_nil ?_
      intro _ hw'
      obtain ⟨⟨nq, osq⟩, hw''⟩ := hw'
      subst hw''
      go_wp2
      go_roundw
      case rel => exact ⟨k + 1, by omega, by go_num, by rw [← HS.out], hbA.trans ((gx_below W0 nq osq).mono hbA.size)⟩
      case measure => simp [intOf]; omega
    · have hk' : xs.take k = xs := List.take_of_length_le (by omega)
      rw [hk'] at hlen ⊢
      have HF : Hid ((⟨(prT d xs).toArray⟩ ++ ⟨#[125]⟩ : ByteArray) = ⟨(lbT d xs).toArray⟩) := by simp only [Hid]; apply ByteArray.ext; rw [lbT_pr]; simp [ByteArray.data_append]
      have hpz : (⟨(prT d xs).toArray⟩ : ByteArray).size ≤ 400 := by show (prT d xs).length ≤ 400; omega
      generalize (⟨(prT d xs).toArray⟩ : ByteArray) = q0 at HF hpz ⊢
      have y0 : q0.size + (⟨#[125]⟩ : ByteArray).size ≤ 9223372036854775807 := by show q0.size + 1 ≤ _; omega
      go_wp2
      go_ret
      exact ⟨by rw [← HF.out]; rfl, hB⟩
end Go.Proofs.YtfpjeclbilhgdaaDoor
