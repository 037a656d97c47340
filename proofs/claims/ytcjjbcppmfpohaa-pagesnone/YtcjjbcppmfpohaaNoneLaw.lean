/- The law PagesNone: what the calls answer of nil. -/
import Derived.Test.YtcjjbcppmfpohaaUnlikeN
namespace Go.Proofs.Ytcjjbcppmfpohaa
open Go.RowKit Go.Lib
theorem mod_small (n : Int) : ∃ m : Nat, wrap64 ((IntKind.u64.wrap n).tmod 100) = (m : Int) ∧ m ≤ 99 := by
  have h1 : 0 ≤ IntKind.u64.wrap n := Int.emod_nonneg n (by decide : ((2 : Int) ^ 64) ≠ 0)
  rw [Int.tmod_eq_emod_of_nonneg h1]
  have h2 := Int.emod_nonneg (IntKind.u64.wrap n) (by decide : (100 : Int) ≠ 0)
  have h3 := Int.emod_lt_of_pos (IntKind.u64.wrap n) (by decide : (0 : Int) < 100)
  refine ⟨(IntKind.u64.wrap n % 100).toNat, ?_, by omega⟩
  generalize IntKind.u64.wrap n % 100 = y at h2 h3
  unfold wrap64
  omega
set_option maxRecDepth 100000 in
set_option maxHeartbeats 1000000 in
theorem PagesNone_any (a n : Int) (s : ByteArray) (w : World) (hs : s.size < 4611686018427387904) :
    Calls Try.prog 8 #[.int .i64 a, .int .i64 n, .string s] w fun e w' => e = .returned (.bool true) ∧ Below w.heap.size w w' := by
  have HL := Lib.hid (lives_any w)
  have HR := Lib.hid (fun w => Read_nil a n w)
  have HWd := Lib.hid (fun w => Word_nil a w)
  have HN := Lib.hid (fun (m : Nat) (h : m ≤ 4096) w0 => New_any m w0 h)
  go_enter Try.func8, Try.ntmps8
  go_wp2_with (first
    | (go_at_call 9; refine HL.out.mono ?_; rintro e w0 ⟨rfl, hB0⟩)
    | (go_at_call 18; refine (HR.out _).mono ?_; rintro e w1 ⟨rfl, hB1⟩)
    | (go_at_call 22; refine (HWd.out _).mono ?_; rintro e w2 ⟨rfl, hB2⟩)
    | (go_at_call 10; refine Hid.out ?_))
  refine Lib.hid ?_
  obtain ⟨m, hm, hm2⟩ := mod_small n
  rw [hm]
  clear hm
  refine (HN.out m (by omega) w2).mono ?_
  rintro e w3 ⟨rfl, ⟨ls, hA⟩, hB3⟩
  have HB3 : Hid (RowKit.Below w.heap.size w w3) := (((hB0.trans (hB1.mono hB0.size)).trans (hB2.mono (Nat.le_trans hB0.size hB1.size))).trans (hB3.mono (Nat.le_trans (Nat.le_trans hB0.size hB1.size) hB2.size)))
  obtain ⟨K, hK⟩ : ∃ K : Nat, (m + 63) / 64 = K := ⟨_, rfl⟩
  have HUr : Hid (∀ W, RowKit.Below w3.heap.size w3 W → Calls Try.prog 15 #[.pointer (some ⟨w2.heap.size, 0, none⟩), .pointer none] W fun e w' => (∃ sp cap, e = .returned (.slice sp K cap)) ∧ RowKit.Below W.heap.size W w') := fun W hb => by
    have := Unlike_right _ _ _ _ _ (hA.below hb)
    rw [List.length_replicate, hK] at this
    exact this
  have HUl : Hid (∀ W, RowKit.Below w3.heap.size w3 W → Calls Try.prog 15 #[.pointer none, .pointer (some ⟨w2.heap.size, 0, none⟩)] W fun e w' => (∃ sp cap, e = .returned (.slice sp K cap)) ∧ RowKit.Below W.heap.size W w') := fun W hb => by
    have := Unlike_left _ _ _ _ _ (hA.below hb)
    rw [List.length_replicate, hK] at this
    exact this
  have HPc : Hid (∀ W, RowKit.Below w3.heap.size w3 W → Calls Try.prog 23 #[.pointer (some ⟨w2.heap.size, 0, none⟩)] W fun e w' => e = .returned (.int .i64 K) ∧ w' = W) := fun W hb => by
    have := Pages_any (hA.below hb)
    rw [List.length_replicate] at this
    refine this.mono ?_
    rintro e w' ⟨rfl, hw⟩
    exact ⟨by congr 2; omega, hw⟩
  have HLen := Lib.hid Len_nil
  have HPn := Lib.hid Pages_nil
  have HWr : Hid (∀ W : World, Calls Try.prog 17 #[.pointer none, .int .i64 a, .slice (some ⟨W.heap.size, 0, none⟩) 1 1] (W.alloc (.cells #[.string s] 9)) fun e w' => e = .returned (.int .i64 4) ∧ w' = (W.alloc (.cells #[.string s] 9))) := fun W => Write_nil _ 1 a [s] _ (ps_new W [s]) (by simp [sumL]; omega) (by simp)
  have HSW : Hid (∀ W : World, Calls Try.prog 21 #[.pointer none, .int .i64 a, .int .u64 1] W fun e w' => e = .returned (.int .i64 4) ∧ RowKit.Below W.heap.size W w') := fun W => SetWord_nil a 1 W
  have HRs := Lib.hid (fun W => Resize_nil n W)
  have HC := Lib.hid Copy_nil
  clear hA hB0 hB1 hB2 hB3 hK
  go_wp2_with (first
    | (go_at_call 20; refine (HLen.out _).mono ?_; rintro e w4 ⟨rfl, hw⟩; rw [hw]; clear hw w4)
    | (go_at_call 23; refine (HPn.out _).mono ?_; rintro e w4 ⟨rfl, hw⟩; rw [hw]; clear hw w4)
    | (go_at_call 17; refine (HWr.out _).mono ?_; rintro e w4 ⟨rfl, hw⟩; rw [hw]; clear hw w4)
    | (go_at_call 21; refine (HSW.out _).mono ?_; rintro e w5 ⟨rfl, hB5⟩)
    | (go_at_call 19; refine (HRs.out _).mono ?_; rintro e w4 ⟨rfl, hw⟩; rw [hw]; clear hw w4)
    | (go_at_call 12; refine (HC.out _).mono ?_; rintro e w4 ⟨rfl, hw⟩; rw [hw]; clear hw w4)
    | (go_at_call 15; refine Hid.out ?_))
  refine Lib.hid ?_
  have hb5 : RowKit.Below w3.heap.size w3 w5 := ((Below.refl _ w3).alloc (Nat.le_refl _) (.cells #[.string s] 9)).trans (hB5.mono (by simp))
  refine (HUr.out _ hb5).mono ?_
  rintro e w6 ⟨⟨sp6, cap6, rfl⟩, hB6⟩
  have hb6 := hb5.trans (hB6.mono hb5.size)
  have HP6 := Lib.hid (HPc.out _ hb6)
  go_wp2_with (first
    | (go_at_call 23; refine HP6.out.mono ?_; rintro e w4 ⟨rfl, hw⟩; rw [hw]; clear hw w4)
    | (go_at_call 15; refine Hid.out ?_))
  refine Lib.hid ?_
  refine (HUl.out _ hb6).mono ?_
  rintro e w7 ⟨⟨sp7, cap7, rfl⟩, hB7⟩
  have hb7 := hb6.trans (hB7.mono hb6.size)
  have HP7 := Lib.hid (HPc.out _ hb7)
  go_wp2_with (first
    | (go_at_call 23; refine HP7.out.mono ?_; rintro e w4 ⟨rfl, hw⟩; rw [hw]; clear hw w4)
    | (go_at_call 15; refine Hid.out ?_))
  refine Lib.hid ?_
  refine (Unlike_none w7).mono ?_
  rintro e w8 ⟨rfl, hw⟩
  rw [hw]
  go_wp2
  go_ret
  exact ⟨rfl, HB3.out.trans (hb7.mono HB3.out.size)⟩
end Go.Proofs.Ytcjjbcppmfpohaa
