/- ShaStretches: the law's walk. -/
import Derived.Test.YtfcmgodeehjnoaaDoorStrL
namespace Go.Proofs.YtfcmgodeehjnoaaDoor
open Go.RowKit Go.Sort
set_option maxRecDepth 100000 in
theorem Stretches_big (a p : ByteArray) (r : Int) (w : World) (hE : Env w) (h : 500 < a.size ∨ 500 < p.size ∨ (20 < r ∧ r ≤ 1000)) : Calls Tryd.prog 4 #[.string a, .string p, .int .i64 r] w fun e w' => e = .returned (.bool true) ∧ Below w.heap.size w w' := by
  have hLv := lives_any w hE
  clear hE
  go_enter Tryd.func4, Tryd.ntmps4
  go_wp2_with (first
    | (go_at_call 5; refine hLv.mono ?_; rintro e w1 ⟨rfl, hb1⟩; refine Hid.out ?_))
  refine Lib.hid ?_
  clear hLv
  by_cases h1 : 500 < a.size
  · have i1 : (500 : Int) < (a.size : Int) := by omega
    go_wp2
    go_ret
    exact ⟨rfl, hb1⟩
  · have i1 : ¬ (500 : Int) < (a.size : Int) := by omega
    by_cases h2 : 500 < p.size
    · have i2 : (500 : Int) < (p.size : Int) := by omega
      go_wp2
      go_ret
      exact ⟨rfl, hb1⟩
    · have i2 : ¬ (500 : Int) < (p.size : Int) := by omega
      have h3 : 20 < r := by omega
      have h4 : r ≤ 1000 := by omega
      clear h
      go_wp2
      go_ret
      exact ⟨rfl, hb1⟩
set_option maxRecDepth 100000 in
theorem Stretches_no (a p : ByteArray) (r : Int) (w : World) (hE : Env w) (h1 : ¬ 500 < a.size) (h2 : ¬ 500 < p.size) (h : r < 0 ∨ 1000 < r) : Calls Tryd.prog 4 #[.string a, .string p, .int .i64 r] w fun e w' => e = .returned (.bool true) ∧ Below w.heap.size w w' := by
  have hLv := lives_any w hE
  have HN := Lib.hid (fun W => Stretch_no a p r W h)
  have HR := Lib.hid (fun W => refStretch_no a p r W h)
  have H := Lib.hid h
  clear hE h
  go_enter Tryd.func4, Tryd.ntmps4
  go_wp2_with (first
    | (go_at_call 5; refine hLv.mono ?_; rintro e w1 ⟨rfl, hb1⟩; refine Hid.out ?_))
  refine Lib.hid ?_
  clear hLv
  have HB1 := Lib.hid hb1
  have i1 : ¬ (500 : Int) < (a.size : Int) := by omega
  have i2 : ¬ (500 : Int) < (p.size : Int) := by omega
  clear hb1
  by_cases h3 : 20 < r
  · have h4 : ¬ r ≤ 1000 := by have := H.out; omega
    go_wp2_with (first
      | (go_at_call 8; refine (HN.out _).mono ?_; rintro e w2 ⟨rfl, hb2⟩; refine Hid.out ?_))
    refine Lib.hid ?_
    have HB2 := Lib.hid (HB1.out.trans (hb2.mono HB1.out.size))
    clear hb2
    go_wp2_with (first
      | (go_at_call 9; refine (HR.out _).mono ?_; rintro e w3 ⟨rfl, hb3⟩; refine Hid.out ?_))
    refine Lib.hid ?_
    have HB3 := Lib.hid (HB2.out.trans (hb3.mono HB2.out.size))
    clear hb3
    go_wp2
    go_ret
    exact ⟨rfl, HB3.out⟩
  · go_wp2_with (first
      | (go_at_call 8; refine (HN.out _).mono ?_; rintro e w2 ⟨rfl, hb2⟩; refine Hid.out ?_))
    refine Lib.hid ?_
    have HB2 := Lib.hid (HB1.out.trans (hb2.mono HB1.out.size))
    clear hb2
    go_wp2_with (first
      | (go_at_call 9; refine (HR.out _).mono ?_; rintro e w3 ⟨rfl, hb3⟩; refine Hid.out ?_))
    refine Lib.hid ?_
    have HB3 := Lib.hid (HB2.out.trans (hb3.mono HB2.out.size))
    clear hb3
    go_wp2
    go_ret
    exact ⟨rfl, HB3.out⟩
set_option maxRecDepth 100000 in
set_option maxHeartbeats 1000000 in
theorem Stretches_yes (a p : ByteArray) (r : Nat) (w : World) (hE : Env w) (h1 : ¬ 500 < a.size) (h2 : ¬ 500 < p.size) (h : r ≤ 20) : Calls Tryd.prog 4 #[.string a, .string p, .int .i64 (r : Int)] w fun e w' => e = .returned (.bool true) ∧ Below w.heap.size w w' := by
  have hLv := lives_any w hE
  have HA := Lib.hid (fun W (h' : Env W) => Stretch_any a p r W h' (by omega) (by omega) (by omega))
  have HA2 : Hid (∀ W, Env W → Calls Tryd.prog 8 #[.string a, .string p, .int .i64 ((r : Int) + 1)] W fun e w' => e = .returned (.tuple #[.string (stB a p (r + 1)), .int .i64 0]) ∧ Below W.heap.size W w') := Lib.hid (fun W h' => by
    have := Stretch_any a p (r + 1) W h' (by omega) (by omega) (by omega)
    rw [Int.natCast_succ] at this
    exact this)
  have HR := Lib.hid (fun W => refStretch_any a p r W (by omega) (by omega) (by omega))
  have HS : Hid (∀ W, Env W → Calls Tryd.prog 6 #[.string (oneB ++ stB a p r)] W fun e w' => e = .returned (.string (stB a p (r + 1))) ∧ Below W.heap.size W w') := Lib.hid (fun W h' => by
    have h8 : (oneB ++ stB a p r).size ≤ 8000 := by rw [next_size _ (stB_size a p r)]; omega
    have h9 := Sum_any (oneB ++ stB a p r) W h' h8
    have hst : stB a p (r + 1) = ⟨(sumN (oneB ++ stB a p r).data.toList).toArray⟩ := rfl
    rw [hst]
    exact h9)
  have hz := stB_size a p r
  obtain ⟨r1, hr1⟩ : ∃ r1, r + 1 = r1 := ⟨_, rfl⟩
  rw [hr1] at HA2 HS
  obtain ⟨X, hX⟩ : ∃ X, stB a p r = X := ⟨_, rfl⟩
  obtain ⟨Y, hY⟩ : ∃ Y, stB a p r1 = Y := ⟨_, rfl⟩
  rw [hX] at HA HR HS hz
  rw [hY] at HA2 HS
  have hv4 : ¬ 9223372036854775807 < 1 + X.size := by omega
  have i1 : ¬ (500 : Int) < (a.size : Int) := by omega
  have i2 : ¬ (500 : Int) < (p.size : Int) := by omega
  have i3 : ¬ (20 : Int) < (r : Int) := by omega
  have HE := Lib.hid hE
  clear hE hX hY hr1 hz
  go_enter Tryd.func4, Tryd.ntmps4
  go_wp2_with (first
    | (go_at_call 5; refine hLv.mono ?_; rintro e w1 ⟨rfl, hb1⟩; refine Hid.out ?_))
  refine Lib.hid ?_
  have HB1 := Lib.hid hb1
  clear hLv hb1
  go_wp2_with (first
    | (go_at_call 8; refine (HA.out _ (HE.out.below HB1.out)).mono ?_; rintro e w2 ⟨rfl, hb2⟩; refine Hid.out ?_))
  refine Lib.hid ?_
  have HB2 := Lib.hid (HB1.out.trans (hb2.mono HB1.out.size))
  clear hb2
  go_wp2_with (first
    | (go_at_call 9; refine (HR.out _).mono ?_; rintro e w3 ⟨rfl, hb3⟩; refine Hid.out ?_))
  refine Lib.hid ?_
  have HB3 := Lib.hid (HB2.out.trans (hb3.mono HB2.out.size))
  clear hb3
  go_wp2_with (first
    | (go_at_call 8; refine (HA2.out _ (HE.out.below HB3.out)).mono ?_; rintro e w4 ⟨rfl, hb4⟩; refine Hid.out ?_))
  refine Lib.hid ?_
  have HB4 := Lib.hid (HB3.out.trans (hb4.mono HB3.out.size))
  clear hb4
  go_wp2_with (first
    | (go_at_call 6; refine (HS.out _ (HE.out.below HB4.out)).mono ?_; rintro e w5 ⟨rfl, hb5⟩; refine Hid.out ?_))
  refine Lib.hid ?_
  have HB5 := Lib.hid (HB4.out.trans (hb5.mono HB4.out.size))
  clear hb5
  go_wp2
  go_ret
  exact ⟨ret_bool (by simp), HB5.out⟩
theorem ShaStretches_any (a p : ByteArray) (r : Int) (w : World) (hE : Env w) : Calls Tryd.prog 4 #[.string a, .string p, .int .i64 r] w fun e w' => e = .returned (.bool true) ∧ Below w.heap.size w w' := by
  by_cases h1 : 500 < a.size
  · exact Stretches_big a p r w hE (.inl h1)
  by_cases h2 : 500 < p.size
  · exact Stretches_big a p r w hE (.inr (.inl h2))
  by_cases h3 : r < 0 ∨ 1000 < r
  · exact Stretches_no a p r w hE h1 h2 h3
  by_cases h4 : r ≤ 20
  · obtain ⟨n, rfl⟩ := Int.eq_ofNat_of_zero_le (show 0 ≤ r by omega)
    exact Stretches_yes a p n w hE h1 h2 (by omega)
  · exact Stretches_big a p r w hE (.inr (.inr ⟨by omega, by omega⟩))
end Go.Proofs.YtfcmgodeehjnoaaDoor
