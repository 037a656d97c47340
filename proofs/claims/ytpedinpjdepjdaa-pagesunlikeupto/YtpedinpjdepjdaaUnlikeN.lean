/- What Unlike of package pages answers where one of the two is nil. -/
import Derived.Test.YtpedinpjdepjdaaWord
namespace Go.Proofs.Ytpedinpjdepjdaa
open Go.RowKit Go.Lib
theorem row_formk {w : World} {base e size n : Nat} {v : Value} {xs : List Value} (h : w.ownsRow base e size v n xs) : ∃ sp cap, v = .slice sp n cap := by
  rcases h.2 with ⟨rfl, h0⟩ | ⟨g, cap, _, rfl, _⟩
  · exact ⟨none, 0, by rw [h0]⟩
  · exact ⟨_, _, rfl⟩
set_option maxRecDepth 100000 in
set_option maxHeartbeats 1000000 in
/-- One of the two is nil: every page of the other is unlike. -/
theorem Unlike_right (base Bb : Nat) (d : List UInt8) (ls : List (Nat × Bool)) (w : World) (h : BAt w base Bb d ls) :
    Calls Try.prog 11 #[.pointer (some ⟨Bb, 0, none⟩), .pointer none] w fun e w' => (∃ sp cap, e = .returned (.slice sp ((d.length + 63) / 64) cap)) ∧ Below w.heap.size w w' := by
  obtain ⟨i0, hi, hz0, hz1, hz2⟩ := info_parts intInfo
  have hlen := h.len
  have HP := Lib.hid (fun W' (hb : RowKit.Below w.heap.size w W') => Pages_any (h.below hb))
  have HT := Lib.hid (fun W' (hb : RowKit.Below w.heap.size w W') i hi => taken_any (h.below hb) i hi)
  clear h
  go_enter Try.func11, Try.ntmps11
  have hPn := Pages_nil w
  have hPb := HP.out w (Below.refl _ _)
  go_wp2_with (first
    | (go_at_call 16; refine hPb.mono ?_; rintro e w1 ⟨rfl, hw1⟩; rw [hw1]; clear hw1 w1)
    | (go_at_call 16; refine hPn.mono ?_; rintro e w1 ⟨rfl, hw1⟩; rw [hw1]; clear hw1 w1))
  obtain ⟨N, hN⟩ : ∃ N : Nat, (d.length + 63) / 64 = N := ⟨_, rfl⟩
  have hmax : max (((d.length : Int) + 63) / 64) 0 = (N : Int) := by omega
  rw [hmax]
  have hN64 : N ≤ 64 := by omega
  have HN := Lib.hid hN
  go_loopw [5, 12] (fun x y wr => ∃ k : Nat, y = .int .i64 k ∧ k ≤ N ∧ wr.ownsRow w.heap.size 3 1 x k ((List.range k).map fun (j : Nat) => Value.int .i64 (j : Int)) ∧ RowKit.Below w.heap.size w wr) (fun _ y _ => (N - RowKit.intOf y).toNat)
  case atStart => exact ⟨0, rfl, Nat.zero_le _, World.ownsRow_nil _ _ _ _, Below.refl _ _⟩
  case round =>
    obtain ⟨k, rfl, hk, hrow, hB⟩ := hrel
    obtain ⟨sp, cap, rfl⟩ := row_formk hrow
    by_cases hlt : k < N
    · have hki : (k : Int) < (N : Int) := by omega
      obtain ⟨tk, htk⟩ : ∃ tk, takenI d.length k = tk := ⟨_, rfl⟩
      have hpos : tk ≠ 0 := by rw [← htk]; unfold takenI; have := HN.out; omega
      have hpb : (tk != 0) = true := by simp [hpos]
      have HT1 : Hid (∀ q, Calls Try.prog 27 #[.pointer (some ⟨Bb, 0, none⟩), .int .i64 k] (wr.drewN q) fun e w' => e = .returned (.int .i64 tk) ∧ ∃ q', w' = wr.drewN q') := fun q => by
        refine (HT.out (wr.drewN q) ⟨hB.os, hB.tape, hB.output, hB.size, hB.block⟩ k (by omega)).mono ?_
        rintro e w' ⟨rfl, rfl⟩
        exact ⟨by rw [htk], q, rfl⟩
      have HT2 : Hid (∀ q, Calls Try.prog 27 #[.pointer none, .int .i64 k] (wr.drewN q) fun e w' => e = .returned (.int .i64 0) ∧ ∃ q', w' = wr.drewN q') := fun q => by
        refine (taken_nil k (by omega) (wr.drewN q)).mono ?_
        rintro e w' ⟨rfl, rfl⟩
        exact ⟨by rw [show takenI 0 k = 0 from by unfold takenI; omega], q, rfl⟩
      clear htk
      go_wp2_with fail
      go_quiet (first | (go_at_call_of 27 (Value.pointer (some ⟨Bb, 0, none⟩)); exact HT1.out _) | (go_at_call_of 27 (Value.pointer none); exact HT2.out _))
      have HRA := Lib.hid (fun q => World.ownsRow.alloc (w := wr.drewN q) (show (wr.drewN q).ownsRow w.heap.size 3 1 (.slice sp k cap) k ((List.range k).map fun (j : Nat) => Value.int .i64 (j : Int)) from hrow) (.cells #[.int .i64 k] 3))
      have HN' : Hid (∀ q j u, ([.int .i64 k] : List Value)[j]? = some u → ((wr.drewN q).alloc (.cells #[.int .i64 k] 3)).cell? ((⟨wr.heap.size, 0, none⟩ : Addr).add j) = some u) := fun q j u hu => by
        match j, hu with
        | 0, hu => simp at hu; subst hu; show World.cell? _ ⟨(wr.drewN q).heap.size, 0, none⟩ = _; rw [cell_of_row _ _ _ _ _ _ (heap_new _ _)]; rfl
        | j + 1, hu => simp at hu
      have HOn : Hid (∀ u ∈ ([.int .i64 k] : List Value), u.oneCell' = true) := fun u hu => by simp at hu; rcases hu with rfl; rfl
      have hsz := hB.size
      have HB := Lib.hid hB
      clear hrow hB
      go_wp2_with (at_builtin; refine wpList_append_own _ rfl _ _ 42 rfl w.heap.size 3 i0 (.int .i64 0) 1 8 (by kernel_rfl) hi hz0 hz1 hz2 rfl (by decide) _ _ _ rfl (HRA.out nq) ⟨wr.heap.size, 0, none⟩ 1 1 [.int .i64 k] rfl rfl (HN'.out nq) HOn.out (by show _ ≤ 2 ^ 63 - 1; omega) (by omega) (by show _ ≤ (wr.heap.push _).size; rw [Array.size_push]; omega) ?_; intro v' w4 hown4 hgrow4 hnil4; clear hnil4; obtain ⟨g', cap', hv'⟩ := ownsRow_succ hown4; subst hv'; have HW4 := Lib.hid hown4; have HG4 := Lib.hid hgrow4; clear hown4 hgrow4)
      go_roundw
      case rel =>
        refine ⟨k + 1, by go_num, by omega, ?_, ?_⟩
        · rw [List.range_succ, List.map_append]
          exact HW4.out
        · refine ((show RowKit.Below w.heap.size w (wr.drewN nq) from ⟨HB.out.os, HB.out.tape, HB.out.output, HB.out.size, HB.out.block⟩).alloc hsz _).trans ⟨HG4.out.os, HG4.out.tape, HG4.out.output, HG4.out.size, fun k hk => HG4.out.block k (by simp; omega) (fun e => ?_)⟩
          have := ((HRA.out nq).lt k e.symm).1
          omega
      case measure => simp [RowKit.intOf]; omega
    · obtain rfl : k = N := by omega
      have hki : ¬ (k : Int) < (k : Int) := by omega
      have HR := Lib.hid hrow
      clear hrow
      go_wp2
      go_ret
      exact ⟨⟨sp, cap, by first | rfl | (rw [HN.out]; rfl)⟩, hB⟩
set_option maxRecDepth 100000 in
set_option maxHeartbeats 1000000 in
/-- One of the two is nil: every page of the other is unlike (the left one is nil). -/
theorem Unlike_left (base Bb : Nat) (d : List UInt8) (ls : List (Nat × Bool)) (w : World) (h : BAt w base Bb d ls) :
    Calls Try.prog 11 #[.pointer none, .pointer (some ⟨Bb, 0, none⟩)] w fun e w' => (∃ sp cap, e = .returned (.slice sp ((d.length + 63) / 64) cap)) ∧ Below w.heap.size w w' := by
  obtain ⟨i0, hi, hz0, hz1, hz2⟩ := info_parts intInfo
  have hlen := h.len
  have HP := Lib.hid (fun W' (hb : RowKit.Below w.heap.size w W') => Pages_any (h.below hb))
  have HT := Lib.hid (fun W' (hb : RowKit.Below w.heap.size w W') i hi => taken_any (h.below hb) i hi)
  clear h
  go_enter Try.func11, Try.ntmps11
  have hPn := Pages_nil w
  have hPb := HP.out w (Below.refl _ _)
  go_wp2_with (first
    | (go_at_call 16; refine hPn.mono ?_; rintro e w1 ⟨rfl, hw1⟩; rw [hw1]; clear hw1 w1)
    | (go_at_call 16; refine hPb.mono ?_; rintro e w1 ⟨rfl, hw1⟩; rw [hw1]; clear hw1 w1))
  obtain ⟨N, hN⟩ : ∃ N : Nat, (d.length + 63) / 64 = N := ⟨_, rfl⟩
  have hmax : max 0 (((d.length : Int) + 63) / 64) = (N : Int) := by omega
  rw [hmax]
  have hN64 : N ≤ 64 := by omega
  have HN := Lib.hid hN
  go_loopw [5, 12] (fun x y wr => ∃ k : Nat, y = .int .i64 k ∧ k ≤ N ∧ wr.ownsRow w.heap.size 3 1 x k ((List.range k).map fun (j : Nat) => Value.int .i64 (j : Int)) ∧ RowKit.Below w.heap.size w wr) (fun _ y _ => (N - RowKit.intOf y).toNat)
  case atStart => exact ⟨0, rfl, Nat.zero_le _, World.ownsRow_nil _ _ _ _, Below.refl _ _⟩
  case round =>
    obtain ⟨k, rfl, hk, hrow, hB⟩ := hrel
    obtain ⟨sp, cap, rfl⟩ := row_formk hrow
    by_cases hlt : k < N
    · have hki : (k : Int) < (N : Int) := by omega
      obtain ⟨tk, htk⟩ : ∃ tk, takenI d.length k = tk := ⟨_, rfl⟩
      have hpos : tk ≠ 0 := by rw [← htk]; unfold takenI; have := HN.out; omega
      have hpb : ((0 : Int) != tk) = true := by simp; exact fun e => hpos e.symm
      have HT1 : Hid (∀ q, Calls Try.prog 27 #[.pointer (some ⟨Bb, 0, none⟩), .int .i64 k] (wr.drewN q) fun e w' => e = .returned (.int .i64 tk) ∧ ∃ q', w' = wr.drewN q') := fun q => by
        refine (HT.out (wr.drewN q) ⟨hB.os, hB.tape, hB.output, hB.size, hB.block⟩ k (by omega)).mono ?_
        rintro e w' ⟨rfl, rfl⟩
        exact ⟨by rw [htk], q, rfl⟩
      have HT2 : Hid (∀ q, Calls Try.prog 27 #[.pointer none, .int .i64 k] (wr.drewN q) fun e w' => e = .returned (.int .i64 0) ∧ ∃ q', w' = wr.drewN q') := fun q => by
        refine (taken_nil k (by omega) (wr.drewN q)).mono ?_
        rintro e w' ⟨rfl, rfl⟩
        exact ⟨by rw [show takenI 0 k = 0 from by unfold takenI; omega], q, rfl⟩
      clear htk
      go_wp2_with fail
      go_quiet (first | (go_at_call_of 27 (Value.pointer (some ⟨Bb, 0, none⟩)); exact HT1.out _) | (go_at_call_of 27 (Value.pointer none); exact HT2.out _))
      have HRA := Lib.hid (fun q => World.ownsRow.alloc (w := wr.drewN q) (show (wr.drewN q).ownsRow w.heap.size 3 1 (.slice sp k cap) k ((List.range k).map fun (j : Nat) => Value.int .i64 (j : Int)) from hrow) (.cells #[.int .i64 k] 3))
      have HN' : Hid (∀ q j u, ([.int .i64 k] : List Value)[j]? = some u → ((wr.drewN q).alloc (.cells #[.int .i64 k] 3)).cell? ((⟨wr.heap.size, 0, none⟩ : Addr).add j) = some u) := fun q j u hu => by
        match j, hu with
        | 0, hu => simp at hu; subst hu; show World.cell? _ ⟨(wr.drewN q).heap.size, 0, none⟩ = _; rw [cell_of_row _ _ _ _ _ _ (heap_new _ _)]; rfl
        | j + 1, hu => simp at hu
      have HOn : Hid (∀ u ∈ ([.int .i64 k] : List Value), u.oneCell' = true) := fun u hu => by simp at hu; rcases hu with rfl; rfl
      have hsz := hB.size
      have HB := Lib.hid hB
      clear hrow hB
      go_wp2_with (at_builtin; refine wpList_append_own _ rfl _ _ 42 rfl w.heap.size 3 i0 (.int .i64 0) 1 8 (by kernel_rfl) hi hz0 hz1 hz2 rfl (by decide) _ _ _ rfl (HRA.out nq) ⟨wr.heap.size, 0, none⟩ 1 1 [.int .i64 k] rfl rfl (HN'.out nq) HOn.out (by show _ ≤ 2 ^ 63 - 1; omega) (by omega) (by show _ ≤ (wr.heap.push _).size; rw [Array.size_push]; omega) ?_; intro v' w4 hown4 hgrow4 hnil4; clear hnil4; obtain ⟨g', cap', hv'⟩ := ownsRow_succ hown4; subst hv'; have HW4 := Lib.hid hown4; have HG4 := Lib.hid hgrow4; clear hown4 hgrow4)
      go_roundw
      case rel =>
        refine ⟨k + 1, by go_num, by omega, ?_, ?_⟩
        · rw [List.range_succ, List.map_append]
          exact HW4.out
        · refine ((show RowKit.Below w.heap.size w (wr.drewN nq) from ⟨HB.out.os, HB.out.tape, HB.out.output, HB.out.size, HB.out.block⟩).alloc hsz _).trans ⟨HG4.out.os, HG4.out.tape, HG4.out.output, HG4.out.size, fun k hk => HG4.out.block k (by simp; omega) (fun e => ?_)⟩
          have := ((HRA.out nq).lt k e.symm).1
          omega
      case measure => simp [RowKit.intOf]; omega
    · obtain rfl : k = N := by omega
      have hki : ¬ (k : Int) < (k : Int) := by omega
      have HR := Lib.hid hrow
      clear hrow
      go_wp2
      go_ret
      exact ⟨⟨sp, cap, by first | rfl | (rw [HN.out]; rfl)⟩, hB⟩
set_option maxRecDepth 100000 in
theorem Unlike_none (w : World) :
    Calls Try.prog 11 #[.pointer none, .pointer none] w fun e w' => e = .returned (.slice none 0 0) ∧ w' = w := by
  go_enter Try.func11, Try.ntmps11
  have hPn := Pages_nil w
  go_wp2_with (first
    | (go_at_call 16; refine hPn.mono ?_; rintro e w1 ⟨rfl, hw1⟩; rw [hw1]; clear hw1 w1))
  go_loopw [5, 12] (fun x y wr => x = .slice none 0 0 ∧ y = .int .i64 0 ∧ wr = w) (fun _ _ _ => 0)
  case atStart => exact ⟨rfl, rfl, rfl⟩
  case round =>
    obtain ⟨rfl, rfl, rfl⟩ := hrel
    go_wp2
    go_ret
    exact ⟨rfl, rfl⟩
end Go.Proofs.Ytpedinpjdepjdaa
