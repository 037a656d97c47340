/- Calls of a table that isn't there; a label that fits from L0 on is free. -/
import Derived.Test.YtjhcnbdddjcmcabNewT
import Derived.Test.YtjhcnbdddjcmcabHas
namespace Go.Proofs.Ytjhcnbdddjcmcab
open Go.RowKit Go.Sort
theorem canL1 (n : Int) : canL 1 n = (lev n && !(n == 5) && !(n == 0)) := by
  rw [Bool.eq_iff_iff]; simp [canL, lev]; omega
theorem fOk_free (d : Int) : ∀ (xs : List (Int × Int)) (last : Int), fOk d 1 last xs = (rOk d last xs && !(xs.any fun x => x.2 == 5) && !(xs.any fun x => x.2 == 0))
  | [], _ => rfl
  | x :: xs, last => by
    show (!(decide (x.1 ≤ last)) && isCt x.1 && !(x.2 == d) && canL 1 x.2 && fOk d 1 x.1 xs) = (can x && !(x.2 == d) && !(decide (x.1 ≤ last)) && rOk d x.1 xs && !(((x.2 == 5) || xs.any fun x => x.2 == 5)) && !(((x.2 == 0) || xs.any fun x => x.2 == 0)))
    rw [fOk_free d xs x.1, canL1, can_eq]
    generalize decide (x.1 ≤ last) = a
    generalize isCt x.1 = b
    generalize (x.2 == d) = c
    generalize lev x.2 = e
    generalize (x.2 == 5) = f
    generalize (x.2 == 0) = g
    generalize rOk d x.1 xs = h
    generalize (xs.any fun x => x.2 == 5) = i
    generalize (xs.any fun x => x.2 == 0) = j
    revert a b c e f g h i j
    decide
theorem fits_free (d : Int) (xs : List (Int × Int)) : fitsS d 1 xs = freeS d xs := by
  unfold fitsS freeS plainS rightS hasS
  rw [canL1, fOk_free]
  generalize lev d = a
  generalize (d == 5) = b
  generalize (d == 0) = c
  generalize decide (xs.length ≤ 16) = e
  generalize rOk d 0 xs = f
  generalize (xs.any fun x => x.2 == 5) = i
  generalize (xs.any fun x => x.2 == 0) = j
  revert a b c e f i j
  decide
theorem Drop_nil (i x : Int) (w : World) : Calls Try.prog 5 #[.pointer none, .int .i64 i, .int .i64 x] w fun e w' => e = .returned (.tuple #[.slice none 0 0, .int .i64 4]) ∧ w' = w := by
  have H := Lib.hid (entry_nil i x w)
  go_enter Try.func5, Try.ntmps5
  go_wp2_with (go_at_call 19; refine H.out.mono ?_; rintro e w1 ⟨rfl, hw1⟩; rw [hw1]; clear hw1 w1)
  go_ret2
  exact ⟨rfl, rfl⟩
theorem List_nil (i : Int) (w : World) : Calls Try.prog 6 #[.pointer none, .int .i64 i] w fun e w' => e = .returned (.tuple #[.slice none 0 0, .int .i64 4]) ∧ w' = w := by
  have H := Lib.hid (container_nil i w)
  go_enter Try.func6, Try.ntmps6
  go_wp2_with (go_at_call 22; refine H.out.mono ?_; rintro e w1 ⟨rfl, hw1⟩; rw [hw1]; clear hw1 w1)
  go_ret2
  exact ⟨rfl, rfl⟩
theorem Has_nil (i x : Int) (w : World) : Calls Try.prog 13 #[.pointer none, .int .i64 i, .int .i64 x] w fun e w' => e = .returned (.bool false) ∧ w' = w := by
  have H := Lib.hid (entry_nil i x w)
  go_enter Try.func13, Try.ntmps13
  go_wp2_with (go_at_call 19; refine H.out.mono ?_; rintro e w1 ⟨rfl, hw1⟩; rw [hw1]; clear hw1 w1)
  go_ret
  exact ⟨rfl, rfl⟩
theorem Shift_nil (i x n : Int) (w : World) : Calls Try.prog 11 #[.pointer none, .int .i64 i, .int .i64 x, .int .i64 n] w fun e w' => e = .returned (.int .i64 4) ∧ w' = w := by
  have H := Lib.hid (entry_nil i x w)
  go_enter Try.func11, Try.ntmps11
  go_wp2_with (go_at_call 19; refine H.out.mono ?_; rintro e w1 ⟨rfl, hw1⟩; rw [hw1]; clear hw1 w1)
  go_ret
  exact ⟨rfl, rfl⟩
theorem Link_nil (i x : Int) (w : World) : Calls Try.prog 10 #[.pointer none, .int .i64 i, .int .i64 x] w fun e w' => e = .returned (.int .i64 4) ∧ w' = w := by
  have H := Lib.hid (fun i => find_nil i w)
  go_enter Try.func10, Try.ntmps10
  go_wp2_with (go_at_call 24; refine (H.out _).mono ?_; rintro e w1 ⟨rfl, hw1⟩; rw [hw1]; clear hw1 w1)
  go_ret
  exact ⟨rfl, rfl⟩
theorem Make_nil (i x k n d : Int) (v : Value) (w : World) : Calls Try.prog 9 #[.pointer none, .int .i64 i, .int .i64 x, .int .i64 k, .int .i64 n, .agg #[.int .i64 d, v]] w fun e w' => e = .returned (.int .i64 4) ∧ Below w.heap.size w w' := by
  have H := Lib.hid (fun W => container_nil i W)
  go_enter Try.func9, Try.ntmps9
  go_wp2_with (go_at_call 22; refine (H.out _).mono ?_; rintro e w1 ⟨rfl, hw1⟩; rw [hw1]; clear hw1 w1)
  go_ret
  exact ⟨rfl, by go_grown⟩
theorem Relabel_nil (i d : Int) (v : Value) (w : World) : Calls Try.prog 12 #[.pointer none, .int .i64 i, .agg #[.int .i64 d, v]] w fun e w' => e = .returned (.int .i64 4) ∧ Below w.heap.size w w' := by
  have H := Lib.hid (fun W => find_nil i W)
  go_enter Try.func12, Try.ntmps12
  go_wp2_with (go_at_call 24; refine (H.out _).mono ?_; rintro e w1 ⟨rfl, hw1⟩; rw [hw1]; clear hw1 w1)
  go_ret
  exact ⟨rfl, by go_grown⟩
theorem Ids_nil (w : World) : Calls Try.prog 14 #[.pointer none] w fun e w' => e = .returned (.slice none 0 0) ∧ w' = w := by
  go_enter Try.func14, Try.ntmps14
  go_wp2
  go_ret
  exact ⟨rfl, rfl⟩
theorem Len_nil (w : World) : Calls Try.prog 15 #[.pointer none] w fun e w' => e = .returned (.int .i64 0) ∧ w' = w := by
  go_enter Try.func15, Try.ntmps15
  go_wp2
  go_ret
  exact ⟨rfl, rfl⟩
theorem Copy_nil (w : World) : Calls Try.prog 16 #[.pointer none] w fun e w' => e = .returned (.pointer none) ∧ w' = w := by
  go_enter Try.func16, Try.ntmps16
  go_wp2
  go_ret
  exact ⟨rfl, rfl⟩
theorem Info_nil (i : Int) (w : World) : Calls Try.prog 7 #[.pointer none, .int .i64 i] w fun e w' => e = .returned (.tuple #[.agg #[.int .i64 0, .int .i64 0, .int .i64 0, .int .i64 0, .int .i64 0, .int .i64 0, .slice none 0 0], .bool false]) ∧ Below w.heap.size w w' := by
  have H := Lib.hid (fun W => find_nil i W)
  go_enter Try.func7, Try.ntmps7
  go_wp2_with (go_at_call 24; refine (H.out _).mono ?_; rintro e w1 ⟨rfl, hw1⟩; rw [hw1]; clear hw1 w1)
  refine bodyPost_ret (by simp [results, Try.results7, go_sem]) rfl ⟨rfl, ?_⟩
  go_grown
/-- New, whatever the label. -/
theorem New_all (root d : Int) (p : Option Addr) (cap : Nat) (xs : List (Int × Int)) (w : World) (hm : xs.length ≤ maxLen) (hc : CatsAt w p xs) :
    Calls Try.prog 17 #[.int .i64 root, .agg #[.int .i64 d, .slice p xs.length cap]] w fun e w' => ∃ tp, e = .returned (.pointer tp) ∧ tp.isSome = (isCt root && freeS d xs) ∧ Below w.heap.size w w' := by
  by_cases h : (isCt root && fitsS d 1 xs) = true
  · have h' := h
    simp at h
    refine (New_any root d p cap xs w (by have := h.2; unfold fitsS at this; simp at this; omega) hc h.1 h.2).mono ?_
    rintro e w' ⟨tb, mb, D, r, rfl, _, _, _, hb⟩
    exact ⟨_, rfl, by rw [← fits_free, h']; rfl, hb⟩
  · have h' : (isCt root && fitsS d 1 xs) = false := by simpa using h
    refine (New_no root d p cap xs w hm hc h').mono ?_
    rintro e w' ⟨rfl, hb⟩
    exact ⟨_, rfl, by rw [← fits_free, h']; rfl, hb⟩
end Go.Proofs.Ytjhcnbdddjcmcab
