/- What Right, At, Has and their kin of package label and of the reference answer, for every label. -/
import Derived.Test.YtfpjeclbilhgdaaDoorBase
namespace Go.Proofs.YtfpjeclbilhgdaaDoor
open Go.RowKit Go.Sort


set_option maxHeartbeats 400000 in
theorem Right_any (d : Int) (p : Option Addr) (cap : Nat) (xs : List (Int × Int)) (w : World) (hm : xs.length ≤ maxLen) (hc : CatsAt w p xs) :
    Calls Tryd.prog 44 #[.agg #[.int .i64 d, .slice p xs.length cap]] w fun e w' => e = .returned (.bool (rightS d xs)) ∧ Below w.heap.size w w' := by
  unfold maxLen at hm
  by_cases h1 : lev d = true
  · by_cases h2 : xs.length ≤ 16
    · have h2' : ¬ (16 : Int) < (xs.length : Int) := by omega
      have hW1 : Below w.heap.size w (w.alloc (.cells #[.int .i64 d, .slice p xs.length cap] 24)) := (Below.refl _ _).alloc (Nat.le_refl _) _
      go_enter Tryd.func44, Tryd.ntmps44
      go_wp2_with (first | (go_at_call 24; refine (isLevel_any _ _).mono ?_; rintro e w' ⟨rfl, rfl⟩))
      go_loopw [3, 19] (fun l i wr => ∃ k : Nat, k ≤ xs.length ∧ i = .int .i64 k ∧ l = .int .i64 (lastAt xs k) ∧ rOk d 0 xs = rOk d (lastAt xs k) (xs.drop k) ∧ Below (w.heap.size + 1) (w.alloc (.cells #[.int .i64 d, .slice p xs.length cap] 24)) wr) (fun _ i _ => xs.length - (intOf i).toNat)
      case atStart => exact ⟨0, Nat.zero_le _, rfl, rfl, by simp [lastAt], Below.refl _ _⟩
      case round =>
        obtain ⟨k, hk, rfl, rfl, hr, hb⟩ := hrel
        have b0 : wr.cell? ⟨w.heap.size, 0, none⟩ = some (.int .i64 d) := (hb.cell (p := ⟨w.heap.size, 0, none⟩) (by simp)).trans (by simp [go_sem])
        have HR : Hid (rOk d 0 xs = rOk d (lastAt xs k) (xs.drop k)) := hr; clear hr
        by_cases hlt : k < xs.length
        · obtain ⟨b, off, rfl, hbl, c0, c1⟩ := hc.get hb hW1 (by omega) k hlt
          clear hc
          have hz : w.heap.size < wr.heap.size := by have := hb.size; simp at this; omega
          have hB : Below w.heap.size w wr := hW1.trans (hb.mono (by omega))
          have HS : Hid (rOk d (lastAt xs k) (xs.drop k) = (can xs[k] && !(xs[k].2 == d) && !(decide (xs[k].1 ≤ lastAt xs k)) && rOk d xs[k].1 (xs.drop (k + 1)))) := rOk_step d _ xs k hlt
          have hsz : w.heap.size ≤ wr.heap.size := hB.size
          by_cases h3 : can xs[k] = true
          · by_cases h4 : (xs[k].2 == d) = true
            · go_wp2_with (first | (go_at_call 46; refine (canBe_any _ _).mono ?_; rintro e w' ⟨rfl, rfl⟩))
              go_ret
              exact ⟨ret_bool (by unfold rightS; rw [HR.out, HS.out]; simp [h4]), by go_grown⟩
            · have h4' : (xs[k].2 == d) = false := by simpa using h4
              by_cases h5 : xs[k].1 ≤ lastAt xs k
              · go_wp2_with (first | (go_at_call 46; refine (canBe_any _ _).mono ?_; rintro e w' ⟨rfl, rfl⟩))
                go_ret
                exact ⟨ret_bool (by unfold rightS; rw [HR.out, HS.out]; simp [h5]), by go_grown⟩
              · go_wp2_with (first | (go_at_call 46; refine (canBe_any _ _).mono ?_; rintro e w' ⟨rfl, rfl⟩))
                go_roundw
                case rel => exact ⟨k + 1, by omega, by go_num, by rw [lastAt_succ xs k hlt], by rw [HR.out, HS.out, lastAt_succ xs k hlt]; simp [h3, h4', h5], by go_grown⟩
                case measure => simp [intOf]; omega
          · have h3' : can xs[k] = false := by simpa using h3
            go_wp2_with (first | (go_at_call 46; refine (canBe_any _ _).mono ?_; rintro e w' ⟨rfl, rfl⟩))
            go_ret
            exact ⟨ret_bool (by unfold rightS; rw [HR.out, HS.out]; simp [h3']), by go_grown⟩
        · go_wp2
          go_ret
          exact ⟨ret_bool (by unfold rightS; rw [HR.out, List.drop_of_length_le (by omega)]; simp [rOk, h1, h2]), hW1.trans (hb.mono (by omega))⟩
    · have h2' : (16 : Int) < (xs.length : Int) := by omega
      go_enter Tryd.func44, Tryd.ntmps44
      go_wp2_with (first | (go_at_call 24; refine (isLevel_any _ _).mono ?_; rintro e w' ⟨rfl, rfl⟩))
      go_ret
      exact ⟨ret_bool (by unfold rightS; simp; omega), by go_grown⟩
  · have h1' : lev d = false := by simpa using h1
    go_enter Tryd.func44, Tryd.ntmps44
    go_wp2_with (first | (go_at_call 24; refine (isLevel_any _ _).mono ?_; rintro e w' ⟨rfl, rfl⟩))
    go_ret
    exact ⟨ret_bool (by unfold rightS; simp [h1']), by go_grown⟩
theorem bdn {B : Nat} {w w' : World} (h : Below B w w') (n : Nat) : Below B w (w'.drewN n) := ⟨h.os, h.tape, h.output, h.size, h.block⟩
theorem can_eq (x : Int × Int) : can x = (isCt x.1 && lev x.2) := rfl
theorem getD_last (xs : List (Int × Int)) (m : Nat) (h : m < xs.length) : lastAt xs (m + 1) = xs[m].1 := lastAt_succ xs m h

set_option maxHeartbeats 400000 in
theorem refRight_any (d : Int) (p : Option Addr) (cap : Nat) (xs : List (Int × Int)) (w : World) (hm : xs.length ≤ maxLen) (hc : CatsAt w p xs) :
    Calls Tryd.prog 13 #[.agg #[.int .i64 d, .slice p xs.length cap]] w fun e w' => e = .returned (.bool (rightS d xs)) ∧ Below w.heap.size w w' := by
  unfold maxLen at hm
  by_cases h1 : lev d = true
  · by_cases h2 : xs.length ≤ 16
    · have h2' : ¬ (16 : Int) < (xs.length : Int) := by omega
      have hW1 : Below w.heap.size w (w.alloc (.cells #[.int .i64 d, .slice p xs.length cap] 24)) := (Below.refl _ _).alloc (Nat.le_refl _) _
      go_enter Tryd.func13, Tryd.ntmps13
      go_wp2_with (first | (go_at_call 36; refine (Level_any _ _).mono ?_; rintro e w' ⟨rfl, rfl⟩))
      go_loopw [18] (fun i wr => ∃ k : Nat, k ≤ xs.length ∧ i = .int .i64 k ∧ rOk d 0 xs = rOk d (lastAt xs k) (xs.drop k) ∧ Below (w.heap.size + 1) (w.alloc (.cells #[.int .i64 d, .slice p xs.length cap] 24)) wr) (fun i _ => xs.length - (intOf i).toNat)
      case atStart => exact ⟨0, Nat.zero_le _, rfl, by simp [lastAt], Below.refl _ _⟩
      case round =>
        obtain ⟨k, hk, rfl, hr, hb⟩ := hrel
        have HR : Hid (rOk d 0 xs = rOk d (lastAt xs k) (xs.drop k)) := hr; clear hr
        by_cases hlt : k < xs.length
        · have b0 : wr.cell? ⟨w.heap.size, 0, none⟩ = some (.int .i64 d) := (hb.cell (p := ⟨w.heap.size, 0, none⟩) (by simp)).trans (by simp [go_sem])
          have b1 : wr.cell? ⟨w.heap.size, 1, none⟩ = some (.slice p xs.length cap) := (hb.cell (p := ⟨w.heap.size, 1, none⟩) (by simp)).trans (by simp [go_sem])
          have hz : w.heap.size < wr.heap.size := by have := hb.size; simp at this; omega
          have hB : Below w.heap.size w wr := hW1.trans (hb.mono (by omega))
          have hsz : w.heap.size ≤ wr.heap.size := hB.size
          have HS : Hid (rOk d (lastAt xs k) (xs.drop k) = (can xs[k] && !(xs[k].2 == d) && !(decide (xs[k].1 ≤ lastAt xs k)) && rOk d xs[k].1 (xs.drop (k + 1)))) := rOk_step d _ xs k hlt
          have HL : Hid (lastAt xs (k + 1) = xs[k].1) := lastAt_succ xs k hlt
          by_cases h3 : isCt xs[k].1 = true
          · by_cases h4 : lev xs[k].2 = true
            · by_cases h5 : (xs[k].2 == d) = true
              · obtain ⟨b, off, rfl, hbl, c0, c1⟩ := hc.get hb hW1 (by omega) k hlt
                clear hc
                go_wp2
                go_quiet ((first | (go_at_call 37; exact Calls.quiet_of_same (Cat_any _ _)) | (go_at_call 36; exact Calls.quiet_of_same (Level_any _ _))))
                go_wp2
                go_ret
                exact ⟨ret_bool (by unfold rightS; rw [HR.out, HS.out]; simp [h5]), bdn (by go_grown) _⟩
              · have h5' : (xs[k].2 == d) = false := by simpa using h5
                by_cases h0 : k = 0
                · have h0' : decide (0 < k) = false := by simp; omega
                  have h6 : lastAt xs k < xs[k].1 := by subst h0; simp [lastAt]; simp [isCt] at h3; omega
                  clear h0
                  obtain ⟨b, off, rfl, hbl, c0, c1⟩ := hc.get hb hW1 (by omega) k hlt
                  clear hc
                  go_wp2
                  go_quiet ((first | (go_at_call 37; exact Calls.quiet_of_same (Cat_any _ _)) | (go_at_call 36; exact Calls.quiet_of_same (Level_any _ _))))
                  go_wp2
                  go_roundw
                  case rel => exact ⟨k + 1, by omega, by go_num, by rw [HR.out, HS.out, HL.out]; simp [can, h3, h4, h5', h6], bdn (by go_grown) _⟩
                  case measure => simp [intOf]; omega
                · obtain ⟨m, rfl⟩ : ∃ m, k = m + 1 := ⟨k - 1, by omega⟩
                  have HM : Hid (lastAt xs (m + 1) = xs[m].1) := lastAt_succ xs m (by omega)
                  obtain ⟨b, off, rfl, hbl, c0, c1⟩ := hc.get hb hW1 (by omega) (m + 1) hlt
                  obtain ⟨b2, off2, he, _, c2, _⟩ := hc.get hb hW1 (by omega) m (by omega)
                  simp only [Option.some.injEq, Addr.mk.injEq, and_true] at he
                  obtain ⟨rfl, rfl⟩ := he
                  clear hc
                  have hwm : IntKind.i64.wrap (m : Int) = (m : Int) := IntWalk.i64_in _ (by omega)
                  have hmi : (m : Int) < (xs.length : Int) := by omega
                  have hbz : b < wr.heap.size := by omega
                  by_cases h6 : xs[m + 1].1 ≤ xs[m].1
                  · go_wp2
                    go_quiet ((first | (go_at_call 37; exact Calls.quiet_of_same (Cat_any _ _)) | (go_at_call 36; exact Calls.quiet_of_same (Level_any _ _))))
                    go_wp2
                    go_ret
                    exact ⟨ret_bool (by unfold rightS; rw [HR.out, HS.out, HM.out]; simp [h6]), bdn (by go_grown) _⟩
                  · go_wp2
                    go_quiet ((first | (go_at_call 37; exact Calls.quiet_of_same (Cat_any _ _)) | (go_at_call 36; exact Calls.quiet_of_same (Level_any _ _))))
                    go_wp2
                    go_roundw
                    case rel => exact ⟨m + 1 + 1, by omega, by go_num, by rw [HR.out, HS.out, HL.out, HM.out]; simp [can, h3, h4, h5', h6], bdn (by go_grown) _⟩
                    case measure => simp [intOf]; omega
            · have h4' : lev xs[k].2 = false := by simpa using h4
              obtain ⟨b, off, rfl, hbl, c0, c1⟩ := hc.get hb hW1 (by omega) k hlt
              clear hc
              go_wp2
              go_quiet ((first | (go_at_call 37; exact Calls.quiet_of_same (Cat_any _ _)) | (go_at_call 36; exact Calls.quiet_of_same (Level_any _ _))))
              go_wp2
              go_ret
              exact ⟨ret_bool (by unfold rightS; rw [HR.out, HS.out]; simp [can, h4']), bdn (by go_grown) _⟩
          · have h3' : isCt xs[k].1 = false := by simpa using h3
            obtain ⟨b, off, rfl, hbl, c0, c1⟩ := hc.get hb hW1 (by omega) k hlt
            clear hc
            go_wp2
            go_quiet ((first | (go_at_call 37; exact Calls.quiet_of_same (Cat_any _ _)) | (go_at_call 36; exact Calls.quiet_of_same (Level_any _ _))))
            go_wp2
            go_ret
            exact ⟨ret_bool (by unfold rightS; rw [HR.out, HS.out]; simp [can, h3']), bdn (by go_grown) _⟩
        · go_wp2
          go_ret
          exact ⟨ret_bool (by unfold rightS; rw [HR.out, List.drop_of_length_le (by omega)]; simp [rOk, h1, h2]), hW1.trans (hb.mono (by omega))⟩
    · have h2' : (16 : Int) < (xs.length : Int) := by omega
      go_enter Tryd.func13, Tryd.ntmps13
      go_wp2_with (first | (go_at_call 36; refine (Level_any _ _).mono ?_; rintro e w' ⟨rfl, rfl⟩))
      go_ret
      exact ⟨ret_bool (by unfold rightS; simp; omega), by go_grown⟩
  · have h1' : lev d = false := by simpa using h1
    go_enter Tryd.func13, Tryd.ntmps13
    go_wp2_with (first | (go_at_call 36; refine (Level_any _ _).mono ?_; rintro e w' ⟨rfl, rfl⟩))
    go_ret
    exact ⟨ret_bool (by unfold rightS; simp [h1']), by go_grown⟩

end Go.Proofs.YtfpjeclbilhgdaaDoor
