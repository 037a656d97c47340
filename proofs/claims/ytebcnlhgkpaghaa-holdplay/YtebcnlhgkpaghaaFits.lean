/- What the small functions of package hold answer, and which labels fit. -/
import Derived.Test.YtebcnlhgkpaghaaLab
namespace Go.Proofs.Ytebcnlhgkpaghaa
open Go.RowKit Go.Sort
theorem isId_any (n : Int) (w : World) : Calls Try.prog 14 #[.int .i64 n] w fun e w' => e = .returned (.bool (isCt n)) ∧ w' = w := by
  by_cases h1 : 1 ≤ n <;> by_cases h2 : n ≤ 2305843009213693951 <;>
  · go_enter Try.func14, Try.ntmps14
    go_wp2
    go_ret
    exact ⟨by simp [isCt, h1, h2], rfl⟩
/-- The lowest level of a kind. -/
def low (k : Int) : Int := if k = 4 ∨ k = 5 then 0 else 1
theorem lowest_any (k : Int) (w : World) : Calls Try.prog 38 #[.int .i64 k] w fun e w' => e = .returned (.int .i64 (low k)) ∧ w' = w := by
  by_cases h1 : k = 4
  · subst h1
    go_enter Try.func38, Try.ntmps38
    go_wp2
    go_ret
    exact ⟨rfl, rfl⟩
  · by_cases h2 : k = 5
    · subst h2
      go_enter Try.func38, Try.ntmps38
      go_wp2
      go_ret
      exact ⟨rfl, rfl⟩
    · have e1 : (k == 4) = false := by simpa using h1
      have e2 : (k == 5) = false := by simpa using h2
      go_enter Try.func38, Try.ntmps38
      go_wp2
      go_ret
      exact ⟨by simp [low, h1, h2], rfl⟩
def canL (f n : Int) : Bool := decide (f ≤ n) && decide (n ≤ 4)
theorem can1_any (B : Nat) (f n : Int) (w : World) (hl : w.cell? ⟨B, 0, none⟩ = some (.int .i64 f)) :
    Calls Try.prog 46 #[.int .i64 n, .pointer (some ⟨B, 0, none⟩)] w fun e w' => e = .returned (.bool (canL f n)) ∧ w' = w := by
  by_cases h1 : f ≤ n <;> by_cases h2 : n ≤ 4 <;>
  · go_enter Try.func46, Try.ntmps46
    go_wp2
    go_ret
    exact ⟨by simp [canL, h1, h2], rfl⟩
def fOk (d f : Int) : Int → List (Int × Int) → Bool
  | _, [] => true
  | last, x :: xs => !(decide (x.1 ≤ last)) && isCt x.1 && !(x.2 == d) && canL f x.2 && fOk d f x.1 xs
/-- Is the label right, with levels from f to L3? -/
def fitsS (d f : Int) (xs : List (Int × Int)) : Bool := canL f d && decide (xs.length ≤ 16) && fOk d f 0 xs
theorem fOk_step (d f last : Int) (xs : List (Int × Int)) (k : Nat) (h : k < xs.length) :
    fOk d f last (xs.drop k) = (!(decide (xs[k].1 ≤ last)) && isCt xs[k].1 && !(xs[k].2 == d) && canL f xs[k].2 && fOk d f xs[k].1 (xs.drop (k + 1))) := by
  rw [List.drop_eq_getElem_cons h]; rfl
set_option maxRecDepth 100000 in
set_option maxHeartbeats 1000000 in
theorem fits_any (d f : Int) (p : Option Addr) (cap : Nat) (xs : List (Int × Int)) (w : World) (hm : xs.length ≤ maxLen) (hc : CatsAt w p xs) :
    Calls Try.prog 15 #[.agg #[.int .i64 d, .slice p xs.length cap], .int .i64 f] w fun e w' => e = .returned (.bool (fitsS d f xs)) ∧ Below w.heap.size w w' := by
  unfold maxLen at hm
  have hW1 : Below w.heap.size w ((w.alloc (.cells #[.int .i64 d, .slice p xs.length cap] 24)).alloc (.cells #[.int .i64 f] 3)) := by go_grown
  obtain ⟨W1, hW⟩ : ∃ W1, ((w.alloc (.cells #[.int .i64 d, .slice p xs.length cap] 24)).alloc (.cells #[.int .i64 f] 3)) = W1 := ⟨_, rfl⟩
  have b0 : W1.cell? ⟨w.heap.size, 0, none⟩ = some (.int .i64 d) := by rw [← hW]; simp [go_sem]
  have b1 : W1.cell? ⟨w.heap.size, 1, none⟩ = some (.slice p xs.length cap) := by rw [← hW]; simp [go_sem]
  have b2 : W1.cell? ⟨w.heap.size + 1, 0, none⟩ = some (.int .i64 f) := by rw [← hW]; simp [go_sem]
  have hs1 : W1.heap.size = w.heap.size + 2 := by rw [← hW]; simp
  rw [hW] at hW1
  have HC : Hid (∀ n, Calls Try.prog 46 #[.int .i64 n, .pointer (some ⟨w.heap.size + 1, 0, none⟩)] W1 fun e w' => e = .returned (.bool (canL f n)) ∧ w' = W1) := fun n => can1_any _ f n W1 b2
  by_cases h1 : canL f d = true
  · by_cases h2 : xs.length ≤ 16
    · have h2' : ¬ (16 : Int) < (xs.length : Int) := by omega
      go_enter Try.func15, Try.ntmps15
      go_wp2_with (first | (go_at_call 46; refine (HC.out _).mono ?_; rintro e w' ⟨rfl, hw'⟩; rw [hw']; clear hw' w'))
      go_loopw [6, 24] (fun l i wr => ∃ k : Nat, k ≤ xs.length ∧ i = .int .i64 k ∧ l = .int .i64 (lastAt xs k) ∧ fOk d f 0 xs = fOk d f (lastAt xs k) (xs.drop k) ∧ Below W1.heap.size W1 wr) (fun _ i _ => xs.length - (intOf i).toNat)
      case atStart => exact ⟨0, Nat.zero_le _, rfl, rfl, by simp [lastAt], Below.refl _ _⟩
      case round =>
        obtain ⟨k, hk, rfl, rfl, hr, hb⟩ := hrel
        have b0r : wr.cell? ⟨w.heap.size, 0, none⟩ = some (.int .i64 d) := (hb.cell (p := ⟨w.heap.size, 0, none⟩) (by simp; omega)).trans b0
        have b2r : wr.cell? ⟨w.heap.size + 1, 0, none⟩ = some (.int .i64 f) := (hb.cell (p := ⟨w.heap.size + 1, 0, none⟩) (by simp; omega)).trans b2
        have HR : Hid (fOk d f 0 xs = fOk d f (lastAt xs k) (xs.drop k)) := hr
        have hB : Below w.heap.size w wr := hW1.trans (hb.mono (by omega))
        have hsz : w.heap.size ≤ wr.heap.size := hB.size
        have hz : w.heap.size + 1 < wr.heap.size := by have := hb.size; omega
        have hz0 : w.heap.size < wr.heap.size := by omega
        clear hr b0 b1 b2 HC
        by_cases hlt : k < xs.length
        · obtain ⟨b, off, rfl, hbl, c0, c1⟩ := hc.get hb hW1 (by omega) k hlt
          clear hc
          have HS : Hid (fOk d f (lastAt xs k) (xs.drop k) = (!(decide (xs[k].1 ≤ lastAt xs k)) && isCt xs[k].1 && !(xs[k].2 == d) && canL f xs[k].2 && fOk d f xs[k].1 (xs.drop (k + 1)))) := fOk_step d f _ xs k hlt
          by_cases h3 : xs[k].1 ≤ lastAt xs k
          · have h3b : decide (xs[k].1 ≤ lastAt xs k) = true := by simpa using h3
            go_wp2_with (first | (go_at_call 46; refine (can1_any _ f _ _ (by simp [go_sem, b2r, hz])).mono ?_; rintro e w' ⟨rfl, hw'⟩; rw [hw']; clear hw' w') | (go_at_call 14; refine (isId_any _ _).mono ?_; rintro e w' ⟨rfl, hw'⟩; rw [hw']; clear hw' w'))
            go_ret
            exact ⟨ret_bool (by unfold fitsS; rw [HR.out, HS.out]; simp [h3]), by go_grown⟩
          · have h3b : decide (xs[k].1 ≤ lastAt xs k) = false := by simpa using h3
            by_cases h4 : isCt xs[k].1 = true
            · by_cases h5 : (xs[k].2 == d) = true
              · go_wp2_with (first | (go_at_call 46; refine (can1_any _ f _ _ (by simp [go_sem, b2r, hz])).mono ?_; rintro e w' ⟨rfl, hw'⟩; rw [hw']; clear hw' w') | (go_at_call 14; refine (isId_any _ _).mono ?_; rintro e w' ⟨rfl, hw'⟩; rw [hw']; clear hw' w'))
                go_ret
                exact ⟨ret_bool (by unfold fitsS; rw [HR.out, HS.out]; simp [h5]), by go_grown⟩
              · have h5' : (xs[k].2 == d) = false := by simpa using h5
                by_cases h6 : canL f xs[k].2 = true
                · go_wp2_with (first | (go_at_call 46; refine (can1_any _ f _ _ (by simp [go_sem, b2r, hz])).mono ?_; rintro e w' ⟨rfl, hw'⟩; rw [hw']; clear hw' w') | (go_at_call 14; refine (isId_any _ _).mono ?_; rintro e w' ⟨rfl, hw'⟩; rw [hw']; clear hw' w'))
                  go_roundw
                  case rel => exact ⟨k + 1, by omega, by go_num, by rw [lastAt_succ xs k hlt], by rw [HR.out, HS.out, lastAt_succ xs k hlt]; simp [h3, h4, h5', h6], by go_grown⟩
                  case measure => simp [intOf]; omega
                · have h6' : canL f xs[k].2 = false := by simpa using h6
                  go_wp2_with (first | (go_at_call 46; refine (can1_any _ f _ _ (by simp [go_sem, b2r, hz])).mono ?_; rintro e w' ⟨rfl, hw'⟩; rw [hw']; clear hw' w') | (go_at_call 14; refine (isId_any _ _).mono ?_; rintro e w' ⟨rfl, hw'⟩; rw [hw']; clear hw' w'))
                  go_ret
                  exact ⟨ret_bool (by unfold fitsS; rw [HR.out, HS.out]; simp [h6']), by go_grown⟩
            · have h4' : isCt xs[k].1 = false := by simpa using h4
              go_wp2_with (first | (go_at_call 46; refine (can1_any _ f _ _ (by simp [go_sem, b2r, hz])).mono ?_; rintro e w' ⟨rfl, hw'⟩; rw [hw']; clear hw' w') | (go_at_call 14; refine (isId_any _ _).mono ?_; rintro e w' ⟨rfl, hw'⟩; rw [hw']; clear hw' w'))
              go_ret
              exact ⟨ret_bool (by unfold fitsS; rw [HR.out, HS.out]; simp [h4']), by go_grown⟩
        · go_wp2
          go_ret
          exact ⟨ret_bool (by unfold fitsS; rw [HR.out, List.drop_of_length_le (by omega)]; simp [fOk, h1, h2]), hB⟩
    · have h2' : (16 : Int) < (xs.length : Int) := by omega
      go_enter Try.func15, Try.ntmps15
      go_wp2_with (first | (go_at_call 46; refine (HC.out _).mono ?_; rintro e w' ⟨rfl, hw'⟩; rw [hw']; clear hw' w'))
      go_ret
      exact ⟨ret_bool (by unfold fitsS; simp; omega), hW1⟩
  · have h1' : canL f d = false := by simpa using h1
    go_enter Try.func15, Try.ntmps15
    go_wp2_with (first | (go_at_call 46; refine (HC.out _).mono ?_; rintro e w' ⟨rfl, hw'⟩; rw [hw']; clear hw' w'))
    go_ret
    exact ⟨ret_bool (by unfold fitsS; simp [h1']), hW1⟩
end Go.Proofs.Ytebcnlhgkpaghaa
