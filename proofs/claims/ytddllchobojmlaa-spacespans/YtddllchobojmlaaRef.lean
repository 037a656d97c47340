/- What Good, Meet and Right of the reference answer. -/
import Derived.Test.YtddllchobojmlaaFacts
namespace Go.Proofs.Ytddllchobojmlaa
open Go.RowKit Go.Sort
theorem refId_any (n : Int) (w : World) : Calls Try.prog 34 #[.int .i64 n] w fun e w' => e = .returned (.bool (rid n)) ∧ w' = w := by
  by_cases h1 : 1 ≤ n <;> by_cases h2 : n ≤ 2305843009213693951 <;>
  · go_enter Try.func34, Try.ntmps34
    go_wp2
    go_ret
    exact ⟨by simp [rid, h1, h2], rfl⟩
set_option maxHeartbeats 2000000 in
theorem Good_any (m : Mp) (w : World) : Calls Try.prog 24 #[.agg #[.int .i64 m.at_, .int .i64 m.pg, .int .i64 m.inn, .int .i64 m.id, .int .i64 m.fr, .bool m.wr, .bool m.rn]] w fun e w' => e = .returned (.bool (goodM m)) ∧ Below w.heap.size w w' := by
  by_cases h1 : 1 ≤ m.pg
  · by_cases h2 : m.pg ≤ 64
    · by_cases h3 : 0 ≤ m.at_
      · by_cases h4 : m.at_ ≤ 67108864
        · by_cases h5 : 0 ≤ m.fr
          · by_cases h6 : m.fr ≤ 64
            · by_cases h7 : m.at_ + m.pg ≤ 67108864
              · by_cases h8 : m.fr + m.pg ≤ 64
                · by_cases h9 : rid m.inn = true
                  · by_cases h10 : rid m.id = true
                    · go_enter Try.func24, Try.ntmps24
                      go_wp2_with (go_at_call 34; refine (refId_any _ _).mono ?_; rintro e w1 ⟨rfl, hw1⟩; rw [hw1]; clear hw1 w1)
                      go_ret
                      exact ⟨ret_bool (by symm; rw [goodM_iff]; exact ⟨by omega, h9, h10⟩), by go_grown⟩
                    · have h10' : rid m.id = false := by simpa using h10
                      go_enter Try.func24, Try.ntmps24
                      go_wp2_with (go_at_call 34; refine (refId_any _ _).mono ?_; rintro e w1 ⟨rfl, hw1⟩; rw [hw1]; clear hw1 w1)
                      go_ret
                      exact ⟨ret_bool (by symm; rw [Bool.eq_false_iff]; intro hh; have := (goodM_iff m).1 hh; exact absurd this.2.2 (by simpa using h10)), by go_grown⟩
                  · have h9' : rid m.inn = false := by simpa using h9
                    go_enter Try.func24, Try.ntmps24
                    go_wp2_with (go_at_call 34; refine (refId_any _ _).mono ?_; rintro e w1 ⟨rfl, hw1⟩; rw [hw1]; clear hw1 w1)
                    go_ret
                    exact ⟨ret_bool (by symm; rw [Bool.eq_false_iff]; intro hh; have := (goodM_iff m).1 hh; exact absurd this.2.1 (by simpa using h9)), by go_grown⟩
                · go_enter Try.func24, Try.ntmps24
                  go_wp2_with (go_at_call 34; refine (refId_any _ _).mono ?_; rintro e w1 ⟨rfl, hw1⟩; rw [hw1]; clear hw1 w1)
                  go_ret
                  exact ⟨ret_bool (by symm; rw [Bool.eq_false_iff]; intro hh; have := (goodM_iff m).1 hh; omega), by go_grown⟩
              · go_enter Try.func24, Try.ntmps24
                go_wp2_with (go_at_call 34; refine (refId_any _ _).mono ?_; rintro e w1 ⟨rfl, hw1⟩; rw [hw1]; clear hw1 w1)
                go_ret
                exact ⟨ret_bool (by symm; rw [Bool.eq_false_iff]; intro hh; have := (goodM_iff m).1 hh; omega), by go_grown⟩
            · go_enter Try.func24, Try.ntmps24
              go_wp2_with (go_at_call 34; refine (refId_any _ _).mono ?_; rintro e w1 ⟨rfl, hw1⟩; rw [hw1]; clear hw1 w1)
              go_ret
              exact ⟨ret_bool (by symm; rw [Bool.eq_false_iff]; intro hh; have := (goodM_iff m).1 hh; omega), by go_grown⟩
          · go_enter Try.func24, Try.ntmps24
            go_wp2_with (go_at_call 34; refine (refId_any _ _).mono ?_; rintro e w1 ⟨rfl, hw1⟩; rw [hw1]; clear hw1 w1)
            go_ret
            exact ⟨ret_bool (by symm; rw [Bool.eq_false_iff]; intro hh; have := (goodM_iff m).1 hh; omega), by go_grown⟩
        · go_enter Try.func24, Try.ntmps24
          go_wp2_with (go_at_call 34; refine (refId_any _ _).mono ?_; rintro e w1 ⟨rfl, hw1⟩; rw [hw1]; clear hw1 w1)
          go_ret
          exact ⟨ret_bool (by symm; rw [Bool.eq_false_iff]; intro hh; have := (goodM_iff m).1 hh; omega), by go_grown⟩
      · go_enter Try.func24, Try.ntmps24
        go_wp2_with (go_at_call 34; refine (refId_any _ _).mono ?_; rintro e w1 ⟨rfl, hw1⟩; rw [hw1]; clear hw1 w1)
        go_ret
        exact ⟨ret_bool (by symm; rw [Bool.eq_false_iff]; intro hh; have := (goodM_iff m).1 hh; omega), by go_grown⟩
    · go_enter Try.func24, Try.ntmps24
      go_wp2_with (go_at_call 34; refine (refId_any _ _).mono ?_; rintro e w1 ⟨rfl, hw1⟩; rw [hw1]; clear hw1 w1)
      go_ret
      exact ⟨ret_bool (by symm; rw [Bool.eq_false_iff]; intro hh; have := (goodM_iff m).1 hh; omega), by go_grown⟩
  · go_enter Try.func24, Try.ntmps24
    go_wp2_with (go_at_call 34; refine (refId_any _ _).mono ?_; rintro e w1 ⟨rfl, hw1⟩; rw [hw1]; clear hw1 w1)
    go_ret
    exact ⟨ret_bool (by symm; rw [Bool.eq_false_iff]; intro hh; have := (goodM_iff m).1 hh; omega), by go_grown⟩
set_option maxHeartbeats 2000000 in
theorem Meet_any (x y : Mp) (w : World) (hx : goodM x = true) (hy : goodM y = true) : Calls Try.prog 25 #[.agg #[.int .i64 x.at_, .int .i64 x.pg, .int .i64 x.inn, .int .i64 x.id, .int .i64 x.fr, .bool x.wr, .bool x.rn], .agg #[.int .i64 y.at_, .int .i64 y.pg, .int .i64 y.inn, .int .i64 y.id, .int .i64 y.fr, .bool y.wr, .bool y.rn]] w fun e w' => e = .returned (.bool (meet y x)) ∧ Below w.heap.size w w' := by
  have h1 := ((goodM_iff _).1 hx).1
  have h2 := ((goodM_iff _).1 hy).1
  by_cases k1 : x.at_ < y.at_ + y.pg
  · by_cases k2 : y.at_ < x.at_ + x.pg
    · go_enter Try.func25, Try.ntmps25
      go_wp2
      go_ret
      exact ⟨ret_bool (by simp [meet, k1, k2]), by go_grown⟩
    · go_enter Try.func25, Try.ntmps25
      go_wp2
      go_ret
      exact ⟨ret_bool (by simp [meet, k1, k2]), by go_grown⟩
  · go_enter Try.func25, Try.ntmps25
    go_wp2
    go_ret
    exact ⟨ret_bool (by simp [meet]; omega), by go_grown⟩
end Go.Proofs.Ytddllchobojmlaa
