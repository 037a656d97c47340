/- When two mappings, and two pieces, are the same. -/
import Derived.Test.YtddllchobojmlaaSpan
import Derived.Laws.StructEq
namespace Go.Proofs.Ytddllchobojmlaa
open Go.RowKit Go.Sort
theorem eq_pc (x y : Pc) (W : World) : (Op.equalIn 10000 41 (.agg #[.int .i64 x.inn, .int .i64 x.id, .int .i64 x.off, .int .i64 x.n]) (.agg #[.int .i64 y.inn, .int .i64 y.id, .int .i64 y.off, .int .i64 y.n])).run Try.prog W = .ok (decide (x = y)) W := by
  rw [run_equalIn_struct W 9999 41 _ _ (by unfold Program.fieldsOf; rw [Try.underlying41]) (by kernel_rfl)]
  unfold Program.fieldsOf
  rw [Try.underlying41]
  obtain ⟨a0, a1, a2, a3⟩ := x
  obtain ⟨b0, b1, b2, b3⟩ := y
  by_cases h0 : a0 = b0 <;> by_cases h1 : a1 = b1 <;> by_cases h2 : a2 = b2 <;> by_cases h3 : a3 = b3 <;>
  simp [go_sem, Op.eqFields, h0, h1, h2, h3]
theorem eq_mp (x y : Mp) (W : World) : (Op.equalIn 10000 24 (.agg #[.int .i64 x.at_, .int .i64 x.pg, .int .i64 x.inn, .int .i64 x.id, .int .i64 x.fr, .bool x.wr, .bool x.rn]) (.agg #[.int .i64 y.at_, .int .i64 y.pg, .int .i64 y.inn, .int .i64 y.id, .int .i64 y.fr, .bool y.wr, .bool y.rn])).run Try.prog W = .ok (decide (x = y)) W := by
  rw [run_equalIn_struct W 9999 24 _ _ (by unfold Program.fieldsOf; rw [Try.underlying24]) (by kernel_rfl)]
  unfold Program.fieldsOf
  rw [Try.underlying24]
  obtain ⟨a0, a1, a2, a3, a4, a5, a6⟩ := x
  obtain ⟨b0, b1, b2, b3, b4, b5, b6⟩ := y
  by_cases h0 : a0 = b0
  · by_cases h1 : a1 = b1
    · by_cases h2 : a2 = b2
      · by_cases h3 : a3 = b3
        · by_cases h4 : a4 = b4
          · by_cases h5 : a5 = b5
            · by_cases h6 : a6 = b6
              · simp [go_sem, Op.eqFields, h0, h1, h2, h3, h4, h5, h6]
              · simp [go_sem, Op.eqFields, h0, h1, h2, h3, h4, h5, h6]
            · simp [go_sem, Op.eqFields, h0, h1, h2, h3, h4, h5]
          · simp [go_sem, Op.eqFields, h0, h1, h2, h3, h4]
        · simp [go_sem, Op.eqFields, h0, h1, h2, h3]
      · simp [go_sem, Op.eqFields, h0, h1, h2]
    · simp [go_sem, Op.eqFields, h0, h1]
  · simp [go_sem, Op.eqFields, h0]
end Go.Proofs.Ytddllchobojmlaa
