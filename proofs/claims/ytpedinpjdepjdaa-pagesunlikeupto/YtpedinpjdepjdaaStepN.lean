/- One step on both: a call of no kind. -/
import Derived.Test.YtpedinpjdepjdaaStepW
namespace Go.Proofs.Ytpedinpjdepjdaa
open Go.RowKit Go.Lib
set_option maxRecDepth 100000 in
set_option maxHeartbeats 2000000 in
theorem step_none (b0 Bb : Nat) (v : Value) (d : List UInt8) (k a n x : Int) (pv : Value) (w : World) (h : Both w b0 Bb v d) (hb : b0 ≤ w.heap.size) (h1 : k ≠ 1) (h2 : k ≠ 2) (h3 : k ≠ 3) (h4 : k ≠ 4) (h5 : k ≠ 5) :
    Calls Try.prog 9 #[.pointer (some ⟨Bb, 0, none⟩), v, .agg #[.int .i64 k, .int .i64 a, .int .i64 n, pv, .int .u64 x]] w fun e w' => ∃ v' d', e = .returned (.tuple #[v', .bool true]) ∧ Both w' b0 Bb v' d' ∧ Below b0 w w' ∧ Fz w w' := by
  obtain ⟨⟨ls, hA⟩, hr, hl⟩ := h
  have HA := Lib.hid hA
  have HRow := Lib.hid hr
  clear hA hr
  have hbA : Below w.heap.size w (w.alloc (.cells #[.int .i64 k, .int .i64 a, .int .i64 n, pv, .int .u64 x] 35)) := (Below.refl _ _).alloc (Nat.le_refl _) _
  go_enter Try.func9, Try.ntmps9
  go_wp2
  go_ret2
  exact ⟨_, d, rfl, ⟨⟨ls, HA.out.below hbA⟩, row_below HRow.out hbA, hl⟩, hbA.mono hb, (Fr.below hbA).fz⟩
end Go.Proofs.Ytpedinpjdepjdaa
