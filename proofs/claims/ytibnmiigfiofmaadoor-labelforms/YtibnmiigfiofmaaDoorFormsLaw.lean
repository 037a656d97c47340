/- LabelForms answers true, for every label and category, whatever the memory. -/
import Derived.Test.YtibnmiigfiofmaaDoorLives
namespace Go.Proofs.YtibnmiigfiofmaaDoor
open Go.RowKit Go.Sort

set_option maxRecDepth 100000 in
set_option maxHeartbeats 2000000 in
theorem LabelForms_any (d c : Int) (p : Option Addr) (cap : Nat) (xs : List (Int × Int)) (w : World) (hm : xs.length ≤ maxLen) (hc : CatsAt w p xs) :
    Calls Tryd.prog 3 #[.agg #[.int .i64 d, .slice p xs.length cap], .int .i64 c] w fun e w' => e = .returned (.bool true) ∧ Below w.heap.size w w' := by
  have hW : Below w.heap.size w (w.alloc (.cells #[.int .i64 d, .slice p xs.length cap] 24)) := by go_grown
  have hL := lives_any (w.alloc (.cells #[.int .i64 d, .slice p xs.length cap] 24))
  go_enter Tryd.func3, Tryd.ntmps3
  go_wp2_with (go_at_call 9; refine hL.mono ?_; rintro e w1 ⟨rfl, hb1⟩; refine Hid.out ?_)
  refine Lib.hid ?_
  clear hL
  have hB1 : Below w.heap.size w w1 := hW.trans (hb1.mono (by simp))
  have hz1 : w.heap.size < w1.heap.size := by have := hb1.size; simp at this; omega
  have s0 : ∀ n os, (gx w1 n os).cell? ⟨w.heap.size, 0, none⟩ = some (.int .i64 d) := fun n os => cell_gx (a := ⟨w.heap.size, 0, none⟩) hz1 ((hb1.cell (p := ⟨w.heap.size, 0, none⟩) (by simp)).trans (by simp [go_sem])) n os
  have s1 : ∀ n os, (gx w1 n os).cell? ⟨w.heap.size, 1, none⟩ = some (.slice p xs.length cap) := fun n os => cell_gx (a := ⟨w.heap.size, 1, none⟩) hz1 ((hb1.cell (p := ⟨w.heap.size, 1, none⟩) (by simp)).trans (by simp [go_sem])) n os
  have HC : Hid (∀ n os, CatsAt (gx w1 n os) p xs) := fun n os => (hc.below hB1).below (gx_below w1 n os)
  clear hc hb1
  go_wp2
  refine wp_region_quiet_gx (by kernel_rfl) (by kernel_rfl) ?_
  repeat (quiet_step (first
    | (go_at_call 10; exact calls_gx (Right_any d p cap xs _ hm (HC.out _ _)))
    | (go_at_call 11; exact calls_gx (refRight_any d p cap xs _ hm (HC.out _ _)))
    | (go_at_call 12; exact calls_gx (Plain_any d p cap xs _ hm (HC.out _ _)))
    | (go_at_call 13; exact calls_gx (refPlain_any d p cap xs _ hm (HC.out _ _)))
    | (go_at_call 14; exact calls_gx (Free_any d p cap xs _ hm (HC.out _ _)))
    | (go_at_call 15; exact calls_gx (refFree_any d p cap xs _ hm (HC.out _ _)))
    | (go_at_call 16; exact calls_gx (At_any d c p cap xs _ hm (HC.out _ _)))
    | (go_at_call 17; exact calls_gx (refAt_any d c p cap xs _ hm (HC.out _ _)))))
  refine wpQuiet_nil ?_
  intro _ hw'
  obtain ⟨⟨nq, osq⟩, hw''⟩ := hw'
  subst hw''
  go_wp2
  go_ret
  exact ⟨rfl, hB1.trans ((gx_below w1 nq osq).mono hB1.size)⟩
end Go.Proofs.YtibnmiigfiofmaaDoor
