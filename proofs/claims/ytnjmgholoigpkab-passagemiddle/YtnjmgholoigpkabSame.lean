/- What right of the statements' package and Same of the reference answer, for every label. -/
import Derived.Test.YtnjmgholoigpkabOrder
namespace Go.Proofs.Ytnjmgholoigpkab
open Go.RowKit Go.Sort

structure Lab where
  d : Int
  p : Option Addr
  cap : Nat
  xs : List (Int × Int)
def Lab.val (l : Lab) : Value := .agg #[.int .i64 l.d, .slice l.p l.xs.length l.cap]
def LabsAt (W : World) (b : Nat) (ls : List Lab) : Prop := ∀ j, (h : j < ls.length) → W.cell? ⟨b, j * 2, none⟩ = some (.int .i64 ls[j].d) ∧ W.cell? ⟨b, j * 2 + 1, none⟩ = some (.slice ls[j].p ls[j].xs.length ls[j].cap) ∧ CatsAt W ls[j].p ls[j].xs ∧ ls[j].xs.length ≤ maxLen
def allRight (ls : List Lab) : Bool := ls.all fun l => rightS l.d l.xs
theorem allRight_step (ls : List Lab) (k : Nat) (h : k < ls.length) : allRight (ls.drop k) = (rightS ls[k].d ls[k].xs && allRight (ls.drop (k + 1))) := by
  unfold allRight; rw [List.drop_eq_getElem_cons h, List.all_cons]

set_option maxRecDepth 100000 in
set_option maxHeartbeats 1000000 in
theorem right_any (b : Nat) (ls : List Lab) (w : World) (hb0 : b < w.heap.size) (hn : ls.length ≤ 16) (hL : LabsAt w b ls) :
    Calls Try.prog 5 #[.slice (some ⟨b, 0, none⟩) ls.length ls.length] w fun e w' => e = .returned (.bool (allRight ls)) ∧ Below w.heap.size w w' := by
  go_enter Try.func5, Try.ntmps5
  go_wp2
  go_loopw [7] (fun i wr => ∃ k : Nat, k ≤ ls.length ∧ i = .int .i64 k ∧ allRight ls = allRight (ls.drop k) ∧ Below w.heap.size w wr) (fun i _ => ls.length - (intOf i).toNat)
  case atStart => exact ⟨0, Nat.zero_le _, rfl, by simp, Below.refl _ _⟩
  case round =>
    obtain ⟨k, hk, rfl, hr, hb⟩ := hrel
    have HR : Hid (allRight ls = allRight (ls.drop k)) := hr; clear hr
    by_cases hlt : k < ls.length
    · obtain ⟨c0, c1, hc, hm⟩ := hL k hlt
      have e0 := (hb.cell (p := ⟨b, k * 2, none⟩) hb0).trans c0
      have e1 := (hb.cell (p := ⟨b, k * 2 + 1, none⟩) hb0).trans c1
      have HS : Hid (allRight (ls.drop k) = (rightS ls[k].d ls[k].xs && allRight (ls.drop (k + 1)))) := allRight_step ls k hlt
      have hbA : Below w.heap.size w (wr.alloc (.cells #[.int .i64 ls[k].d, .slice ls[k].p ls[k].xs.length ls[k].cap] 24)) := hb.alloc hb.size _
      have hR := refRight_any ls[k].d ls[k].p ls[k].cap ls[k].xs _ hm (hc.below hbA)
      clear hL hc c0 c1
      by_cases h3 : rightS ls[k].d ls[k].xs = true
      · go_wp2_with (go_at_call 13; refine hR.mono ?_; rintro e w2 ⟨rfl, hb2⟩)
        go_roundw
        case rel => exact ⟨k + 1, by omega, by go_num, by rw [HR.out, HS.out, h3]; rfl, hbA.trans (hb2.mono hbA.size)⟩
        case measure => simp [intOf]; omega
      · have h3' : rightS ls[k].d ls[k].xs = false := by simpa using h3
        go_wp2_with (go_at_call 13; refine hR.mono ?_; rintro e w2 ⟨rfl, hb2⟩)
        go_ret
        exact ⟨ret_bool (by rw [HR.out, HS.out, h3']; rfl), hbA.trans (hb2.mono hbA.size)⟩
    · go_wp2
      go_ret
      exact ⟨ret_bool (by rw [HR.out, List.drop_of_length_le (by omega)]; rfl), hb⟩

theorem guardS : Try.prog.eqGuardType Try.prog.depth 37 = false := by kernel_rfl
theorem same_step (xs ys : List (Int × Int)) (k : Nat) (h1 : k < xs.length) (h2 : k < ys.length) : decide (xs.drop k = ys.drop k) = (decide (xs[k] = ys[k]) && decide (xs.drop (k + 1) = ys.drop (k + 1))) := by
  rw [List.drop_eq_getElem_cons h1, List.drop_eq_getElem_cons h2, Bool.eq_iff_iff, Bool.and_eq_true]
  simp only [decide_eq_true_eq, List.cons.injEq]

end Go.Proofs.Ytnjmgholoigpkab
