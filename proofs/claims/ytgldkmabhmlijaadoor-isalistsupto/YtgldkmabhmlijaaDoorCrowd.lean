/- What isCrowded of package isa answers, for every text. -/
import Derived.Test.YtgldkmabhmlijaaDoorLines
import Derived.Test.YtgldkmabhmlijaaDoorStep
import Derived.Outline
namespace Go.Proofs.YtgldkmabhmlijaaDoor
open Go.RowKit Go.Sort Go.Shelf
attribute [local go_sem] Oper.semAt_some
/-- A line that counts: neither empty nor a place. -/
def cnts (x : Int × ByteArray) : Bool := !x.2.toList.isEmpty && !Lib.hasSuffix x.2.data.toList [58]
def cnt (pre : List (Int × ByteArray)) : Nat := (pre.filter cnts).length
theorem cnt_snoc (pre : List (Int × ByteArray)) (x : Int × ByteArray) : cnt (pre ++ [x]) = cnt pre + (if cnts x = true then 1 else 0) := by
  unfold cnt; rw [List.filter_append, List.length_append]; congr 1; by_cases h : cnts x = true <;> simp [h]
theorem cnt_le (pre : List (Int × ByteArray)) : cnt pre ≤ pre.length := List.length_filter_le _ _
theorem boxed_own {β : Type} (B : Nat) (t : TypeId) (f : β → Value) : Own (fun s W => Boxed W B t (f s)) := fun s X Y row hv hg hrow => hv.kept hg (fun e' => by
  obtain ⟨o, ho, hc⟩ := hrow B e'.symm
  rw [show X.heap[B]? = _ from hv] at ho; cases ho; cases hc)
/-- The same, of lines that bear their bound. -/
def cntL (pre : List Ln) : Nat := cnt (pre.map (·.1))
theorem cntL_snoc (pre : List Ln) (x : Ln) : cntL (pre ++ [x]) = cntL pre + (if cnts x.1 = true then 1 else 0) := by
  unfold cntL; rw [List.map_append, List.map_cons, List.map_nil, cnt_snoc]
theorem cntL_le (pre : List Ln) : cntL pre ≤ pre.length := by unfold cntL; have := cnt_le (pre.map (·.1)); simpa using this
set_option maxRecDepth 100000 in
set_option maxHeartbeats 1000000 in
theorem isCrowded_any (s : ByteArray) (w : World) (hE : Env w) (hs : s.size < 1000000) :
    Calls Tryd.prog 16 #[.string s] w fun e w' => e = .returned (.bool (decide (1024 < cnt (allLn s)))) ∧ Below w.heap.size w w' := by
  refine (callsIn_wide (n := 3)).1 ?_
  have h1 : Fence.wide.fn 16 := trivial
  have h2 : Fence.wide.fn 17 := trivial
  have h3 : Fence.wide.fn 31 := trivial
  have h47 : Fence.wide.fn 30 := trivial
  have hro : Fence.wide.round = none := rfl
  refine callsIn_of_wp_marks Tryd.func16 rfl h1 ?_ hro
  simp only [Tryd.ntmps16, List.size_toArray, List.length_cons, List.length_nil, Nat.reduceAdd, Nat.reduceSub, Array.replicate_succ, Array.replicate_zero, List.push_toArray, List.append_toArray, List.nil_append, List.cons_append]
  gi_wp2_with (gi_at_call 17; refine (callsIn_wide.2 (lines_any _ _)).mono ?_; rintro e w' ⟨rfl, rfl⟩)
  obtain ⟨W0, hW0⟩ : ∃ W0, ((w.alloc (.cells #[.int .i64 0] 3)).alloc (.cells #[.string s] 9)) = W0 := ⟨_, rfl⟩
  have hB0 : Below w.heap.size w W0 := by rw [← hW0]; go_grown
  have hsz : W0.heap.size = w.heap.size + 2 := by rw [← hW0]; simp
  have bx : Boxed W0 w.heap.size 3 (.int .i64 (cntL [] : Nat)) := by rw [← hW0]; exact (Boxed.new w 3 (.int .i64 0)).alloc _
  have t0 : W0.cell? ⟨w.heap.size + 1, 0, none⟩ = some (.string s) := by rw [← hW0]; simp [go_sem]
  have hE0 := hE.below hB0
  rw [hW0]
  clear hW0
  refine wpIn_rangeFunc_ownH hro (by decide) (gf := 31) (lb := #[.pointer (some ⟨w.heap.size + 1, 0, none⟩)]) rfl h3 (enters_of Tryd.func31 (by kernel_rfl) rfl)
    (lines_stops 2 (by decide) (w.heap.size + 1) w.heap.size s W0 (by omega) hE0 hE.big (by omega) t0 (by omega)) (fun h k => h.trans k) (belowK_b (by omega)) (Below.refl _ _) (fun _ => rfl)
    (fun pre W => Boxed W w.heap.size 3 (.int .i64 (cntL pre : Nat)) ∧ Below w.heap.size w W ∧ w.heap.size + 2 ≤ W.heap.size)
    (fun c pre W => False)
    (OwnFrom.and (Own.from (boxed_own w.heap.size 3 _) _) (OwnFrom.and (ownFrom_below (Nat.le_refl _) (by omega)) (fun s A B row hs hg _ => Nat.le_trans hs hg.size)))
    (fun c => fun s A B row hs hg hr => hs)
    ⟨bx, hB0, by omega⟩
    (fun x a' W => a' = { tmps := #[.string s, undef, .bool false, .pointer (some ⟨w.heap.size, 0, none⟩), undef, .string x.1.2, .string s, .func (.func 31) #[] #[.pointer (some ⟨w.heap.size + 1, 0, none⟩)], .int .i64 x.1.1, .string x.1.2, undef, undef, undef, undef, undef, undef, undef, undef, undef, undef, undef], defers := [] })
    (fun x a' _ X Y row hs hg hr => hs)
    ?assign ?body ?done ?stop
  case assign =>
    rintro l pre x W K ⟨hv, hB, hz⟩ hK
    simp only [encL]
    gi_wp2
    exact hK _ _ ((KeepsOthers.refl _).from _) (Below.refl _ _) ⟨hv, hB, hz⟩ rfl
  case body =>
    rintro l pre x a' W hl hr ⟨hv, hB, hz⟩ rfl hlt
    have hsn := cntL_snoc pre x
    have hcl := cntL_le pre
    have hxs : x.1.2.size ≤ 9223372036854775807 := by have := x.property; omega
    have HHS := Lib.hid (fun W' => Tryd.strings_HasSuffix x.1.2 ⟨#[58]⟩ W')
    by_cases he : x.1.2.toList.isEmpty = true
    · have hc : cnts x.1 = false := by unfold cnts; rw [he]; rfl
      rw [if_neg (by rw [hc]; decide)] at hsn
      have HI : Hid (cntL (pre ++ [x]) = cntL pre) := hsn
      clear hsn hc
      gi_wp2
      exact ⟨(KeepsOthers.refl _).from _, Below.refl _ _, by rw [HI.out]; exact hv, hB, hz⟩
    · have he' : x.1.2.toList.isEmpty = false := by simpa using he
      by_cases hh : Lib.hasSuffix x.1.2.data.toList [58] = true
      · have hc : cnts x.1 = false := by unfold cnts; rw [hh]; simp
        rw [if_neg (by rw [hc]; decide)] at hsn
        have HI : Hid (cntL (pre ++ [x]) = cntL pre) := hsn
        have HH' : Hid (∀ W', x.1.2.size ≤ 9223372036854775807 → Calls Tryd.prog 30 #[.string x.1.2, .string ⟨#[58]⟩] W' fun e w' => e = .returned (.bool true) ∧ w' = W') := fun W' hx => by have := HHS.out W' hx; rw [show (⟨#[58]⟩ : ByteArray).data.toList = [58] from rfl, hh] at this; exact this
        clear hsn hc hh HHS
        gi_wp2_with (gi_at_call 30; refine (CallsIn.inRound l (callsIn_wide.2 (HH'.out _ hxs))).mono ?_; rintro e w' ⟨rfl, hw'⟩; rw [hw']; clear hw' w')
        exact ⟨(KeepsOthers.refl _).from _, Below.refl _ _, by rw [HI.out]; exact hv, hB, hz⟩
      · have hh' : Lib.hasSuffix x.1.2.data.toList [58] = false := by simpa using hh
        have hc : cnts x.1 = true := by unfold cnts; rw [he', hh']; rfl
        rw [if_pos hc] at hsn
        have HI : Hid (cntL (pre ++ [x]) = cntL pre + 1) := hsn
        have HH' : Hid (∀ W', x.1.2.size ≤ 9223372036854775807 → Calls Tryd.prog 30 #[.string x.1.2, .string ⟨#[58]⟩] W' fun e w' => e = .returned (.bool false) ∧ w' = W') := fun W' hx => by have := HHS.out W' hx; rw [show (⟨#[58]⟩ : ByteArray).data.toList = [58] from rfl, hh'] at this; exact this
        have rc := hv.cell
        have rfz := hv.frozen
        clear hsn hc hh hh' HHS
        gi_wp2_with (gi_at_call 30; refine (CallsIn.inRound l (callsIn_wide.2 (HH'.out _ hxs))).mono ?_; rintro e w' ⟨rfl, hw'⟩; rw [hw']; clear hw' w')
        refine ⟨(KeepsOthers.setCell _ _ _).from _, (Below.refl _ _).setCell (p := ⟨w.heap.size, 0, none⟩) (Nat.le_refl _) _, ?_, hB.setCell (p := ⟨w.heap.size, 0, none⟩) (Nat.le_refl _) _, by simpa using hz⟩
        rw [HI.out]; exact hv.set _
  case done =>
    rintro D zs W hD hzs ⟨hv, hB, hz⟩ hK
    have rc := hv.cell
    have rfz := hv.frozen
    have hq : cntL zs = cnt (allLn s) := by unfold cntL; rw [hzs]
    have HQ := Lib.hid hq
    clear hq hzs
    gi_wp2
    refine ⟨by simp, .inl ⟨_, _, rfl, run_takeDeferred hK, ?_⟩⟩
    refine ⟨.bool (decide (1024 < ((cntL zs : Nat) : Int))), ?_, ?_, hB.trans (belowK_b (w := w) (Nat.le_refl _) W D _ _ (by omega) hK rfl rfl)⟩
    · simp [results, Tryd.results16, go_sem]
    · rw [HQ.out, show decide (1024 < ((cnt (allLn s) : Nat) : Int)) = decide (1024 < cnt (allLn s)) from decide_eq_decide.2 (by omega)]
  case stop =>
    rintro D c ys W hD hK h hp
    exact h.elim
end Go.Proofs.YtgldkmabhmlijaaDoor
