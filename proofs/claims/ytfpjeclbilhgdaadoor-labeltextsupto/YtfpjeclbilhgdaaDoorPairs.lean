/- The iterator of package label: what pairs tells, for every two labels. -/
import Derived.Test.YtfpjeclbilhgdaaDoorTake
import Derived.RangeFuncNested
import Derived.RangeFuncBound
import Derived.RangeFuncCalls
import Derived.RangeFuncLeaves
import Derived.Shelf.Abstract
import Derived.Shelf.RegionOpen
import Derived.OwnWalkIn
import Derived.TacticsInMore
import Derived.LoopNIn
import Derived.LoopIn
namespace Go.Proofs.YtfpjeclbilhgdaaDoor
open Go.RowKit Go.Sort Go.Shelf
attribute [local go_sem] Oper.semAt_some

def encP (x : Int × Int × Int) : Value := .agg #[.int .i64 x.1, .int .i64 x.2.1, .int .i64 x.2.2]
def prs (da db : Int) : Nat → List (Int × Int) → List (Int × Int) → List (Int × Int × Int)
  | 0, _, _ => []
  | f + 1, xs, ys => if xs.length + ys.length = 0 then [] else (leastS xs ys, tkL da (leastS xs ys) xs, tkL db (leastS xs ys) ys) :: prs da db f (tkR (leastS xs ys) xs) (tkR (leastS xs ys) ys)
def allP (da db : Int) (xs ys : List (Int × Int)) : List (Int × Int × Int) := (0, da, db) :: prs da db (xs.length + ys.length) xs ys

theorem tkR_le (c : Int) (xs : List (Int × Int)) : (tkR c xs).length ≤ xs.length := by
  cases xs with
  | nil => simp [tkR]
  | cons x xs => simp only [tkR]; split <;> simp
theorem tkR_lt (xs ys : List (Int × Int)) (h : 0 < xs.length + ys.length) : (tkR (leastS xs ys) xs).length + (tkR (leastS xs ys) ys).length < xs.length + ys.length := by
  cases xs with
  | nil => cases ys with
    | nil => simp at h
    | cons y ys => simp [tkR, leastS]
  | cons x xs => cases ys with
    | nil => simp [tkR, leastS]
    | cons y ys =>
      simp only [leastS]
      rcases Int.le_total x.1 y.1 with hxy | hxy
      · have := tkR_le (min x.1 y.1) (y :: ys)
        have e : min x.1 y.1 = x.1 := by omega
        rw [e] at this ⊢
        simp only [tkR, beq_self_eq_true, if_true, List.length_cons] at this ⊢
        omega
      · have := tkR_le (min x.1 y.1) (x :: xs)
        have e : min x.1 y.1 = y.1 := by omega
        rw [e] at this ⊢
        simp only [tkR, beq_self_eq_true, if_true, List.length_cons] at this ⊢
        omega
theorem prs_length (da db : Int) (f : Nat) (xs ys : List (Int × Int)) : (prs da db f xs ys).length ≤ f := by
  induction f generalizing xs ys with
  | zero => simp [prs]
  | succ f ih => simp only [prs]; split <;> simp [ih]

theorem prs_cons (da db : Int) (f : Nat) (xs ys : List (Int × Int)) (h : 0 < xs.length + ys.length) (hf : xs.length + ys.length ≤ f) :
    prs da db f xs ys = (leastS xs ys, tkL da (leastS xs ys) xs, tkL db (leastS xs ys) ys) :: prs da db (f - 1) (tkR (leastS xs ys) xs) (tkR (leastS xs ys) ys) := by
  cases f with
  | zero => omega
  | succ f => simp only [prs]; rw [if_neg (by omega)]; rfl
theorem prs_next {da db : Int} {f : Nat} {xs ys xs' ys' : List (Int × Int)} {pre : List (Int × Int × Int)} (hA : allP da db xs ys = pre ++ prs da db f xs' ys' ∧ xs'.length + ys'.length ≤ f ∧ pre.length + f ≤ xs.length + ys.length + 1)
    (hne : 0 < xs'.length + ys'.length) (hlt : (tkR (leastS xs' ys') xs').length + (tkR (leastS xs' ys') ys').length < xs'.length + ys'.length) :
    allP da db xs ys = (pre ++ [(leastS xs' ys', tkL da (leastS xs' ys') xs', tkL db (leastS xs' ys') ys')]) ++ prs da db (f - 1) (tkR (leastS xs' ys') xs') (tkR (leastS xs' ys') ys') ∧ (tkR (leastS xs' ys') xs').length + (tkR (leastS xs' ys') ys').length ≤ f - 1 ∧ (pre ++ [(leastS xs' ys', tkL da (leastS xs' ys') xs', tkL db (leastS xs' ys') ys')]).length + (f - 1) ≤ xs.length + ys.length + 1 := by
  obtain ⟨h1, h2, h3⟩ := hA
  refine ⟨?_, by omega, by simp; omega⟩
  rw [h1, prs_cons da db f xs' ys' hne h2]; simp
theorem prs_stop {da db : Int} {f : Nat} {xs ys xs' ys' : List (Int × Int)} {pre : List (Int × Int × Int)} (hA : allP da db xs ys = pre ++ prs da db f xs' ys' ∧ xs'.length + ys'.length ≤ f ∧ pre.length + f ≤ xs.length + ys.length + 1)
    (hne : 0 < xs'.length + ys'.length) : (pre ++ [(leastS xs' ys', tkL da (leastS xs' ys') xs', tkL db (leastS xs' ys') ys')]) <+: allP da db xs ys := by
  obtain ⟨h1, h2, h3⟩ := hA
  rw [h1, prs_cons da db f xs' ys' hne h2]
  exact ⟨prs da db (f - 1) (tkR (leastS xs' ys') xs') (tkR (leastS xs' ys') ys'), by simp⟩

def KpP (n₀ Ba Bb : Nat) (W W' : World) : Prop := Below n₀ W W' ∧ W'.heap[Ba]? = W.heap[Ba]? ∧ W'.heap[Bb]? = W.heap[Bb]?
theorem cell_same {W W' : World} {B : Nat} (h : W'.heap[B]? = W.heap[B]?) (o : Nat) : W'.cell? ⟨B, o, none⟩ = W.cell? ⟨B, o, none⟩ := by simp only [World.cell?, h]
def lenOf : Value → Nat
  | .slice _ n _ => n
  | _ => 0
theorem abides_below {β : Type} {B : Nat} {J : β → World → Prop} (h : AbidesFrom B J) {s : β} {W W' : World} (hs : J s W) (hb : Below W.heap.size W W') : J s W' :=
  h s W W' none hs ⟨hb.os, hb.tape, hb.output, hb.size, fun k hk _ => hb.block k hk⟩ (fun r e => by cases e)

set_option maxRecDepth 100000 in
set_option maxHeartbeats 1000000 in
theorem pairs1_in (n : Nat) (hn : 1 ≤ n) (l Ba Bb n₀ B0 : Nat) (da db : Int) (p q : Option Addr) (cx cy : Nat) (xs ys : List (Int × Int)) (J Jx : List (Int × Int × Int) → World → Prop) (hJ : AbidesFrom B0 J)
    (hmx : xs.length ≤ maxLen) (hmy : ys.length ≤ maxLen) (hcx : xs.length ≤ cx) (hcy : ys.length ≤ cy)
    (hY : ∀ pre x W, J pre W → pre.length < xs.length + ys.length + 1 → YieldAt Fence.wide (n - 1) Tryd.prog l #[encP x] W fun e W' =>
      (e = .returned (.bool true) ∧ J (pre ++ [x]) W' ∧ KpP n₀ Ba Bb W W') ∨ (e = .returned (.bool false) ∧ Jx (pre ++ [x]) W'))
    (W : World) (hn₀ : n₀ ≤ W.heap.size) (hBa : Ba < W.heap.size) (hBb : Bb < W.heap.size)
    (a0 : W.cell? ⟨Ba, 0, none⟩ = some (.int .i64 da)) (a1 : W.cell? ⟨Ba, 1, none⟩ = some (.slice p xs.length cx)) (b0 : W.cell? ⟨Bb, 0, none⟩ = some (.int .i64 db)) (b1 : W.cell? ⟨Bb, 1, none⟩ = some (.slice q ys.length cy))
    (hx : CatsB n₀ W p xs) (hy : CatsB n₀ W q ys) (h0 : J [] W) :
    CallsIn Fence.wide n Tryd.prog 70 #[.func (.yield l) #[] #[], .pointer (some ⟨Ba, 0, none⟩), .pointer (some ⟨Bb, 0, none⟩)] W fun e W' => (∃ v, e = .returned v) ∧
      ((∃ zs, zs = allP da db xs ys ∧ J zs W') ∨ (∃ pre, pre <+: allP da db xs ys ∧ Jx pre W')) := by
  have h76 : Fence.wide.fn 70 := trivial
  have h77 : Fence.wide.fn 71 := trivial
  have h78 : Fence.wide.fn 72 := trivial
  have hro : Fence.wide.round = none := rfl
  unfold maxLen at hmx hmy
  obtain ⟨fn, tmps, assign, body, hy0, hR⟩ := hY [] (0, da, db) W h0 (by simp)
  dsimp only [encP] at hy0
  refine callsIn_of_wp Tryd.func70 rfl h76 ?_ hro
  simp only [Tryd.ntmps70, List.size_toArray, List.length_cons, List.length_nil, Nat.reduceAdd, Nat.reduceSub, Array.replicate_succ, Array.replicate_zero, List.push_toArray, List.append_toArray, List.nil_append, List.cons_append]
  gi_wp2
  refine hR.mono ?_
  rintro e W1 (⟨rfl, hJ1, hk1⟩ | ⟨rfl, hJx1⟩)
  · have a0' : W1.cell? ⟨Ba, 0, none⟩ = some (.int .i64 da) := (cell_same hk1.2.1 0).trans a0
    have a1' : W1.cell? ⟨Ba, 1, none⟩ = some (.slice p xs.length cx) := (cell_same hk1.2.1 1).trans a1
    have b0' : W1.cell? ⟨Bb, 0, none⟩ = some (.int .i64 db) := (cell_same hk1.2.2 0).trans b0
    have b1' : W1.cell? ⟨Bb, 1, none⟩ = some (.slice q ys.length cy) := (cell_same hk1.2.2 1).trans b1
    have hsz1 : W.heap.size ≤ W1.heap.size := hk1.1.size
    have hx1 := hx.keep hk1.1
    have hy1 := hy.keep hk1.1
    clear hx hy a0 a1 b0 b1 hR h0
    gi_wp2
    gi_region
    all_goals gi_wp2
    all_goals
      gi_loopw [4, 5] (fun x y wr => ∃ (pre : List (Int × Int × Int)) (p' q' : Option Addr) (cx' cy' : Nat) (xs' ys' : List (Int × Int)) (f : Nat), x = .slice p' xs'.length cx' ∧ y = .slice q' ys'.length cy' ∧ (allP da db xs ys = pre ++ prs da db f xs' ys' ∧ xs'.length + ys'.length ≤ f ∧ pre.length + f ≤ xs.length + ys.length + 1) ∧ (xs'.length ≤ xs.length ∧ ys'.length ≤ ys.length ∧ xs'.length ≤ cx' ∧ ys'.length ≤ cy') ∧ (CatsB n₀ wr p' xs' ∧ CatsB n₀ wr q' ys') ∧ J pre wr ∧ W.heap.size ≤ wr.heap.size ∧ wr.cell? ⟨Ba, 0, none⟩ = some (.int .i64 da) ∧ wr.cell? ⟨Bb, 0, none⟩ = some (.int .i64 db))
        (fun x y _ => lenOf x + lenOf y)
      case atStart =>
        exact ⟨[(0, da, db)], p, q, cx, cy, xs, ys, xs.length + ys.length, rfl, rfl, ⟨rfl, Nat.le_refl _, by simp; omega⟩, ⟨Nat.le_refl _, Nat.le_refl _, hcx, hcy⟩, ⟨hx1.keep (bdn (Below.refl _ _) 1), hy1.keep (bdn (Below.refl _ _) 1)⟩, abides_below hJ hJ1 (bdn (Below.refl _ _) 1), hsz1, a0', b0'⟩
      case round =>
        obtain ⟨pre, p', q', cx', cy', xs', ys', f, rfl, rfl, hA, ⟨hl1, hl2, hc1, hc2⟩, ⟨hX, hYs⟩, hJs, hsz, ca, cb⟩ := hrel
        have HA : Hid (allP da db xs ys = pre ++ prs da db f xs' ys' ∧ xs'.length + ys'.length ≤ f ∧ pre.length + f ≤ xs.length + ys.length + 1) := hA
        clear hA
        have HJ : Hid (J pre wr) := hJs; clear hJs
        by_cases hne : 0 < xs'.length + ys'.length
        · have hlt := tkR_lt xs' ys' hne
          by_cases h1 : 0 < xs'.length
          all_goals
            have hi2 : ¬ 0 < xs'.length → (0 : Int) < (ys'.length : Int) := by omega
            have hmx' : xs'.length ≤ maxLen := by unfold maxLen; omega
            have hmy' : ys'.length ≤ maxLen := by unfold maxLen; omega
            gi_wp2_with (gi_at_call 71; refine (callsIn_wide.2 (least_any p' q' cx' cy' xs' ys' _ hmx' hmy' (hX.here (by omega)) (hYs.here (by omega)) hne)).mono ?_; rintro e w1 ⟨rfl, m1, hm1⟩; have hb1 : Below wr.heap.size wr w1 := (by rw [hm1]; exact bdn (Below.refl _ _) m1); clear hm1; have hz1 : wr.heap.size ≤ w1.heap.size := hb1.size; have hBa1 : Ba < w1.heap.size := (by omega); have hBb1 : Bb < w1.heap.size := (by omega); have ca1 : w1.cell? ⟨Ba, 0, none⟩ = some (.int .i64 da) := (hb1.cell (p := ⟨Ba, 0, none⟩) (by simp; omega)).trans ca; have cb1 : w1.cell? ⟨Bb, 0, none⟩ = some (.int .i64 db) := (hb1.cell (p := ⟨Bb, 0, none⟩) (by simp; omega)).trans cb)
            have hX1 : CatsB n₀ (w1.alloc (.cells #[.int .i64 (leastS xs' ys'), .int .i64 0, .int .i64 0] 70)) p' xs' := hX.keep (((hb1.mono (by omega)).alloc (by omega) _))
            have hY1 : CatsB n₀ (w1.alloc (.cells #[.int .i64 (leastS xs' ys'), .int .i64 0, .int .i64 0] 70)) q' ys' := hYs.keep (((hb1.mono (by omega)).alloc (by omega) _))
            refine (callsIn_wide.2 (take_any n₀ p' cx' xs' (leastS xs' ys') da _ hmx' hc1 (by simp; omega) hX1)).mono ?_
            rintro e w2 ⟨p2, cx2, rfl, hX2, hcx2, m2, hm2⟩
            have hb2 : Below (w1.heap.size + 1) (w1.alloc (.cells #[.int .i64 (leastS xs' ys'), .int .i64 0, .int .i64 0] 70)) w2 := by rw [hm2]; exact bdn (Below.refl _ _) m2
            clear hm2
            have hz2 : w1.heap.size + 1 ≤ w2.heap.size := by have := hb2.size; simpa using this
            have k0 : w2.cell? ⟨w1.heap.size, 0, none⟩ = some (.int .i64 (leastS xs' ys')) := (hb2.cell (p := ⟨w1.heap.size, 0, none⟩) (by simp)).trans (by simp [go_sem])
            have k1 : w2.cell? ⟨w1.heap.size, 1, none⟩ = some (.int .i64 0) := (hb2.cell (p := ⟨w1.heap.size, 1, none⟩) (by simp)).trans (by simp [go_sem])
            have k2 : w2.cell? ⟨w1.heap.size, 2, none⟩ = some (.int .i64 0) := (hb2.cell (p := ⟨w1.heap.size, 2, none⟩) (by simp)).trans (by simp [go_sem])
            have kf : ∀ o, w2.frozen? ⟨w1.heap.size, o, none⟩ = false := fun o => (hb2.frozen (p := ⟨w1.heap.size, o, none⟩) (by simp)).trans (by simp [go_sem])
            have ca2 : w2.cell? ⟨Ba, 0, none⟩ = some (.int .i64 da) := (hb2.cell (p := ⟨Ba, 0, none⟩) (by simp; omega)).trans (by simp [go_sem, hBa1, ca1])
            have cb2 : w2.cell? ⟨Bb, 0, none⟩ = some (.int .i64 db) := (hb2.cell (p := ⟨Bb, 0, none⟩) (by simp; omega)).trans (by simp [go_sem, hBb1, cb1])
            have hY2 : CatsB n₀ w2 q' ys' := hY1.keep (hb2.mono (by omega))
            have hX2' : CatsB n₀ w2 p2 (tkR (leastS xs' ys') xs') := hX2.keep (hb2.mono (by omega))
            clear hX2 hX1 hY1
            have hda : Ba ≠ w1.heap.size := by omega
            have hdb : Bb ≠ w1.heap.size := by omega
            gi_wp2_with fail
            have hB3 : Below w1.heap.size w2 (w2.setCell ⟨w1.heap.size, 1, none⟩ (.int .i64 (tkL da (leastS xs' ys') xs'))) := (Below.refl _ _).setCell (p := ⟨w1.heap.size, 1, none⟩) (Nat.le_refl _) _
            refine (callsIn_wide.2 (take_any n₀ q' cy' ys' (leastS xs' ys') db _ hmy' hc2 (by simp; omega) (hY2.keep (hB3.mono (by omega))))).mono ?_
            rintro e w4 ⟨q2, cy2, rfl, hY4, hcy2, m4, hm4⟩
            have hb4 : Below w2.heap.size (w2.setCell ⟨w1.heap.size, 1, none⟩ (.int .i64 (tkL da (leastS xs' ys') xs'))) w4 := by rw [hm4]; exact bdn (Below.refl _ _) m4
            clear hm4
            have hz4 : w2.heap.size ≤ w4.heap.size := by have := hb4.size; simpa using this
            have l0 : w4.cell? ⟨w1.heap.size, 0, none⟩ = some (.int .i64 (leastS xs' ys')) := (hb4.cell (p := ⟨w1.heap.size, 0, none⟩) (by simp; omega)).trans (by simp [go_sem, k0])
            have l1 : w4.cell? ⟨w1.heap.size, 1, none⟩ = some (.int .i64 (tkL da (leastS xs' ys') xs')) := (hb4.cell (p := ⟨w1.heap.size, 1, none⟩) (by simp; omega)).trans (World.cell?_setCell_same' _ _ _ (by rw [k1]; rfl))
            have l2 : w4.cell? ⟨w1.heap.size, 2, none⟩ = some (.int .i64 0) := (hb4.cell (p := ⟨w1.heap.size, 2, none⟩) (by simp; omega)).trans (by simp [go_sem, k2])
            have lf : ∀ o, w4.frozen? ⟨w1.heap.size, o, none⟩ = false := fun o => (hb4.frozen (p := ⟨w1.heap.size, o, none⟩) (by simp; omega)).trans (by rw [World.frozen?_setCell]; exact kf o)
            have hb24 : Below w1.heap.size w2 w4 := hB3.trans (hb4.mono (by omega))
            have hbf : Below w1.heap.size w1 (w4.setCell ⟨w1.heap.size, 2, none⟩ (.int .i64 (tkL db (leastS xs' ys') ys'))) := (((Below.refl _ w1).alloc (Nat.le_refl _) _).trans ((hb2.mono (by omega)).trans hb24)).setCell (p := ⟨w1.heap.size, 2, none⟩) (Nat.le_refl _) _
            have hbw : Below wr.heap.size wr (w4.setCell ⟨w1.heap.size, 2, none⟩ (.int .i64 (tkL db (leastS xs' ys') ys'))) := hb1.trans (hbf.mono hz1)
            have hb4f : Below w1.heap.size w4 (w4.setCell ⟨w1.heap.size, 2, none⟩ (.int .i64 (tkL db (leastS xs' ys') ys'))) := (Below.refl _ _).setCell (p := ⟨w1.heap.size, 2, none⟩) (Nat.le_refl _) _
            have hXf := (hX2'.keep (hb24.mono (by omega))).keep (hb4f.mono (by omega))
            have hYf := (hY4.keep (hb4.mono (by omega))).keep (hb4f.mono (by omega))
            have caf := (hbf.cell (p := ⟨Ba, 0, none⟩) (by simp; omega)).trans ca1
            have cbf := (hbf.cell (p := ⟨Bb, 0, none⟩) (by simp; omega)).trans cb1
            have hzf : W.heap.size ≤ (w4.setCell ⟨w1.heap.size, 2, none⟩ (.int .i64 (tkL db (leastS xs' ys') ys'))).heap.size := by have := hbw.size; omega
            obtain ⟨fn3, tmps3, assign3, body3, hy3, hR3⟩ := hY pre (leastS xs' ys', tkL da (leastS xs' ys') xs', tkL db (leastS xs' ys') ys') _ (abides_below hJ HJ.out hbw) (by have := HA.out.2; omega)
            dsimp only [encP] at hy3
            have HY : Hid (CatsB n₀ (w4.setCell ⟨w1.heap.size, 2, none⟩ (.int .i64 (tkL db (leastS xs' ys') ys'))) p2 (tkR (leastS xs' ys') xs') ∧ CatsB n₀ (w4.setCell ⟨w1.heap.size, 2, none⟩ (.int .i64 (tkL db (leastS xs' ys') ys'))) q2 (tkR (leastS xs' ys') ys')) := ⟨hXf, hYf⟩
            have HC : Hid ((w4.setCell ⟨w1.heap.size, 2, none⟩ (.int .i64 (tkL db (leastS xs' ys') ys'))).cell? ⟨Ba, 0, none⟩ = some (.int .i64 da) ∧ (w4.setCell ⟨w1.heap.size, 2, none⟩ (.int .i64 (tkL db (leastS xs' ys') ys'))).cell? ⟨Bb, 0, none⟩ = some (.int .i64 db)) := ⟨caf, cbf⟩
            have HB : Hid (Below wr.heap.size wr (w4.setCell ⟨w1.heap.size, 2, none⟩ (.int .i64 (tkL db (leastS xs' ys') ys')))) := hbw
            clear hXf hYf caf cbf hbw hbf hb4f hX2' hY4 hY2 hb24 hB3 k0 k1 k2 kf ca2 cb2 ca1 cb1 hb4 hb2 hb1
            gi_wp2
            refine hR3.mono ?_
            rintro e W3 (⟨rfl, hJ3, hk3⟩ | ⟨rfl, hJx3⟩)
            · gi_wp2
              go_roundw
              case rel =>
                exact ⟨pre ++ [(leastS xs' ys', tkL da (leastS xs' ys') xs', tkL db (leastS xs' ys') ys')], p2, q2, cx2, cy2, tkR (leastS xs' ys') xs', tkR (leastS xs' ys') ys', f - 1, rfl, rfl, prs_next HA.out hne hlt, ⟨by have := tkR_le (leastS xs' ys') xs'; omega, by have := tkR_le (leastS xs' ys') ys'; omega, hcx2, hcy2⟩, ⟨HY.out.1.keep hk3.1, HY.out.2.keep hk3.1⟩, hJ3, by have := hk3.1.size; omega, (cell_same hk3.2.1 0).trans HC.out.1, (cell_same hk3.2.2 0).trans HC.out.2⟩
              case measure => simp only [lenOf]; exact hlt
            · gi_wp2
              refine bodyPost_ret (results_none rfl _ _ _) rfl ?_
              exact ⟨⟨_, rfl⟩, .inr ⟨_, prs_stop HA.out hne, hJx3⟩⟩
        · obtain rfl : xs' = [] := List.eq_nil_of_length_eq_zero (by omega)
          obtain rfl : ys' = [] := List.eq_nil_of_length_eq_zero (by omega)
          gi_wp2
          go_end0
          exact ⟨⟨_, rfl⟩, .inl ⟨pre, by rw [HA.out.1]; cases f <;> simp [prs], HJ.out⟩⟩
  · gi_wp2
    refine bodyPost_ret (results_none rfl _ _ _) rfl ?_
    exact ⟨⟨_, rfl⟩, .inr ⟨[(0, da, db)], ⟨prs da db (xs.length + ys.length) xs ys, rfl⟩, hJx1⟩⟩
end Go.Proofs.YtfpjeclbilhgdaaDoor
