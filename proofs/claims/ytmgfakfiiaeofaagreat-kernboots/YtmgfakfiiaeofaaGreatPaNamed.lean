/- What Named of the reference answers: the categories of some labels, rising, each once. -/
import Derived.Test.YtmgfakfiiaeofaaGreatPaTake
import Derived.RangeFuncNested
import Derived.RangeFuncBound
import Derived.RangeFuncCalls
import Derived.RangeFuncLeaves
import Derived.Shelf.Abstract
import Derived.Shelf.RegionOpen
import Derived.OwnWalkIn
import Derived.TacticsInMore
import Derived.LoopNIn
import Derived.LoopIn
import Derived.Lib.Hide
import Derived.Lib.SmallJoins
/- The iterator of package label: what pairs tells, for every two labels. -/
namespace Go.Proofs.YtmgfakfiiaeofaaGreat.Pa
open Go.RowKit Go.Sort Go.Shelf
attribute [local go_sem] Oper.semAt_some

def encP (x : Int × Int × Int) : Value := .agg #[.int .i64 x.1, .int .i64 x.2.1, .int .i64 x.2.2]
def prs (da db : Int) : Nat -> List (Int × Int) -> List (Int × Int) -> List (Int × Int × Int)
 | 0, _, _ => []
 | f + 1, xs, ys => if xs.length + ys.length = 0 then [] else (leastS xs ys, tkL da (leastS xs ys) xs, tkL db (leastS xs ys) ys) :: prs da db f (tkR (leastS xs ys) xs) (tkR (leastS xs ys) ys)
def allP (da db : Int) (xs ys : List (Int × Int)) : List (Int × Int × Int) := (0, da, db) :: prs da db (xs.length + ys.length) xs ys

theorem tkR_le (c : Int) (xs : List (Int × Int)) : (tkR c xs).length <= xs.length := by
 cases xs with
 | nil => simp [tkR]
 | cons x xs => simp only [tkR]; split <;> simp
theorem tkR_lt (xs ys : List (Int × Int)) (h : 0 < xs.length + ys.length) : (tkR (leastS xs ys) xs).length + (tkR (leastS xs ys) ys).length < xs.length + ys.length := by
 cases xs with
 | nil => cases ys with
  | nil => simp at h
  | cons y ys => simp [tkR, leastS]
 | cons x xs => cases ys with
  | nil => simp [tkR, leastS]
  | cons y ys =>
   simp only [leastS]
   rcases Int.le_total x.1 y.1 with hxy | hxy
   · have := tkR_le (min x.1 y.1) (y :: ys)
     have e : min x.1 y.1 = x.1 := by omega
     rw [e] at this |-
     simp only [tkR, beq_self_eq_true, if_true, List.length_cons] at this |-
     omega
   · have := tkR_le (min x.1 y.1) (x :: xs)
     have e : min x.1 y.1 = y.1 := by omega
     rw [e] at this |-
     simp only [tkR, beq_self_eq_true, if_true, List.length_cons] at this |-
     omega
theorem prs_cons (da db : Int) (f : Nat) (xs ys : List (Int × Int)) (h : 0 < xs.length + ys.length) (hf : xs.length + ys.length <= f) :
 prs da db f xs ys = (leastS xs ys, tkL da (leastS xs ys) xs, tkL db (leastS xs ys) ys) :: prs da db (f - 1) (tkR (leastS xs ys) xs) (tkR (leastS xs ys) ys) := by
 cases f with
 | zero => omega
 | succ f => simp only [prs]; rw [if_neg (by omega)]; rfl
theorem prs_next {da db : Int} {f : Nat} {xs ys xs' ys' : List (Int × Int)} {pre : List (Int × Int × Int)} (hA : allP da db xs ys = pre ++ prs da db f xs' ys' /\ xs'.length + ys'.length <= f /\ pre.length + f <= xs.length + ys.length + 1)
 (hne : 0 < xs'.length + ys'.length) (hlt : (tkR (leastS xs' ys') xs').length + (tkR (leastS xs' ys') ys').length < xs'.length + ys'.length) :
 allP da db xs ys = (pre ++ [(leastS xs' ys', tkL da (leastS xs' ys') xs', tkL db (leastS xs' ys') ys')]) ++ prs da db (f - 1) (tkR (leastS xs' ys') xs') (tkR (leastS xs' ys') ys') /\ (tkR (leastS xs' ys') xs').length + (tkR (leastS xs' ys') ys').length <= f - 1 /\ (pre ++ [(leastS xs' ys', tkL da (leastS xs' ys') xs', tkL db (leastS xs' ys') ys')]).length + (f - 1) <= xs.length + ys.length + 1 := by
 obtain ⟨h1, h2, h3⟩ := hA
 refine ⟨?_, by omega, by simp; omega⟩
 rw [h1, prs_cons da db f xs' ys' hne h2]; simp
theorem prs_stop {da db : Int} {f : Nat} {xs ys xs' ys' : List (Int × Int)} {pre : List (Int × Int × Int)} (hA : allP da db xs ys = pre ++ prs da db f xs' ys' /\ xs'.length + ys'.length <= f /\ pre.length + f <= xs.length + ys.length + 1)
 (hne : 0 < xs'.length + ys'.length) : (pre ++ [(leastS xs' ys', tkL da (leastS xs' ys') xs', tkL db (leastS xs' ys') ys')]) <+: allP da db xs ys := by
 obtain ⟨h1, h2, h3⟩ := hA
 rw [h1, prs_cons da db f xs' ys' hne h2]
 exact ⟨prs da db (f - 1) (tkR (leastS xs' ys') xs') (tkR (leastS xs' ys') ys'), by simp⟩

def KpP (n₀ Ba Bb : Nat) (W W' : World) : Prop := Below n₀ W W' /\ W'.heap[Ba]? = W.heap[Ba]? /\ W'.heap[Bb]? = W.heap[Bb]?
theorem cell_same {W W' : World} {B : Nat} (h : W'.heap[B]? = W.heap[B]?) (o : Nat) : W'.cell? ⟨B, o, none⟩ = W.cell? ⟨B, o, none⟩ := by simp only [World.cell?, h]
def lenOf : Value -> Nat
 | .slice _ n _ => n
 | _ => 0
theorem abides_below {β : Type} {B : Nat} {J : β -> World -> Prop} (h : AbidesFrom B J) {s : β} {W W' : World} (hs : J s W) (hb : Below W.heap.size W W') : J s W' :=
 h s W W' none hs ⟨hb.os, hb.tape, hb.output, hb.size, fun k hk _ => hb.block k hk⟩ (fun r e => by cases e)

set_option maxRecDepth 100000 in
set_option maxHeartbeats 1000000 in
theorem pairs1_in (n : Nat) (hn : 1 <= n) (l Ba Bb n₀ B0 : Nat) (da db : Int) (p q : Option Addr) (cx cy : Nat) (xs ys : List (Int × Int)) (J Jx : List (Int × Int × Int) -> World -> Prop) (hJ : AbidesFrom B0 J)
 (hmx : xs.length <= maxLen) (hmy : ys.length <= maxLen) (hcx : xs.length <= cx) (hcy : ys.length <= cy)
 (hY : ∀ pre x W, J pre W -> pre.length < xs.length + ys.length + 1 -> YieldAt Fence.wide (n - 1) Tryz.prog l #[encP x] W fun e W' =>
  (e = .returned (.bool true) /\ J (pre ++ [x]) W' /\ KpP n₀ Ba Bb W W') ∨ (e = .returned (.bool false) /\ Jx (pre ++ [x]) W'))
 (W : World) (hn₀ : n₀ <= W.heap.size) (hBa : Ba < W.heap.size) (hBb : Bb < W.heap.size)
 (a0 : W.cell? ⟨Ba, 0, none⟩ = some (.int .i64 da)) (a1 : W.cell? ⟨Ba, 1, none⟩ = some (.slice p xs.length cx)) (b0 : W.cell? ⟨Bb, 0, none⟩ = some (.int .i64 db)) (b1 : W.cell? ⟨Bb, 1, none⟩ = some (.slice q ys.length cy))
 (hx : CatsB n₀ W p xs) (hy : CatsB n₀ W q ys) (h0 : J [] W) :
 CallsIn Fence.wide n Tryz.prog 282 #[.func (.yield l) #[] #[], .pointer (some ⟨Ba, 0, none⟩), .pointer (some ⟨Bb, 0, none⟩)] W fun e W' => (∃ v, e = .returned v) /\
  ((∃ zs, zs = allP da db xs ys /\ J zs W') ∨ (∃ pre, pre <+: allP da db xs ys /\ Jx pre W')) := by
 have h76 : Fence.wide.fn 282 := trivial
 have h77 : Fence.wide.fn 283 := trivial
 have h78 : Fence.wide.fn 284 := trivial
 have hro : Fence.wide.round = none := rfl
 unfold maxLen at hmx hmy
 obtain ⟨fn, tmps, assign, body, hy0, hR⟩ := hY [] (0, da, db) W h0 (by simp)
 dsimp only [encP] at hy0
 refine callsIn_of_wp Tryz.func282 rfl h76 ?_ hro
 simp only [Tryz.ntmps282, List.size_toArray, List.length_cons, List.length_nil, Nat.reduceAdd, Nat.reduceSub, Array.replicate_succ, Array.replicate_zero, List.push_toArray, List.append_toArray, List.nil_append, List.cons_append]
 gi_wp2
 refine hR.mono ?_
 rintro e W1 (⟨rfl, hJ1, hk1⟩ | ⟨rfl, hJx1⟩)
 · have a0' : W1.cell? ⟨Ba, 0, none⟩ = some (.int .i64 da) := (cell_same hk1.2.1 0).trans a0
   have a1' : W1.cell? ⟨Ba, 1, none⟩ = some (.slice p xs.length cx) := (cell_same hk1.2.1 1).trans a1
   have b0' : W1.cell? ⟨Bb, 0, none⟩ = some (.int .i64 db) := (cell_same hk1.2.2 0).trans b0
   have b1' : W1.cell? ⟨Bb, 1, none⟩ = some (.slice q ys.length cy) := (cell_same hk1.2.2 1).trans b1
   have hsz1 : W.heap.size <= W1.heap.size := hk1.1.size
   have hx1 := hx.keep hk1.1
   have hy1 := hy.keep hk1.1
   clear hx hy a0 a1 b0 b1 hR h0
   gi_wp2
   gi_region
   all_goals gi_wp2
   all_goals
    gi_loopw [4, 5] (fun x y wr => ∃ (pre : List (Int × Int × Int)) (p' q' : Option Addr) (cx' cy' : Nat) (xs' ys' : List (Int × Int)) (f : Nat), x = .slice p' xs'.length cx' /\ y = .slice q' ys'.length cy' /\ (allP da db xs ys = pre ++ prs da db f xs' ys' /\ xs'.length + ys'.length <= f /\ pre.length + f <= xs.length + ys.length + 1) /\ (xs'.length <= xs.length /\ ys'.length <= ys.length /\ xs'.length <= cx' /\ ys'.length <= cy') /\ (CatsB n₀ wr p' xs' /\ CatsB n₀ wr q' ys') /\ J pre wr /\ W.heap.size <= wr.heap.size /\ wr.cell? ⟨Ba, 0, none⟩ = some (.int .i64 da) /\ wr.cell? ⟨Bb, 0, none⟩ = some (.int .i64 db))
     (fun x y _ => lenOf x + lenOf y)
    case atStart =>
     exact ⟨[(0, da, db)], p, q, cx, cy, xs, ys, xs.length + ys.length, rfl, rfl, ⟨rfl, Nat.le_refl _, by simp; omega⟩, ⟨Nat.le_refl _, Nat.le_refl _, hcx, hcy⟩, ⟨hx1.keep (bdn (Below.refl _ _) 1), hy1.keep (bdn (Below.refl _ _) 1)⟩, abides_below hJ hJ1 (bdn (Below.refl _ _) 1), hsz1, a0', b0'⟩
    case round =>
     obtain ⟨pre, p', q', cx', cy', xs', ys', f, rfl, rfl, hA, ⟨hl1, hl2, hc1, hc2⟩, ⟨hX, hYs⟩, hJs, hsz, ca, cb⟩ := hrel
     have HA : Hid (allP da db xs ys = pre ++ prs da db f xs' ys' /\ xs'.length + ys'.length <= f /\ pre.length + f <= xs.length + ys.length + 1) := hA
     clear hA
     have HJ : Hid (J pre wr) := hJs; clear hJs
     by_cases hne : 0 < xs'.length + ys'.length
     · have hlt := tkR_lt xs' ys' hne
       by_cases h1 : 0 < xs'.length
       all_goals
        have hi2 : ¬ 0 < xs'.length -> (0 : Int) < (ys'.length : Int) := by omega
        have hmx' : xs'.length <= maxLen := by unfold maxLen; omega
        have hmy' : ys'.length <= maxLen := by unfold maxLen; omega
        gi_wp2_with (gi_at_call 283; refine (callsIn_wide.2 (least_any p' q' cx' cy' xs' ys' _ hmx' hmy' (hX.here (by omega)) (hYs.here (by omega)) hne)).mono ?_; rintro e w1 ⟨rfl, m1, hm1⟩; have hb1 : Below wr.heap.size wr w1 := (by rw [hm1]; exact bdn (Below.refl _ _) m1); clear hm1; have hz1 : wr.heap.size <= w1.heap.size := hb1.size; have hBa1 : Ba < w1.heap.size := (by omega); have hBb1 : Bb < w1.heap.size := (by omega); have ca1 : w1.cell? ⟨Ba, 0, none⟩ = some (.int .i64 da) := (hb1.cell (p := ⟨Ba, 0, none⟩) (by simp; omega)).trans ca; have cb1 : w1.cell? ⟨Bb, 0, none⟩ = some (.int .i64 db) := (hb1.cell (p := ⟨Bb, 0, none⟩) (by simp; omega)).trans cb)
        have hX1 : CatsB n₀ (w1.alloc (.cells #[.int .i64 (leastS xs' ys'), .int .i64 0, .int .i64 0] 331)) p' xs' := hX.keep (((hb1.mono (by omega)).alloc (by omega) _))
        have hY1 : CatsB n₀ (w1.alloc (.cells #[.int .i64 (leastS xs' ys'), .int .i64 0, .int .i64 0] 331)) q' ys' := hYs.keep (((hb1.mono (by omega)).alloc (by omega) _))
        refine (callsIn_wide.2 (take_any n₀ p' cx' xs' (leastS xs' ys') da _ hmx' hc1 (by simp; omega) hX1)).mono ?_
        rintro e w2 ⟨p2, cx2, rfl, hX2, hcx2, m2, hm2⟩
        have hb2 : Below (w1.heap.size + 1) (w1.alloc (.cells #[.int .i64 (leastS xs' ys'), .int .i64 0, .int .i64 0] 331)) w2 := by rw [hm2]; exact bdn (Below.refl _ _) m2
        clear hm2
        have hz2 : w1.heap.size + 1 <= w2.heap.size := by have := hb2.size; simpa using this
        have k0 : w2.cell? ⟨w1.heap.size, 0, none⟩ = some (.int .i64 (leastS xs' ys')) := (hb2.cell (p := ⟨w1.heap.size, 0, none⟩) (by simp)).trans (by simp [go_sem])
        have k1 : w2.cell? ⟨w1.heap.size, 1, none⟩ = some (.int .i64 0) := (hb2.cell (p := ⟨w1.heap.size, 1, none⟩) (by simp)).trans (by simp [go_sem])
        have k2 : w2.cell? ⟨w1.heap.size, 2, none⟩ = some (.int .i64 0) := (hb2.cell (p := ⟨w1.heap.size, 2, none⟩) (by simp)).trans (by simp [go_sem])
        have kf : ∀ o, w2.frozen? ⟨w1.heap.size, o, none⟩ = false := fun o => (hb2.frozen (p := ⟨w1.heap.size, o, none⟩) (by simp)).trans (by simp [go_sem])
        have ca2 : w2.cell? ⟨Ba, 0, none⟩ = some (.int .i64 da) := (hb2.cell (p := ⟨Ba, 0, none⟩) (by simp; omega)).trans (by simp [go_sem, hBa1, ca1])
        have cb2 : w2.cell? ⟨Bb, 0, none⟩ = some (.int .i64 db) := (hb2.cell (p := ⟨Bb, 0, none⟩) (by simp; omega)).trans (by simp [go_sem, hBb1, cb1])
        have hY2 : CatsB n₀ w2 q' ys' := hY1.keep (hb2.mono (by omega))
        have hX2' : CatsB n₀ w2 p2 (tkR (leastS xs' ys') xs') := hX2.keep (hb2.mono (by omega))
        clear hX2 hX1 hY1
        have hda : Ba ≠ w1.heap.size := by omega
        have hdb : Bb ≠ w1.heap.size := by omega
        gi_wp2_with fail
        have hB3 : Below w1.heap.size w2 (w2.setCell ⟨w1.heap.size, 1, none⟩ (.int .i64 (tkL da (leastS xs' ys') xs'))) := (Below.refl _ _).setCell (p := ⟨w1.heap.size, 1, none⟩) (Nat.le_refl _) _
        refine (callsIn_wide.2 (take_any n₀ q' cy' ys' (leastS xs' ys') db _ hmy' hc2 (by simp; omega) (hY2.keep (hB3.mono (by omega))))).mono ?_
        rintro e w4 ⟨q2, cy2, rfl, hY4, hcy2, m4, hm4⟩
        have hb4 : Below w2.heap.size (w2.setCell ⟨w1.heap.size, 1, none⟩ (.int .i64 (tkL da (leastS xs' ys') xs'))) w4 := by rw [hm4]; exact bdn (Below.refl _ _) m4
        clear hm4
        have hz4 : w2.heap.size <= w4.heap.size := by have := hb4.size; simpa using this
        have l0 : w4.cell? ⟨w1.heap.size, 0, none⟩ = some (.int .i64 (leastS xs' ys')) := (hb4.cell (p := ⟨w1.heap.size, 0, none⟩) (by simp; omega)).trans (by simp [go_sem, k0])
        have l1 : w4.cell? ⟨w1.heap.size, 1, none⟩ = some (.int .i64 (tkL da (leastS xs' ys') xs')) := (hb4.cell (p := ⟨w1.heap.size, 1, none⟩) (by simp; omega)).trans (World.cell?_setCell_same' _ _ _ (by rw [k1]; rfl))
        have l2 : w4.cell? ⟨w1.heap.size, 2, none⟩ = some (.int .i64 0) := (hb4.cell (p := ⟨w1.heap.size, 2, none⟩) (by simp; omega)).trans (by simp [go_sem, k2])
        have lf : ∀ o, w4.frozen? ⟨w1.heap.size, o, none⟩ = false := fun o => (hb4.frozen (p := ⟨w1.heap.size, o, none⟩) (by simp; omega)).trans (by rw [World.frozen?_setCell]; exact kf o)
        have hb24 : Below w1.heap.size w2 w4 := hB3.trans (hb4.mono (by omega))
        have hbf : Below w1.heap.size w1 (w4.setCell ⟨w1.heap.size, 2, none⟩ (.int .i64 (tkL db (leastS xs' ys') ys'))) := (((Below.refl _ w1).alloc (Nat.le_refl _) _).trans ((hb2.mono (by omega)).trans hb24)).setCell (p := ⟨w1.heap.size, 2, none⟩) (Nat.le_refl _) _
        have hbw : Below wr.heap.size wr (w4.setCell ⟨w1.heap.size, 2, none⟩ (.int .i64 (tkL db (leastS xs' ys') ys'))) := hb1.trans (hbf.mono hz1)
        have hb4f : Below w1.heap.size w4 (w4.setCell ⟨w1.heap.size, 2, none⟩ (.int .i64 (tkL db (leastS xs' ys') ys'))) := (Below.refl _ _).setCell (p := ⟨w1.heap.size, 2, none⟩) (Nat.le_refl _) _
        have hXf := (hX2'.keep (hb24.mono (by omega))).keep (hb4f.mono (by omega))
        have hYf := (hY4.keep (hb4.mono (by omega))).keep (hb4f.mono (by omega))
        have caf := (hbf.cell (p := ⟨Ba, 0, none⟩) (by simp; omega)).trans ca1
        have cbf := (hbf.cell (p := ⟨Bb, 0, none⟩) (by simp; omega)).trans cb1
        have hzf : W.heap.size <= (w4.setCell ⟨w1.heap.size, 2, none⟩ (.int .i64 (tkL db (leastS xs' ys') ys'))).heap.size := by have := hbw.size; omega
        obtain ⟨fn3, tmps3, assign3, body3, hy3, hR3⟩ := hY pre (leastS xs' ys', tkL da (leastS xs' ys') xs', tkL db (leastS xs' ys') ys') _ (abides_below hJ HJ.out hbw) (by have := HA.out.2; omega)
        dsimp only [encP] at hy3
        have HY : Hid (CatsB n₀ (w4.setCell ⟨w1.heap.size, 2, none⟩ (.int .i64 (tkL db (leastS xs' ys') ys'))) p2 (tkR (leastS xs' ys') xs') /\ CatsB n₀ (w4.setCell ⟨w1.heap.size, 2, none⟩ (.int .i64 (tkL db (leastS xs' ys') ys'))) q2 (tkR (leastS xs' ys') ys')) := ⟨hXf, hYf⟩
        have HC : Hid ((w4.setCell ⟨w1.heap.size, 2, none⟩ (.int .i64 (tkL db (leastS xs' ys') ys'))).cell? ⟨Ba, 0, none⟩ = some (.int .i64 da) /\ (w4.setCell ⟨w1.heap.size, 2, none⟩ (.int .i64 (tkL db (leastS xs' ys') ys'))).cell? ⟨Bb, 0, none⟩ = some (.int .i64 db)) := ⟨caf, cbf⟩
        have HB : Hid (Below wr.heap.size wr (w4.setCell ⟨w1.heap.size, 2, none⟩ (.int .i64 (tkL db (leastS xs' ys') ys')))) := hbw
        clear hXf hYf caf cbf hbw hbf hb4f hX2' hY4 hY2 hb24 hB3 k0 k1 k2 kf ca2 cb2 ca1 cb1 hb4 hb2 hb1
        gi_wp2
        refine hR3.mono ?_
        rintro e W3 (⟨rfl, hJ3, hk3⟩ | ⟨rfl, hJx3⟩)
        · gi_wp2
          go_roundw
          case rel =>
           exact ⟨pre ++ [(leastS xs' ys', tkL da (leastS xs' ys') xs', tkL db (leastS xs' ys') ys')], p2, q2, cx2, cy2, tkR (leastS xs' ys') xs', tkR (leastS xs' ys') ys', f - 1, rfl, rfl, prs_next HA.out hne hlt, ⟨by have := tkR_le (leastS xs' ys') xs'; omega, by have := tkR_le (leastS xs' ys') ys'; omega, hcx2, hcy2⟩, ⟨HY.out.1.keep hk3.1, HY.out.2.keep hk3.1⟩, hJ3, by have := hk3.1.size; omega, (cell_same hk3.2.1 0).trans HC.out.1, (cell_same hk3.2.2 0).trans HC.out.2⟩
          case measure => simp only [lenOf]; exact hlt
        · gi_wp2
          refine bodyPost_ret (results_none rfl _ _ _) rfl ?_
          exact ⟨⟨_, rfl⟩, .inr ⟨_, prs_stop HA.out hne, hJx3⟩⟩
     · obtain rfl : xs' = [] := List.eq_nil_of_length_eq_zero (by omega)
       obtain rfl : ys' = [] := List.eq_nil_of_length_eq_zero (by omega)
       gi_wp2
       go_end0
       exact ⟨⟨_, rfl⟩, .inl ⟨pre, by rw [HA.out.1]; cases f <;> simp [prs], HJ.out⟩⟩
 · gi_wp2
   refine bodyPost_ret (results_none rfl _ _ _) rfl ?_
   exact ⟨⟨_, rfl⟩, .inr ⟨[(0, da, db)], ⟨prs da db (xs.length + ys.length) xs ys, rfl⟩, hJx1⟩⟩
attribute [local go_sem] Oper.semAt_some

theorem pairs_any (va vb : Value) (da db : Int) (p q : Option Addr) (nx ny cx cy : Nat) (w : World) (ha : va = .agg #[.int .i64 da, .slice p nx cx]) (hb : vb = .agg #[.int .i64 db, .slice q ny cy]) :
 Calls Tryz.prog 268 #[va, vb] w fun e w' => e = .returned (.func (.func 282) #[] #[.pointer (some ⟨w.heap.size, 0, none⟩), .pointer (some ⟨w.heap.size + 1, 0, none⟩)]) /\
  w' = (w.alloc (.cells #[.int .i64 da, .slice p nx cx] 46)).alloc (.cells #[.int .i64 db, .slice q ny cy] 46) := by
 subst ha hb
 go_enter Tryz.func268, Tryz.ntmps268
 go_wp2
 go_ret
 exact ⟨rfl, rfl⟩

theorem pairs_stops (n : Nat) (hn : 1 <= n) (Ba Bb n₀ : Nat) (da db : Int) (p q : Option Addr) (cx cy : Nat) (xs ys : List (Int × Int)) (w : World)
 (hmx : xs.length <= maxLen) (hmy : ys.length <= maxLen) (hcx : xs.length <= cx) (hcy : ys.length <= cy) (hn₀ : n₀ <= w.heap.size) (hBa : Ba < w.heap.size) (hBb : Bb < w.heap.size)
 (a0 : w.cell? ⟨Ba, 0, none⟩ = some (.int .i64 da)) (a1 : w.cell? ⟨Ba, 1, none⟩ = some (.slice p xs.length cx)) (b0 : w.cell? ⟨Bb, 0, none⟩ = some (.int .i64 db)) (b1 : w.cell? ⟨Bb, 1, none⟩ = some (.slice q ys.length cy))
 (hx : CatsB n₀ w p xs) (hy : CatsB n₀ w q ys) :
 SeqStopsK Fence.wide n Tryz.prog 282 #[.pointer (some ⟨Ba, 0, none⟩), .pointer (some ⟨Bb, 0, none⟩)] (fun x => #[encP x]) (KpP n₀ Ba Bb) (fun zs => zs = allP da db xs ys) (fun pre => pre <+: allP da db xs ys) (xs.length + ys.length + 1) w := fun l J Jx W hW hJ _ hY h0 =>
 pairs1_in n hn l Ba Bb n₀ W.heap.size da db p q cx cy xs ys J Jx hJ hmx hmy hcx hcy hY W (Nat.le_trans hn₀ hW.size) (Nat.lt_of_lt_of_le hBa hW.size) (Nat.lt_of_lt_of_le hBb hW.size)
  ((hW.cell (p := ⟨Ba, 0, none⟩) hBa).trans a0) ((hW.cell (p := ⟨Ba, 1, none⟩) hBa).trans a1) ((hW.cell (p := ⟨Bb, 0, none⟩) hBb).trans b0) ((hW.cell (p := ⟨Bb, 1, none⟩) hBb).trans b1)
  (hx.keep (hW.mono hn₀)) (hy.keep (hW.mono hn₀)) h0

theorem kpp_t {n₀ Ba Bb : Nat} {A B C : World} (h : KpP n₀ Ba Bb A B) (k : KpP n₀ Ba Bb B C) : KpP n₀ Ba Bb A C := ⟨h.1.trans k.1, k.2.1.trans h.2.1, k.2.2.trans h.2.2⟩
theorem kpp_b {n₀ Ba Bb : Nat} {w : World} (hn : n₀ <= w.heap.size) (ha : Ba < w.heap.size) (hb : Bb < w.heap.size) (W : World) (l : Nat) (o o' : Obj) (hl : w.heap.size <= l) (h : W.heap[l]? = some o) (h1 : o.isCells = false) (h2 : o.isWalk = false) : KpP n₀ Ba Bb W (W.putObj l o') :=
 ⟨belowK_b hn W l o o' hl h h1 h2, World.putObj_heap_other (by omega), World.putObj_heap_other (by omega)⟩
theorem kpp_below {n₀ Ba Bb : Nat} {W W' : World} (h : Below W.heap.size W W') (hn : n₀ <= W.heap.size) (ha : Ba < W.heap.size) (hb : Bb < W.heap.size) : KpP n₀ Ba Bb W W' :=
 ⟨h.mono hn, h.block _ ha, h.block _ hb⟩

def AllLe (pre : List (Int × Int × Int)) : Prop := ∀ x ∈ pre, x.2.1 <= x.2.2
theorem AllLe.snoc {pre : List (Int × Int × Int)} {x : Int × Int × Int} (h : AllLe pre) (hx : x.2.1 <= x.2.2) : AllLe (pre ++ [x]) := fun y hy => (List.mem_append.1 hy).elim (h y) (fun e => by rw [List.mem_singleton.1 e]; exact hx)
def SomeGt (pre : List (Int × Int × Int)) : Prop := ∃ x ∈ pre, ¬ x.2.1 <= x.2.2
theorem SomeGt.snoc {pre : List (Int × Int × Int)} {x : Int × Int × Int} (hx : ¬ x.2.1 <= x.2.2) : SomeGt (pre ++ [x]) := ⟨x, List.mem_append.2 (.inr (List.mem_singleton.2 rfl)), hx⟩
def leqS (da db : Int) (xs ys : List (Int × Int)) : Bool := (allP da db xs ys).all fun x => decide (x.2.1 <= x.2.2)

theorem leqS_yes {da db : Int} {xs ys : List (Int × Int)} (h : AllLe (allP da db xs ys)) : leqS da db xs ys = true := by
 unfold leqS; rw [List.all_eq_true]; intro x hx; simpa using h x hx
theorem leqS_no {da db : Int} {xs ys : List (Int × Int)} {pre : List (Int × Int × Int)} (hp : pre <+: allP da db xs ys) (h : SomeGt pre) : leqS da db xs ys = false := by
 obtain ⟨x, hx, hn⟩ := h
 unfold leqS; rw [List.all_eq_false]; exact ⟨x, hp.subset hx, by simpa using hn⟩

set_option maxRecDepth 100000 in
set_option maxHeartbeats 1000000 in
theorem Leq_any (da db : Int) (p q : Option Addr) (cx cy : Nat) (xs ys : List (Int × Int)) (w : World) (hmx : xs.length <= maxLen) (hmy : ys.length <= maxLen) (hcx : xs.length <= cx) (hcy : ys.length <= cy)
 (hx : CatsAt w p xs) (hy : CatsAt w q ys) :
 Calls Tryz.prog 224 #[.agg #[.int .i64 da, .slice p xs.length cx], .agg #[.int .i64 db, .slice q ys.length cy]] w fun e w' => e = .returned (.bool (leqS da db xs ys)) /\ Below w.heap.size w w' := by
 refine (callsIn_wide (n := 3)).1 ?_
 have h26 : Fence.wide.fn 224 := trivial
 have h63 : Fence.wide.fn 268 := trivial
 have h76 : Fence.wide.fn 282 := trivial
 have hro : Fence.wide.round = none := rfl
 refine callsIn_of_wp_marks Tryz.func224 rfl h26 ?_ hro
 simp only [Tryz.ntmps224, List.size_toArray, List.length_cons, List.length_nil, Nat.reduceAdd, Nat.reduceSub, Array.replicate_succ, Array.replicate_zero, List.push_toArray, List.append_toArray, List.nil_append, List.cons_append]
 gi_wp2_with (gi_at_call 268; refine (callsIn_wide.2 (pairs_any _ _ da db p q xs.length ys.length cx cy _ rfl rfl)).mono ?_; rintro e w' ⟨rfl, rfl⟩)
 obtain ⟨W0, hW0⟩ : ∃ W0, (((((w.alloc (.cells #[.int .i64 da, .slice p xs.length cx] 46)).alloc (.cells #[.int .i64 db, .slice q ys.length cy] 46)).alloc (.cells #[.bool false] 4)).alloc (.cells #[.int .i64 da, .slice p xs.length cx] 46)).alloc (.cells #[.int .i64 db, .slice q ys.length cy] 46)) = W0 := ⟨_, rfl⟩
 have hB0 : Below w.heap.size w W0 := by rw [<- hW0]; go_grown
 have hsz : W0.heap.size = w.heap.size + 5 := by rw [<- hW0]; simp
 have r0 : W0.cell? ⟨w.heap.size + 2, 0, none⟩ = some (.bool false) := by rw [<- hW0]; simp [go_sem]
 have rf : W0.frozen? ⟨w.heap.size + 2, 0, none⟩ = false := by rw [<- hW0]; simp [go_sem]
 have a0 : W0.cell? ⟨w.heap.size + 3, 0, none⟩ = some (.int .i64 da) := by rw [<- hW0]; simp [go_sem]
 have a1 : W0.cell? ⟨w.heap.size + 3, 1, none⟩ = some (.slice p xs.length cx) := by rw [<- hW0]; simp [go_sem]
 have b0 : W0.cell? ⟨w.heap.size + 4, 0, none⟩ = some (.int .i64 db) := by rw [<- hW0]; simp [go_sem]
 have b1 : W0.cell? ⟨w.heap.size + 4, 1, none⟩ = some (.slice q ys.length cy) := by rw [<- hW0]; simp [go_sem]
 have hx0 : CatsB w.heap.size W0 p xs := hx.under.keep hB0
 have hy0 : CatsB w.heap.size W0 q ys := hy.under.keep hB0
 rw [hW0]
 clear hW0 hx hy
 have hsz1 : w.heap.size + 5 <= W0.heap.size := by omega
 clear hsz
 refine wpIn_rangeFunc_ownH hro (by decide) (gf := 282) (lb := #[.pointer (some ⟨w.heap.size + 3, 0, none⟩), .pointer (some ⟨w.heap.size + 4, 0, none⟩)]) rfl h76 (enters_of Tryz.func282 (by kernel_rfl) rfl)
  (pairs_stops 2 (by decide) (w.heap.size + 3) (w.heap.size + 4) w.heap.size da db p q cx cy xs ys W0 hmx hmy hcx hcy (by omega) (by omega) (by omega) a0 a1 b0 b1 hx0 hy0) kpp_t (kpp_b (by omega) (by omega) (by omega)) (Below.refl _ _) (fun _ => rfl)
  (fun pre W => (AllLe pre /\ W.cell? ⟨w.heap.size + 2, 0, none⟩ = some (.bool false) /\ W.frozen? ⟨w.heap.size + 2, 0, none⟩ = false) /\ Below w.heap.size w W /\ W0.heap.size <= W.heap.size)
  (fun c pre W => (c = .ret /\ SomeGt pre /\ W.cell? ⟨w.heap.size + 2, 0, none⟩ = some (.bool false)) /\ Below w.heap.size w W)
  (OwnFrom.and (Own.from (fun s A B row hs hg hr => ⟨hs.1, cell_kept hs.2.1 hg hr, (frozen_kept hs.2.1 hg hr).trans hs.2.2⟩) _) (OwnFrom.and (ownFrom_below (Nat.le_refl _) (by omega)) (fun s A B row hs hg _ => Nat.le_trans hs hg.size)))
  (fun c => OwnFrom.and (Own.from (fun s A B row hs hg hr => ⟨hs.1, hs.2.1, cell_kept hs.2.2 hg hr⟩) _) (ownFrom_below (Nat.le_refl _) (by omega)))
  ⟨⟨fun _ h => by simp at h, r0, rf⟩, hB0, Nat.le_refl _⟩
  (fun x a' W => ∃ Bx, w.heap.size + 5 <= Bx /\ W.cell? ⟨Bx, 1, none⟩ = some (.int .i64 x.2.1) /\ W.cell? ⟨Bx, 2, none⟩ = some (.int .i64 x.2.2) /\ a' = { tmps := #[.agg #[.int .i64 da, .slice p xs.length cx], .agg #[.int .i64 db, .slice q ys.length cy], .pointer (some ⟨w.heap.size, 0, none⟩), .pointer (some ⟨w.heap.size + 1, 0, none⟩), .pointer (some ⟨w.heap.size + 1 + 1, 0, none⟩), .pointer (some ⟨Bx, 0, none⟩), .agg #[.int .i64 da, .slice p xs.length cx], .agg #[.int .i64 db, .slice q ys.length cy], .func (.func 282) #[] #[.pointer (some ⟨w.heap.size + 1 + 1 + 1, 0, none⟩), .pointer (some ⟨w.heap.size + 1 + 1 + 1 + 1, 0, none⟩)], encP x, undef, undef, undef, undef, undef], defers := [] })
  (fun x a' _ X Y row hs hg hr => by obtain ⟨Bx, h1, h2, h3, h4⟩ := hs; exact ⟨Bx, h1, cell_kept h2 hg (fun r e => (hr r e).2), cell_kept h3 hg (fun r e => (hr r e).2), h4⟩)
  ?assign ?body ?done ?stop
 case assign =>
  rintro l pre x W K ⟨⟨hp, hc, hf⟩, hB, hz⟩ hK
  simp only [encP]
  gi_wp2
  have hbA : Below W.heap.size W (W.alloc (.cells #[.int .i64 x.1, .int .i64 x.2.1, .int .i64 x.2.2] 331)) := (Below.refl _ _).alloc (Nat.le_refl _) _
  refine hK _ _ ((KeepsOthers.alloc _ _).from _) (kpp_below hbA (by omega) (by omega) (by omega)) ⟨⟨hp, (hbA.cell (p := ⟨w.heap.size + 2, 0, none⟩) (by simp; omega)).trans hc, (hbA.frozen (p := ⟨w.heap.size + 2, 0, none⟩) (by simp; omega)).trans hf⟩, hB.trans (hbA.mono hB.size), Nat.le_trans hz hbA.size⟩ ⟨W.heap.size, by omega, by simp [go_sem], by simp [go_sem], rfl⟩
 case body =>
  rintro l pre x a' W hl hr ⟨⟨hp, hc, hf⟩, hB, hz⟩ ⟨Bx, hBx, c1, c2, rfl⟩ hlt
  by_cases hle : x.2.1 <= x.2.2
  · gi_wp2
    exact ⟨KeepsFrom.refl _ _, kpp_below (Below.refl _ _) (by omega) (by omega) (by omega), ⟨⟨hp.snoc hle, hc, hf⟩, hB, hz⟩⟩
  · gi_wp2
    exact ⟨(KeepsOthers.setCell _ _ _).from _, ⟨rfl, SomeGt.snoc (by omega), World.cell?_setCell_same' _ _ _ (by rw [hc]; rfl)⟩, hB.setCell (p := ⟨w.heap.size + 2, 0, none⟩) (by simp) _⟩
 case done =>
  rintro D zs W hD rfl ⟨⟨hp, hc, hf⟩, hB, hz⟩ hK
  gi_wp2
  have hK' := (KeepsOthers.setCell W ⟨w.heap.size + 2, 0, none⟩ (.bool true)).same D _ hK rfl
  refine ⟨by simp, .inl ⟨_, _, rfl, run_takeDeferred hK', ?_⟩⟩
  have hc5 := cell_kept (World.cell?_setCell_same' W ⟨w.heap.size + 2, 0, none⟩ (.bool true) (by rw [hc]; rfl)) (grownBy_putObj' _ D (.deferred none)) (fun r e => by cases e; exact ⟨_, hK', rfl⟩)
  refine ⟨.bool true, ?_, ret_bool (leqS_yes hp).symm, (hB.setCell (p := ⟨w.heap.size + 2, 0, none⟩) (by simp) _).trans (belowK_b (w := w) (Nat.le_refl _) _ D _ _ (by omega) hK' rfl rfl)⟩
  simp [results, Tryz.results224, go_sem, hc5]
 case stop =>
  rintro D c pre W hD hpre ⟨⟨rfl, hin, hc⟩, hB⟩ hK
  gi_wp2
  refine ⟨by simp, .inl ⟨_, _, rfl, run_takeDeferred hK, ?_⟩⟩
  have hc5 := cell_kept hc (grownBy_putObj' _ D (.deferred none)) (fun r e => by cases e; exact ⟨_, hK, rfl⟩)
  refine ⟨.bool false, ?_, ret_bool (leqS_no hpre hin).symm, hB.trans (belowK_b (w := w) (Nat.le_refl _) W D _ _ (by omega) hK rfl rfl)⟩
  simp [results, Tryz.results224, go_sem, hc5]
end Go.Proofs.YtmgfakfiiaeofaaGreat.Pa
/- Plain facts on labels as lists: comparing right labels is comparing their levels at every category, and is an order. -/
namespace Go.Proofs.YtmgfakfiiaeofaaGreat.Pa

def Rise : Int -> List (Int × Int) -> Prop
 | _, [] => True
 | l, x :: xs => l < x.1 /\ Rise x.1 xs
theorem Rise.mono {l l' : Int} (h : l' <= l) : ∀ {xs : List (Int × Int)}, Rise l xs -> Rise l' xs
 | [], _ => trivial
 | _ :: _, h1 => ⟨Int.lt_of_le_of_lt h h1.1, h1.2⟩
end Go.Proofs.YtmgfakfiiaeofaaGreat.Pa
/- What right of the statements' package and Same of the reference answer, for every label. -/
namespace Go.Proofs.YtmgfakfiiaeofaaGreat.Pa
open Go.RowKit Go.Sort

structure Lab where
 d : Int
 p : Option Addr
 cap : Nat
 xs : List (Int × Int)
def Lab.val (l : Lab) : Value := .agg #[.int .i64 l.d, .slice l.p l.xs.length l.cap]

def icells (cs : List Int) : List Value := cs.map fun c => .int .i64 c
theorem icells_append (a b : List Int) : icells (a ++ b) = icells a ++ icells b := by simp [icells]
theorem icells_one (a : List Int) : ∀ u ∈ icells a, u.oneCell' = true := fun u hu => by
 simp only [icells, List.mem_map] at hu
 obtain ⟨c, _, rfl⟩ := hu; rfl
theorem info3 : (Tryz.prog.info? 3).map (fun i => (i.zero, i.size, i.bytes)) = some (some (.int .i64 0), 1, 8) := by kernel_rfl
theorem cell_one_new' (W : World) (v : Value) (t : TypeId) : ∀ i u, [v][i]? = some u -> (W.alloc (.cells #[v] t)).cell? ((⟨W.heap.size, 0, none⟩ : Addr).add i) = some u := fun i u hu => by
 match i, hu with
 | 0, hu => simp at hu; subst hu; simp [Addr.add, go_sem]
theorem own_belowN {W W' : World} {base e size n B : Nat} {v : Value} {xs : List Value} (h : W.ownsRow base e size v n xs) (hb : Below B W W') (hB : W.heap.size <= B) : W'.ownsRow base e size v n xs := by
 obtain ⟨h1, h2⟩ := h
 refine ⟨h1, ?_⟩
 rcases h2 with ⟨rfl, hn⟩ | ⟨g, cap, cur, rfl, hg, hh, hr⟩
 · exact .inl ⟨rfl, hn⟩
 · refine .inr ⟨g, cap, cur, rfl, hg, ?_, hr⟩
   have hlt : g < W.heap.size := by
    rcases Nat.lt_or_ge g W.heap.size with h | h
    · exact h
    · rw [Array.getElem?_eq_none h] at hh; cases hh
   rw [hb.block g (by omega)]; exact hh
end Go.Proofs.YtmgfakfiiaeofaaGreat.Pa
