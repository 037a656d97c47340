/- What Leq of package label answers, for every two labels. -/
import Derived.Test.YtfpjeclbilhgdaaDoorPairs
namespace Go.Proofs.YtfpjeclbilhgdaaDoor
open Go.RowKit Go.Sort Go.Shelf
attribute [local go_sem] Oper.semAt_some

theorem pairs_any (va vb : Value) (da db : Int) (p q : Option Addr) (nx ny cx cy : Nat) (w : World) (ha : va = .agg #[.int .i64 da, .slice p nx cx]) (hb : vb = .agg #[.int .i64 db, .slice q ny cy]) :
    Calls Tryd.prog 50 #[va, vb] w fun e w' => e = .returned (.func (.func 70) #[] #[.pointer (some ⟨w.heap.size, 0, none⟩), .pointer (some ⟨w.heap.size + 1, 0, none⟩)]) ∧
      w' = (w.alloc (.cells #[.int .i64 da, .slice p nx cx] 24)).alloc (.cells #[.int .i64 db, .slice q ny cy] 24) := by
  subst ha hb
  go_enter Tryd.func50, Tryd.ntmps50
  go_wp2
  go_ret
  exact ⟨rfl, rfl⟩

theorem pairs_stops (n : Nat) (hn : 1 ≤ n) (Ba Bb n₀ : Nat) (da db : Int) (p q : Option Addr) (cx cy : Nat) (xs ys : List (Int × Int)) (w : World)
    (hmx : xs.length ≤ maxLen) (hmy : ys.length ≤ maxLen) (hcx : xs.length ≤ cx) (hcy : ys.length ≤ cy) (hn₀ : n₀ ≤ w.heap.size) (hBa : Ba < w.heap.size) (hBb : Bb < w.heap.size)
    (a0 : w.cell? ⟨Ba, 0, none⟩ = some (.int .i64 da)) (a1 : w.cell? ⟨Ba, 1, none⟩ = some (.slice p xs.length cx)) (b0 : w.cell? ⟨Bb, 0, none⟩ = some (.int .i64 db)) (b1 : w.cell? ⟨Bb, 1, none⟩ = some (.slice q ys.length cy))
    (hx : CatsB n₀ w p xs) (hy : CatsB n₀ w q ys) :
    SeqStopsK Fence.wide n Tryd.prog 70 #[.pointer (some ⟨Ba, 0, none⟩), .pointer (some ⟨Bb, 0, none⟩)] (fun x => #[encP x]) (KpP n₀ Ba Bb) (fun zs => zs = allP da db xs ys) (fun pre => pre <+: allP da db xs ys) (xs.length + ys.length + 1) w := fun l J Jx W hW hJ _ hY h0 =>
  pairs1_in n hn l Ba Bb n₀ W.heap.size da db p q cx cy xs ys J Jx hJ hmx hmy hcx hcy hY W (Nat.le_trans hn₀ hW.size) (Nat.lt_of_lt_of_le hBa hW.size) (Nat.lt_of_lt_of_le hBb hW.size)
    ((hW.cell (p := ⟨Ba, 0, none⟩) hBa).trans a0) ((hW.cell (p := ⟨Ba, 1, none⟩) hBa).trans a1) ((hW.cell (p := ⟨Bb, 0, none⟩) hBb).trans b0) ((hW.cell (p := ⟨Bb, 1, none⟩) hBb).trans b1)
    (hx.keep (hW.mono hn₀)) (hy.keep (hW.mono hn₀)) h0

theorem kpp_t {n₀ Ba Bb : Nat} {A B C : World} (h : KpP n₀ Ba Bb A B) (k : KpP n₀ Ba Bb B C) : KpP n₀ Ba Bb A C := ⟨h.1.trans k.1, k.2.1.trans h.2.1, k.2.2.trans h.2.2⟩
theorem kpp_b {n₀ Ba Bb : Nat} {w : World} (hn : n₀ ≤ w.heap.size) (ha : Ba < w.heap.size) (hb : Bb < w.heap.size) (W : World) (l : Nat) (o o' : Obj) (hl : w.heap.size ≤ l) (h : W.heap[l]? = some o) (h1 : o.isCells = false) (h2 : o.isWalk = false) : KpP n₀ Ba Bb W (W.putObj l o') :=
  ⟨belowK_b hn W l o o' hl h h1 h2, World.putObj_heap_other (by omega), World.putObj_heap_other (by omega)⟩
theorem kpp_below {n₀ Ba Bb : Nat} {W W' : World} (h : Below W.heap.size W W') (hn : n₀ ≤ W.heap.size) (ha : Ba < W.heap.size) (hb : Bb < W.heap.size) : KpP n₀ Ba Bb W W' :=
  ⟨h.mono hn, h.block _ ha, h.block _ hb⟩

def AllLe (pre : List (Int × Int × Int)) : Prop := ∀ x ∈ pre, x.2.1 ≤ x.2.2
theorem AllLe.snoc {pre : List (Int × Int × Int)} {x : Int × Int × Int} (h : AllLe pre) (hx : x.2.1 ≤ x.2.2) : AllLe (pre ++ [x]) := fun y hy => (List.mem_append.1 hy).elim (h y) (fun e => by rw [List.mem_singleton.1 e]; exact hx)
def SomeGt (pre : List (Int × Int × Int)) : Prop := ∃ x ∈ pre, ¬ x.2.1 ≤ x.2.2
theorem SomeGt.snoc {pre : List (Int × Int × Int)} {x : Int × Int × Int} (hx : ¬ x.2.1 ≤ x.2.2) : SomeGt (pre ++ [x]) := ⟨x, List.mem_append.2 (.inr (List.mem_singleton.2 rfl)), hx⟩
def leqS (da db : Int) (xs ys : List (Int × Int)) : Bool := (allP da db xs ys).all fun x => decide (x.2.1 ≤ x.2.2)

theorem leqS_yes {da db : Int} {xs ys : List (Int × Int)} (h : AllLe (allP da db xs ys)) : leqS da db xs ys = true := by
  unfold leqS; rw [List.all_eq_true]; intro x hx; simpa using h x hx
theorem leqS_no {da db : Int} {xs ys : List (Int × Int)} {pre : List (Int × Int × Int)} (hp : pre <+: allP da db xs ys) (h : SomeGt pre) : leqS da db xs ys = false := by
  obtain ⟨x, hx, hn⟩ := h
  unfold leqS; rw [List.all_eq_false]; exact ⟨x, hp.subset hx, by simpa using hn⟩

set_option maxRecDepth 100000 in
set_option maxHeartbeats 1000000 in
theorem Leq_any (da db : Int) (p q : Option Addr) (cx cy : Nat) (xs ys : List (Int × Int)) (w : World) (hmx : xs.length ≤ maxLen) (hmy : ys.length ≤ maxLen) (hcx : xs.length ≤ cx) (hcy : ys.length ≤ cy)
    (hx : CatsAt w p xs) (hy : CatsAt w q ys) :
    Calls Tryd.prog 34 #[.agg #[.int .i64 da, .slice p xs.length cx], .agg #[.int .i64 db, .slice q ys.length cy]] w fun e w' => e = .returned (.bool (leqS da db xs ys)) ∧ Below w.heap.size w w' := by
  refine (callsIn_wide (n := 3)).1 ?_
  have h26 : Fence.wide.fn 34 := trivial
  have h63 : Fence.wide.fn 50 := trivial
  have h76 : Fence.wide.fn 70 := trivial
  have hro : Fence.wide.round = none := rfl
  refine callsIn_of_wp_marks Tryd.func34 rfl h26 ?_ hro
  simp only [Tryd.ntmps34, List.size_toArray, List.length_cons, List.length_nil, Nat.reduceAdd, Nat.reduceSub, Array.replicate_succ, Array.replicate_zero, List.push_toArray, List.append_toArray, List.nil_append, List.cons_append]
  gi_wp2_with (gi_at_call 50; refine (callsIn_wide.2 (pairs_any _ _ da db p q xs.length ys.length cx cy _ rfl rfl)).mono ?_; rintro e w' ⟨rfl, rfl⟩)
  obtain ⟨W0, hW0⟩ : ∃ W0, (((((w.alloc (.cells #[.int .i64 da, .slice p xs.length cx] 24)).alloc (.cells #[.int .i64 db, .slice q ys.length cy] 24)).alloc (.cells #[.bool false] 4)).alloc (.cells #[.int .i64 da, .slice p xs.length cx] 24)).alloc (.cells #[.int .i64 db, .slice q ys.length cy] 24)) = W0 := ⟨_, rfl⟩
  have hB0 : Below w.heap.size w W0 := by rw [← hW0]; go_grown
  have hsz : W0.heap.size = w.heap.size + 5 := by rw [← hW0]; simp
  have r0 : W0.cell? ⟨w.heap.size + 2, 0, none⟩ = some (.bool false) := by rw [← hW0]; simp [go_sem]
  have rf : W0.frozen? ⟨w.heap.size + 2, 0, none⟩ = false := by rw [← hW0]; simp [go_sem]
  have a0 : W0.cell? ⟨w.heap.size + 3, 0, none⟩ = some (.int .i64 da) := by rw [← hW0]; simp [go_sem]
  have a1 : W0.cell? ⟨w.heap.size + 3, 1, none⟩ = some (.slice p xs.length cx) := by rw [← hW0]; simp [go_sem]
  have b0 : W0.cell? ⟨w.heap.size + 4, 0, none⟩ = some (.int .i64 db) := by rw [← hW0]; simp [go_sem]
  have b1 : W0.cell? ⟨w.heap.size + 4, 1, none⟩ = some (.slice q ys.length cy) := by rw [← hW0]; simp [go_sem]
  have hx0 : CatsB w.heap.size W0 p xs := hx.under.keep hB0
  have hy0 : CatsB w.heap.size W0 q ys := hy.under.keep hB0
  rw [hW0]
  clear hW0 hx hy
  have hsz1 : w.heap.size + 5 ≤ W0.heap.size := by omega
  clear hsz
  refine wpIn_rangeFunc_ownH hro (by decide) (gf := 70) (lb := #[.pointer (some ⟨w.heap.size + 3, 0, none⟩), .pointer (some ⟨w.heap.size + 4, 0, none⟩)]) rfl h76 (enters_of Tryd.func70 (by kernel_rfl) rfl)
    (pairs_stops 2 (by decide) (w.heap.size + 3) (w.heap.size + 4) w.heap.size da db p q cx cy xs ys W0 hmx hmy hcx hcy (by omega) (by omega) (by omega) a0 a1 b0 b1 hx0 hy0) kpp_t (kpp_b (by omega) (by omega) (by omega)) (Below.refl _ _) (fun _ => rfl)
    (fun pre W => (AllLe pre ∧ W.cell? ⟨w.heap.size + 2, 0, none⟩ = some (.bool false) ∧ W.frozen? ⟨w.heap.size + 2, 0, none⟩ = false) ∧ Below w.heap.size w W ∧ W0.heap.size ≤ W.heap.size)
    (fun c pre W => (c = .ret ∧ SomeGt pre ∧ W.cell? ⟨w.heap.size + 2, 0, none⟩ = some (.bool false)) ∧ Below w.heap.size w W)
    (OwnFrom.and (Own.from (fun s A B row hs hg hr => ⟨hs.1, cell_kept hs.2.1 hg hr, (frozen_kept hs.2.1 hg hr).trans hs.2.2⟩) _) (OwnFrom.and (ownFrom_below (Nat.le_refl _) (by omega)) (fun s A B row hs hg _ => Nat.le_trans hs hg.size)))
    (fun c => OwnFrom.and (Own.from (fun s A B row hs hg hr => ⟨hs.1, hs.2.1, cell_kept hs.2.2 hg hr⟩) _) (ownFrom_below (Nat.le_refl _) (by omega)))
    ⟨⟨fun _ h => by simp at h, r0, rf⟩, hB0, Nat.le_refl _⟩
    (fun x a' W => ∃ Bx, w.heap.size + 5 ≤ Bx ∧ W.cell? ⟨Bx, 1, none⟩ = some (.int .i64 x.2.1) ∧ W.cell? ⟨Bx, 2, none⟩ = some (.int .i64 x.2.2) ∧ a' = { tmps := #[.agg #[.int .i64 da, .slice p xs.length cx], .agg #[.int .i64 db, .slice q ys.length cy], .pointer (some ⟨w.heap.size, 0, none⟩), .pointer (some ⟨w.heap.size + 1, 0, none⟩), .pointer (some ⟨w.heap.size + 1 + 1, 0, none⟩), .pointer (some ⟨Bx, 0, none⟩), .agg #[.int .i64 da, .slice p xs.length cx], .agg #[.int .i64 db, .slice q ys.length cy], .func (.func 70) #[] #[.pointer (some ⟨w.heap.size + 1 + 1 + 1, 0, none⟩), .pointer (some ⟨w.heap.size + 1 + 1 + 1 + 1, 0, none⟩)], encP x, undef, undef, undef, undef, undef], defers := [] })
    (fun x a' _ X Y row hs hg hr => by obtain ⟨Bx, h1, h2, h3, h4⟩ := hs; exact ⟨Bx, h1, cell_kept h2 hg (fun r e => (hr r e).2), cell_kept h3 hg (fun r e => (hr r e).2), h4⟩)
    ?assign ?body ?done ?stop
  case assign =>
    rintro l pre x W K ⟨⟨hp, hc, hf⟩, hB, hz⟩ hK
    simp only [encP]
    gi_wp2
    have hbA : Below W.heap.size W (W.alloc (.cells #[.int .i64 x.1, .int .i64 x.2.1, .int .i64 x.2.2] 70)) := (Below.refl _ _).alloc (Nat.le_refl _) _
    refine hK _ _ ((KeepsOthers.alloc _ _).from _) (kpp_below hbA (by omega) (by omega) (by omega)) ⟨⟨hp, (hbA.cell (p := ⟨w.heap.size + 2, 0, none⟩) (by simp; omega)).trans hc, (hbA.frozen (p := ⟨w.heap.size + 2, 0, none⟩) (by simp; omega)).trans hf⟩, hB.trans (hbA.mono hB.size), Nat.le_trans hz hbA.size⟩ ⟨W.heap.size, by omega, by simp [go_sem], by simp [go_sem], rfl⟩
  case body =>
    rintro l pre x a' W hl hr ⟨⟨hp, hc, hf⟩, hB, hz⟩ ⟨Bx, hBx, c1, c2, rfl⟩ hlt
    by_cases hle : x.2.1 ≤ x.2.2
    · gi_wp2
      exact ⟨KeepsFrom.refl _ _, kpp_below (Below.refl _ _) (by omega) (by omega) (by omega), ⟨⟨hp.snoc hle, hc, hf⟩, hB, hz⟩⟩
    · gi_wp2
      exact ⟨(KeepsOthers.setCell _ _ _).from _, ⟨rfl, SomeGt.snoc (by omega), World.cell?_setCell_same' _ _ _ (by rw [hc]; rfl)⟩, hB.setCell (p := ⟨w.heap.size + 2, 0, none⟩) (by simp) _⟩
  case done =>
    rintro D zs W hD rfl ⟨⟨hp, hc, hf⟩, hB, hz⟩ hK
    gi_wp2
    have hK' := (KeepsOthers.setCell W ⟨w.heap.size + 2, 0, none⟩ (.bool true)).same D _ hK rfl
    refine ⟨by simp, .inl ⟨_, _, rfl, run_takeDeferred hK', ?_⟩⟩
    have hc5 := cell_kept (World.cell?_setCell_same' W ⟨w.heap.size + 2, 0, none⟩ (.bool true) (by rw [hc]; rfl)) (grownBy_putObj' _ D (.deferred none)) (fun r e => by cases e; exact ⟨_, hK', rfl⟩)
    refine ⟨.bool true, ?_, ret_bool (leqS_yes hp).symm, (hB.setCell (p := ⟨w.heap.size + 2, 0, none⟩) (by simp) _).trans (belowK_b (w := w) (Nat.le_refl _) _ D _ _ (by omega) hK' rfl rfl)⟩
    simp [results, Tryd.results34, go_sem, hc5]
  case stop =>
    rintro D c pre W hD hpre ⟨⟨rfl, hin, hc⟩, hB⟩ hK
    gi_wp2
    refine ⟨by simp, .inl ⟨_, _, rfl, run_takeDeferred hK, ?_⟩⟩
    have hc5 := cell_kept hc (grownBy_putObj' _ D (.deferred none)) (fun r e => by cases e; exact ⟨_, hK, rfl⟩)
    refine ⟨.bool false, ?_, ret_bool (leqS_no hpre hin).symm, hB.trans (belowK_b (w := w) (Nat.le_refl _) W D _ _ (by omega) hK rfl rfl)⟩
    simp [results, Tryd.results34, go_sem, hc5]
end Go.Proofs.YtfpjeclbilhgdaaDoor
