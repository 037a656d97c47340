/- What Join and Meet of package label answer, for every two labels. -/
import Derived.Test.YtibnmiigfiofmaaDoorMx
import Derived.Test.YtibnmiigfiofmaaDoorMake
import Derived.OwnWalkIn
namespace Go.Proofs.YtibnmiigfiofmaaDoor
open Go.RowKit Go.Sort Go.Shelf
attribute [local go_sem] Oper.semAt_some

theorem Fit_any (d : Int) (v : Value) (B : Nat) (zs : List (Int × Int)) (w : World) (h : w.ownsRow B 30 2 v zs.length (flat zs)) :
    Calls Tryd.prog 55 #[.agg #[.int .i64 d, v]] w fun e w' => ∃ v', e = .returned (.tuple #[.agg #[.int .i64 (fitD d zs), v'], .int .i64 (fitE zs)]) ∧ w'.ownsRow B 30 2 v' (fitL zs).length (flat (fitL zs)) ∧ Below w.heap.size w w' := by
  by_cases hl : zs.length ≤ 16
  · refine (fit_any d v B zs w h hl).mono ?_
    rintro e w' ⟨rfl, hb⟩
    exact ⟨v, by simp [fitD, fitE, hl], by simp only [fitL, hl, if_true]; exact own_below h hb, hb⟩
  · refine (fit_full d v B zs w h (by omega)).mono ?_
    rintro e w' ⟨rfl, hb⟩
    exact ⟨.slice none 0 0, by simp [fitD, fitE, hl], by simp only [fitL, hl, if_false]; exact World.ownsRow_nil _ _ _ _, hb⟩

/-- What mix has gathered behind some pairs: the default's level, and the row. -/
def stM (m : Int → Int → Int) (pre : List (Int × Int × Int)) : Int × List (Int × Int) :=
  pre.foldl (fun s x => if (x.1 == 0) = true then (m x.2.1 x.2.2, s.2) else (s.1, s.2 ++ [(x.1, m x.2.1 x.2.2)])) (0, [])
theorem stM_snoc (m : Int → Int → Int) (pre : List (Int × Int × Int)) (x : Int × Int × Int) : stM m (pre ++ [x]) = if (x.1 == 0) = true then (m x.2.1 x.2.2, (stM m pre).2) else ((stM m pre).1, (stM m pre).2 ++ [(x.1, m x.2.1 x.2.2)]) := by
  unfold stM; rw [List.foldl_append]; rfl
theorem stM_len (m : Int → Int → Int) (pre : List (Int × Int × Int)) : (stM m pre).2.length ≤ pre.length := by
  suffices h : ∀ (pre : List (Int × Int × Int)) (s : Int × List (Int × Int)), (pre.foldl (fun s x => if (x.1 == 0) = true then (m x.2.1 x.2.2, s.2) else (s.1, s.2 ++ [(x.1, m x.2.1 x.2.2)])) s).2.length ≤ s.2.length + pre.length by
    have := h pre (0, []); simpa [stM] using this
  intro pre
  induction pre with
  | nil => intro s; simp
  | cons x pre ih =>
    intro s
    rw [List.foldl_cons]
    refine Nat.le_trans (ih _) ?_
    split <;> simp <;> omega
theorem prs_len (da db : Int) (f : Nat) : ∀ (xs ys : List (Int × Int)), (prs da db f xs ys).length ≤ f := by
  induction f with
  | zero => intro xs ys; simp [prs]
  | succ f ih =>
    intro xs ys
    unfold prs
    split
    · simp
    · simp only [List.length_cons]; have := ih (tkR (leastS xs ys) xs) (tkR (leastS xs ys) ys); omega
theorem allP_len (da db : Int) (xs ys : List (Int × Int)) : (allP da db xs ys).length ≤ xs.length + ys.length + 1 := by
  unfold allP; simp only [List.length_cons]; have := prs_len da db (xs.length + ys.length) xs ys; omega
theorem boxed_own {β : Type} (B : Nat) (t : TypeId) (f : β → Value) : Own (fun s W => Boxed W B t (f s)) := fun s X Y row hv hg hrow => hv.kept hg (fun e' => by
  obtain ⟨o, ho, hc⟩ := hrow B e'.symm
  rw [show X.heap[B]? = _ from hv] at ho; cases ho; cases hc)

set_option maxRecDepth 100000 in
set_option maxHeartbeats 2000000 in
theorem mixJ_any (da db : Int) (p q : Option Addr) (cx cy : Nat) (xs ys : List (Int × Int)) (w : World) (hmx : xs.length + ys.length ≤ 1000000) (hcx : xs.length ≤ cx) (hcy : ys.length ≤ cy)
    (hx : CatsAt w p xs) (hy : CatsAt w q ys) :
    Calls Tryd.prog 60 #[.agg #[.int .i64 da, .slice p xs.length cx], .agg #[.int .i64 db, .slice q ys.length cy], .func (.func 61) #[] #[]] w fun e w' => ∃ v, e = .returned (.tuple #[.agg #[.int .i64 (fitD (stM mx (allP da db xs ys)).1 (shortS (stM mx (allP da db xs ys)).1 (stM mx (allP da db xs ys)).2)), v], .int .i64 (fitE (shortS (stM mx (allP da db xs ys)).1 (stM mx (allP da db xs ys)).2))]) ∧ Rw w.heap.size w' v (fitL (shortS (stM mx (allP da db xs ys)).1 (stM mx (allP da db xs ys)).2)) ∧ Below w.heap.size w w' := by
  have mx' : xs.length ≤ maxLen := by unfold maxLen; omega
  have my' : ys.length ≤ maxLen := by unfold maxLen; omega
  obtain ⟨i0, hi, hz0, hz1, hz2⟩ := info_parts info30
  refine (callsIn_wide (n := 5)).1 ?_
  have h60 : Fence.wide.fn 60 := trivial
  have h63 : Fence.wide.fn 63 := trivial
  have h76 : Fence.wide.fn 76 := trivial
  have hmf : Fence.wide.fn 61 := trivial
  have h55 : Fence.wide.fn 55 := trivial
  have h56 : Fence.wide.fn 56 := trivial
  have hro : Fence.wide.round = none := rfl
  refine callsIn_of_wp_marks Tryd.func60 rfl h60 ?_ hro
  simp only [Tryd.ntmps60, List.size_toArray, List.length_cons, List.length_nil, Nat.reduceAdd, Nat.reduceSub, Array.replicate_succ, Array.replicate_zero, List.push_toArray, List.append_toArray, List.nil_append, List.cons_append]
  gi_wp2_with (gi_at_call 63; refine (callsIn_wide.2 (pairs_any _ _ da db p q xs.length ys.length cx cy _ rfl rfl)).mono ?_; rintro e w' ⟨rfl, rfl⟩)
  obtain ⟨W0, hW0⟩ : ∃ W0, ((((((((w.alloc (.cells #[.int .i64 da, .slice p xs.length cx] 24)).alloc (.cells #[.int .i64 db, .slice q ys.length cy] 24)).alloc (.cells #[.func (.func 61) #[] #[]] 50)).alloc (.cells #[.int .i64 0, .slice none 0 0] 24)).alloc (.cells #[.int .i64 0] 3)).alloc (.cells #[.slice none 0 0] 22)).alloc (.cells #[.int .i64 da, .slice p xs.length cx] 24)).alloc (.cells #[.int .i64 db, .slice q ys.length cy] 24)) = W0 := ⟨_, rfl⟩
  have hB0 : Below w.heap.size w W0 := by rw [← hW0]; go_grown
  have hsz : W0.heap.size = w.heap.size + 8 := by rw [← hW0]; simp
  have f0 : W0.cell? ⟨w.heap.size + 2, 0, none⟩ = some (.func (.func 61) #[] #[]) := by rw [← hW0]; simp [go_sem]
  have r0 : W0.cell? ⟨w.heap.size + 3, 0, none⟩ = some (.int .i64 0) := by rw [← hW0]; simp [go_sem]
  have r1 : W0.cell? ⟨w.heap.size + 3, 1, none⟩ = some (.slice none 0 0) := by rw [← hW0]; simp [go_sem]
  have rf0 : W0.frozen? ⟨w.heap.size + 3, 0, none⟩ = false := by rw [← hW0]; simp [go_sem]
  have rf1 : W0.frozen? ⟨w.heap.size + 3, 1, none⟩ = false := by rw [← hW0]; simp [go_sem]
  have bd : Boxed W0 (w.heap.size + 4) 3 (.int .i64 0) := by
    have e : ((((w.alloc (.cells #[.int .i64 da, .slice p xs.length cx] 24)).alloc (.cells #[.int .i64 db, .slice q ys.length cy] 24)).alloc (.cells #[.func (.func 61) #[] #[]] 50)).alloc (.cells #[.int .i64 0, .slice none 0 0] 24)).heap.size = w.heap.size + 4 := by simp
    rw [← hW0, ← e]; exact (((Boxed.new _ 3 (.int .i64 0)).alloc _).alloc _).alloc _
  have br : Boxed W0 (w.heap.size + 5) 22 (.slice none 0 0) := by
    have e : (((((w.alloc (.cells #[.int .i64 da, .slice p xs.length cx] 24)).alloc (.cells #[.int .i64 db, .slice q ys.length cy] 24)).alloc (.cells #[.func (.func 61) #[] #[]] 50)).alloc (.cells #[.int .i64 0, .slice none 0 0] 24)).alloc (.cells #[.int .i64 0] 3)).heap.size = w.heap.size + 5 := by simp
    rw [← hW0, ← e]; exact ((Boxed.new _ 22 (.slice none 0 0)).alloc _).alloc _
  have a0 : W0.cell? ⟨w.heap.size + 6, 0, none⟩ = some (.int .i64 da) := by rw [← hW0]; simp [go_sem]
  have a1 : W0.cell? ⟨w.heap.size + 6, 1, none⟩ = some (.slice p xs.length cx) := by rw [← hW0]; simp [go_sem]
  have b0 : W0.cell? ⟨w.heap.size + 7, 0, none⟩ = some (.int .i64 db) := by rw [← hW0]; simp [go_sem]
  have b1 : W0.cell? ⟨w.heap.size + 7, 1, none⟩ = some (.slice q ys.length cy) := by rw [← hW0]; simp [go_sem]
  have hx0 : CatsB w.heap.size W0 p xs := hx.under.keep hB0
  have hy0 : CatsB w.heap.size W0 q ys := hy.under.keep hB0
  rw [hW0]
  clear hW0 hx hy
  refine wpIn_rangeFunc_ownH hro (by decide) (gf := 76) (lb := #[.pointer (some ⟨w.heap.size + 6, 0, none⟩), .pointer (some ⟨w.heap.size + 7, 0, none⟩)]) rfl h76 (enters_of Tryd.func76 (by kernel_rfl) rfl)
    (pairs_stops 4 (by decide) (w.heap.size + 6) (w.heap.size + 7) w.heap.size da db p q cx cy xs ys W0 mx' my' hcx hcy (by omega) (by omega) (by omega) a0 a1 b0 b1 hx0 hy0) kpp_t (kpp_b (by omega) (by omega) (by omega)) (Below.refl _ _) (fun _ => rfl)
    (fun pre W => (∃ v, Boxed W (w.heap.size + 5) 22 v ∧ W.ownsRow (w.heap.size + 8) 30 2 v (stM mx pre).2.length (flat (stM mx pre).2) ∧ True) ∧ Boxed W (w.heap.size + 4) 3 (.int .i64 (stM mx pre).1) ∧ (W.cell? ⟨w.heap.size + 2, 0, none⟩ = some (.func (.func 61) #[] #[]) ∧ W.cell? ⟨w.heap.size + 3, 0, none⟩ = some (.int .i64 0) ∧ W.cell? ⟨w.heap.size + 3, 1, none⟩ = some (.slice none 0 0) ∧ W.frozen? ⟨w.heap.size + 3, 0, none⟩ = false ∧ W.frozen? ⟨w.heap.size + 3, 1, none⟩ = false) ∧ Below w.heap.size w W ∧ W0.heap.size ≤ W.heap.size)
    (fun c pre W => False)
    (OwnFrom.and (Own.from (holdsRow_own (w.heap.size + 8) (w.heap.size + 5) 22 30 2 _ _ _) _) (OwnFrom.and (Own.from (boxed_own (w.heap.size + 4) 3 _) _) (OwnFrom.and (Own.from (fun s A B row hs hg hr => ⟨cell_kept hs.1 hg hr, cell_kept hs.2.1 hg hr, cell_kept hs.2.2.1 hg hr, (frozen_kept hs.2.1 hg hr).trans hs.2.2.2.1, (frozen_kept hs.2.2.1 hg hr).trans hs.2.2.2.2⟩) _) (OwnFrom.and (ownFrom_below (Nat.le_refl _) (by omega)) (fun s A B row hs hg _ => Nat.le_trans hs hg.size)))))
    (fun c => fun s A B row hs hg hr => hs)
    ⟨⟨_, br, World.ownsRow_nil _ _ _ _, trivial⟩, bd, ⟨f0, r0, r1, rf0, rf1⟩, hB0, Nat.le_refl _⟩
    (fun x a' W => ∃ Bx, w.heap.size + 8 ≤ Bx ∧ W.cell? ⟨Bx, 0, none⟩ = some (.int .i64 x.1) ∧ W.cell? ⟨Bx, 1, none⟩ = some (.int .i64 x.2.1) ∧ W.cell? ⟨Bx, 2, none⟩ = some (.int .i64 x.2.2) ∧ a' = { tmps := #[.agg #[.int .i64 da, .slice p xs.length cx], .agg #[.int .i64 db, .slice q ys.length cy], .func (.func 61) #[] #[], .pointer (some ⟨w.heap.size, 0, none⟩), .pointer (some ⟨w.heap.size + 1, 0, none⟩), .pointer (some ⟨w.heap.size + 1 + 1, 0, none⟩), .pointer (some ⟨w.heap.size + 1 + 1 + 1, 0, none⟩), .int .i64 0, .pointer (some ⟨w.heap.size + 1 + 1 + 1 + 1, 0, none⟩), .pointer (some ⟨w.heap.size + 1 + 1 + 1 + 1 + 1, 0, none⟩), .pointer (some ⟨Bx, 0, none⟩), undef, .agg #[.int .i64 da, .slice p xs.length cx], .agg #[.int .i64 db, .slice q ys.length cy], .func (.func 76) #[] #[.pointer (some ⟨w.heap.size + 1 + 1 + 1 + 1 + 1 + 1, 0, none⟩), .pointer (some ⟨w.heap.size + 1 + 1 + 1 + 1 + 1 + 1 + 1, 0, none⟩)], encP x, undef, undef, undef, undef, undef, undef, undef, undef, undef, undef, undef, undef, undef, undef, undef, undef, undef, undef, undef, undef, undef, undef, undef], defers := [] })
    (fun x a' _ X Y row hs hg hr => by obtain ⟨Bx, h1, h2, h3, h4, h5⟩ := hs; exact ⟨Bx, h1, cell_kept h2 hg (fun r e => (hr r e).2), cell_kept h3 hg (fun r e => (hr r e).2), cell_kept h4 hg (fun r e => (hr r e).2), h5⟩)
    ?assign ?body ?done ?stop
  case assign =>
    rintro l pre x W K ⟨⟨v, hv, hown, _⟩, hd, ⟨g0, s0, s1, sf0, sf1⟩, hB, hz⟩ hK
    simp only [encP]
    gi_wp2
    have hbA : Below W.heap.size W (W.alloc (.cells #[.int .i64 x.1, .int .i64 x.2.1, .int .i64 x.2.2] 63)) := (Below.refl _ _).alloc (Nat.le_refl _) _
    refine hK _ _ ((KeepsOthers.alloc _ _).from _) (kpp_below hbA (by omega) (by omega) (by omega)) ⟨⟨v, hv.alloc _, hown.alloc _, trivial⟩, hd.alloc _, ⟨(hbA.cell (p := ⟨w.heap.size + 2, 0, none⟩) (by simp; omega)).trans g0, (hbA.cell (p := ⟨w.heap.size + 3, 0, none⟩) (by simp; omega)).trans s0, (hbA.cell (p := ⟨w.heap.size + 3, 1, none⟩) (by simp; omega)).trans s1, (hbA.frozen (p := ⟨w.heap.size + 3, 0, none⟩) (by simp; omega)).trans sf0, (hbA.frozen (p := ⟨w.heap.size + 3, 1, none⟩) (by simp; omega)).trans sf1⟩, hB.trans (hbA.mono hB.size), Nat.le_trans hz hbA.size⟩ ⟨W.heap.size, by omega, by simp [go_sem], by simp [go_sem], by simp [go_sem], rfl⟩
  case body =>
    rintro l pre x a' W hl hr ⟨⟨v, hv, hown, _⟩, hd, ⟨g0, s0, s1, sf0, sf1⟩, hB, hz⟩ ⟨Bx, hBx, c0, c1, c2, rfl⟩ hlt
    have hln := stM_len mx pre
    have hsn := stM_snoc mx pre x
    by_cases hc : (x.1 == 0) = true
    · rw [if_pos hc] at hsn
      have HSN : Hid (stM mx (pre ++ [x]) = (mx x.2.1 x.2.2, (stM mx pre).2)) := hsn
      have e4 : w.heap.size + 1 + 1 + 1 + 1 = w.heap.size + 4 := rfl
      have dc := hd.cell
      have df := hd.frozen
      clear hsn
      gi_wp2_with (gi_at_call 61; refine (CallsIn.inRound l (callsIn_wide.2 (max1_any x.2.1 x.2.2 _))).mono ?_; rintro e w' ⟨rfl, hw'⟩; rw [hw']; clear hw' w')
      have hbS : Below (w.heap.size + 4) W (W.setCell ⟨w.heap.size + 4, 0, none⟩ (.int .i64 (mx x.2.1 x.2.2))) := (Below.refl _ _).setCell (p := ⟨w.heap.size + 4, 0, none⟩) (Nat.le_refl _) _
      refine ⟨(KeepsOthers.setCell _ _ _).from _, ⟨hbS.mono (by omega), Below.heap_setCell W _ _ _ (by simp), Below.heap_setCell W _ _ _ (by simp)⟩, ⟨v, hv.kept (grownBy_setCell' W (w.heap.size + 4) _) (by simp), ?_, trivial⟩, ?_, ⟨(hbS.cell (p := ⟨w.heap.size + 2, 0, none⟩) (by simp)).trans g0, (hbS.cell (p := ⟨w.heap.size + 3, 0, none⟩) (by simp)).trans s0, (hbS.cell (p := ⟨w.heap.size + 3, 1, none⟩) (by simp)).trans s1, (hbS.frozen (p := ⟨w.heap.size + 3, 0, none⟩) (by simp)).trans sf0, (hbS.frozen (p := ⟨w.heap.size + 3, 1, none⟩) (by simp)).trans sf1⟩, hB.trans (hbS.mono (by omega)), by simpa using hz⟩
      · rw [HSN.out]; exact hown.kept (grownBy_setCell' W (w.heap.size + 4) _) (.inr (hd.not_row (by decide) hown).symm)
      · rw [HSN.out]; exact hd.set _
    · rw [if_neg hc] at hsn
      have hc' : (x.1 == 0) = false := by simpa using hc
      have HSN : Hid (stM mx (pre ++ [x]) = ((stM mx pre).1, (stM mx pre).2 ++ [(x.1, mx x.2.1 x.2.2)])) := hsn
      clear hsn
      have rc := hv.cell
      have rfz := hv.frozen
      have hownA := hown.alloc (.cells #[.int .i64 x.1, .int .i64 (mx x.2.1 x.2.2)] 30)
      have hnews : Hid (∀ j u, [Value.int .i64 x.1, Value.int .i64 (mx x.2.1 x.2.2)][j]? = some u → (W.alloc (.cells #[.int .i64 x.1, .int .i64 (mx x.2.1 x.2.2)] 30)).cell? ((⟨W.heap.size, 0, none⟩ : Addr).add j) = some u) := cell_two_new W _ _ 30
      have hone : Hid (∀ u ∈ [Value.int .i64 x.1, Value.int .i64 (mx x.2.1 x.2.2)], u.oneCell' = true) := fun x hx => by simp at hx; rcases hx with rfl | rfl <;> rfl
      have hlen : (stM mx pre).2.length + 1 ≤ maxLen := by unfold maxLen; omega
      have hlen16 : ((stM mx pre).2.length + 1) * 16 ≤ 140737488355328 := by omega
      gi_wp2_with (first
        | (gi_at_call 61; refine (CallsIn.inRound l (callsIn_wide.2 (max1_any x.2.1 x.2.2 _))).mono ?_; rintro e w' ⟨rfl, hw'⟩; rw [hw']; clear hw' w')
        | (gi_at_builtin; refine wpListIn_append_own _ rfl _ _ 22 rfl (w.heap.size + 8) 30 i0 (.agg #[.int .i64 0, .int .i64 0]) 2 16 Tryd.underlying22 hi hz0 hz1 hz2 rfl (by decide) _ _ _ rfl hownA ⟨W.heap.size, 0, none⟩ 1 1 [.int .i64 x.1, .int .i64 (mx x.2.1 x.2.2)] rfl rfl hnews.out hone.out hlen hlen16 (by simp; omega) ?_; intro v' w3 hown' hgrow3 hnil3; obtain ⟨g', cap', rfl⟩ := ownsRow_succ hown'; have hb3 : Below (w.heap.size + 8) W w3 := Below.grown ((Below.refl _ W).alloc (by omega) _) hgrow3 (by simp; omega) (fun j hj => (hownA.lt _ hj).1); have hv3 : Boxed w3 (w.heap.size + 5) 22 v := (hb3.block _ (by omega)).trans hv; have rc3 := hv3.cell; have rfz3 := hv3.frozen))
      have hd3 : Boxed w3 (w.heap.size + 4) 3 (.int .i64 (stM mx pre).1) := (hb3.block _ (by omega)).trans hd
      have hap := hv.appended (by decide) (Joins.ownsRow_le hown (show w.heap.size ≤ w.heap.size + 8 by omega)) (by omega) (by omega) (Joins.ownsRow_le hown' (show w.heap.size ≤ w.heap.size + 8 by omega)) hgrow3
      have hbS : Below (w.heap.size + 5) w3 (w3.setCell ⟨w.heap.size + 5, 0, none⟩ (.slice (some ⟨g', 0, none⟩) ((stM mx pre).2.length + 1) cap')) := (Below.refl _ _).setCell (p := ⟨w.heap.size + 5, 0, none⟩) (Nat.le_refl _) _
      have hbW : Below (w.heap.size + 5) W _ := (hb3.mono (by omega)).trans hbS
      refine ⟨hap.2.2.2.1.from _, ⟨hap.2.2.2.2, (Below.heap_setCell w3 _ _ _ (by simp)).trans (hb3.block _ (by omega)), (Below.heap_setCell w3 _ _ _ (by simp)).trans (hb3.block _ (by omega))⟩, ⟨_, hap.2.1, ?_, trivial⟩, ?_, ⟨(hbW.cell (p := ⟨w.heap.size + 2, 0, none⟩) (by simp)).trans g0, (hbW.cell (p := ⟨w.heap.size + 3, 0, none⟩) (by simp)).trans s0, (hbW.cell (p := ⟨w.heap.size + 3, 1, none⟩) (by simp)).trans s1, (hbW.frozen (p := ⟨w.heap.size + 3, 0, none⟩) (by simp)).trans sf0, (hbW.frozen (p := ⟨w.heap.size + 3, 1, none⟩) (by simp)).trans sf1⟩, hB.trans hap.2.2.2.2, Nat.le_trans hz (by have := hb3.size; simp; omega)⟩
      · rw [HSN.out, List.length_append, flat_append]; exact hown'.kept (grownBy_setCell' w3 (w.heap.size + 5) _) (.inr (hv3.not_row (by decide) hown').symm)
      · rw [HSN.out]; exact hd3.kept (grownBy_setCell' w3 (w.heap.size + 5) _) (by simp)
  case done =>
    rintro D zs W hD rfl ⟨⟨v, hv, hown, _⟩, hd, ⟨g0, s0, s1, sf0, sf1⟩, hB, hz⟩ hK
    have hln := stM_len mx (allP da db xs ys)
    have hla := allP_len da db xs ys
    obtain ⟨pv, cv, rfl, hcv, hlv⟩ := own_out hown
    have dc := hd.cell
    have rc := hv.cell
    have hS := short_any (stM mx (allP da db xs ys)).1 pv cv (stM mx (allP da db xs ys)).2 W (by omega) hcv
    have hDl : D < W.heap.size := (Array.getElem?_eq_some_iff.1 hK).1
    obtain ⟨dd, hdd⟩ : ∃ dd, dd = (stM mx (allP da db xs ys)).1 := ⟨_, rfl⟩
    obtain ⟨rr, hrr⟩ : ∃ rr, rr = (stM mx (allP da db xs ys)).2 := ⟨_, rfl⟩
    rw [← hdd] at hS dc
    rw [← hrr] at hS rc
    have HQ : Hid (dd = (stM mx (allP da db xs ys)).1 ∧ rr = (stM mx (allP da db xs ys)).2) := ⟨hdd, hrr⟩
    clear hdd hrr hcv hown hlv
    gi_wp2_with (first
      | (gi_at_call 56; refine (callsIn_wide.2 hS).mono ?_; rintro e w5 ⟨v5, rfl, hown5, hb5⟩; have hF := Fit_any dd _ _ _ _ hown5; obtain ⟨p5, c5, rfl, hc5, hl5⟩ := own_out hown5)
      | (gi_at_call 55; refine (callsIn_wide.2 hF).mono ?_; rintro e w6 ⟨v6, rfl, hown6, hb6⟩; obtain ⟨p6, c6, rfl, hc6, hl6⟩ := own_out hown6; have hb7 : Below W.heap.size W w6 := hb5.trans (hb6.mono hb5.size); have y0 := (hb7.cell (p := ⟨w.heap.size + 3, 0, none⟩) (by simp; omega)).trans s0; have y1 := (hb7.cell (p := ⟨w.heap.size + 3, 1, none⟩) (by simp; omega)).trans s1; have yf0 := (hb7.frozen (p := ⟨w.heap.size + 3, 0, none⟩) (by simp; omega)).trans sf0; have yf1 := (hb7.frozen (p := ⟨w.heap.size + 3, 1, none⟩) (by simp; omega)).trans sf1))
    rw [← HQ.out.1, ← HQ.out.2]
    obtain ⟨ff, hff⟩ : ∃ ff, ff = fitL (shortS dd rr) := ⟨_, rfl⟩
    obtain ⟨fd, hfd⟩ : ∃ fd, fd = fitD dd (shortS dd rr) := ⟨_, rfl⟩
    rw [← hff, ← hfd]
    rw [← hff] at hown6
    clear hff hfd hF hc5 hc6 hl6 hl5 HQ
    have hK6 : w6.heap[D]? = some (.deferred (some [])) := (hb7.block D hDl).trans hK
    obtain ⟨W7, hW7⟩ : ∃ W7, W7 = (w6.setCell ⟨w.heap.size + 1 + 1 + 1, 0, none⟩ (.int .i64 fd)).setCell ⟨w.heap.size + 1 + 1 + 1, 1, none⟩ (.slice p6 ff.length c6) := ⟨_, rfl⟩
    have hK7 : W7.heap[D]? = some (.deferred (some [])) := by
      rw [hW7]
      exact (KeepsOthers.setCell _ _ _).same D _ ((KeepsOthers.setCell _ _ _).same D _ hK6 rfl) rfl
    have z0 : W7.cell? ⟨w.heap.size + 3, 0, none⟩ = some (.int .i64 fd) := by rw [hW7]; simp [go_sem, y0]
    have z1 : W7.cell? ⟨w.heap.size + 3, 1, none⟩ = some (.slice p6 ff.length c6) := by rw [hW7]; exact World.cell?_setCell_same' _ _ _ (by simp [go_sem, y1])
    have hown7 : W7.ownsRow W.heap.size 30 2 (.slice p6 ff.length c6) ff.length (flat ff) := by
      rw [hW7]; exact ownsRow_setCell_below (ownsRow_setCell_below hown6 (by simp; omega) _) (by simp; omega) _
    have hB7 : Below w.heap.size w W7 := by
      rw [hW7]; exact ((hB.trans (hb7.mono hB.size)).setCell (p := ⟨w.heap.size + 1 + 1 + 1, 0, none⟩) (by simp; omega) _).setCell (p := ⟨w.heap.size + 1 + 1 + 1, 1, none⟩) (by simp; omega) _
    rw [← hW7]
    clear hW7
    have k0 := cell_kept z0 (grownBy_putObj' W7 D (.deferred none)) (fun r e => by cases e; exact ⟨_, hK7, rfl⟩)
    have k1 := cell_kept z1 (grownBy_putObj' W7 D (.deferred none)) (fun r e => by cases e; exact ⟨_, hK7, rfl⟩)
    refine ⟨by simp, .inl ⟨_, _, rfl, run_takeDeferred hK7, ?_⟩⟩
    refine ⟨.tuple #[.agg #[.int .i64 fd, .slice p6 ff.length c6], .int .i64 (fitE (shortS dd rr))], ?_, ⟨_, rfl, Rw.own (ownsRow_putObj hown7 _ hK7 rfl) hB.size, hB7.trans (belowK_b (w := w) (Nat.le_refl _) W7 D _ _ (by omega) hK7 rfl rfl)⟩⟩
    simp [results, Tryd.results60, go_sem, k0, k1]
  case stop =>
    rintro D c pre W hD hpre hf hK
    exact hf.elim

set_option maxRecDepth 100000 in
set_option maxHeartbeats 2000000 in
theorem mixM_any (da db : Int) (p q : Option Addr) (cx cy : Nat) (xs ys : List (Int × Int)) (w : World) (hmx : xs.length + ys.length ≤ 1000000) (hcx : xs.length ≤ cx) (hcy : ys.length ≤ cy)
    (hx : CatsAt w p xs) (hy : CatsAt w q ys) :
    Calls Tryd.prog 60 #[.agg #[.int .i64 da, .slice p xs.length cx], .agg #[.int .i64 db, .slice q ys.length cy], .func (.func 62) #[] #[]] w fun e w' => ∃ v, e = .returned (.tuple #[.agg #[.int .i64 (fitD (stM mn (allP da db xs ys)).1 (shortS (stM mn (allP da db xs ys)).1 (stM mn (allP da db xs ys)).2)), v], .int .i64 (fitE (shortS (stM mn (allP da db xs ys)).1 (stM mn (allP da db xs ys)).2))]) ∧ Rw w.heap.size w' v (fitL (shortS (stM mn (allP da db xs ys)).1 (stM mn (allP da db xs ys)).2)) ∧ Below w.heap.size w w' := by
  have mx' : xs.length ≤ maxLen := by unfold maxLen; omega
  have my' : ys.length ≤ maxLen := by unfold maxLen; omega
  obtain ⟨i0, hi, hz0, hz1, hz2⟩ := info_parts info30
  refine (callsIn_wide (n := 5)).1 ?_
  have h60 : Fence.wide.fn 60 := trivial
  have h63 : Fence.wide.fn 63 := trivial
  have h76 : Fence.wide.fn 76 := trivial
  have hmf : Fence.wide.fn 62 := trivial
  have h55 : Fence.wide.fn 55 := trivial
  have h56 : Fence.wide.fn 56 := trivial
  have hro : Fence.wide.round = none := rfl
  refine callsIn_of_wp_marks Tryd.func60 rfl h60 ?_ hro
  simp only [Tryd.ntmps60, List.size_toArray, List.length_cons, List.length_nil, Nat.reduceAdd, Nat.reduceSub, Array.replicate_succ, Array.replicate_zero, List.push_toArray, List.append_toArray, List.nil_append, List.cons_append]
  gi_wp2_with (gi_at_call 63; refine (callsIn_wide.2 (pairs_any _ _ da db p q xs.length ys.length cx cy _ rfl rfl)).mono ?_; rintro e w' ⟨rfl, rfl⟩)
  obtain ⟨W0, hW0⟩ : ∃ W0, ((((((((w.alloc (.cells #[.int .i64 da, .slice p xs.length cx] 24)).alloc (.cells #[.int .i64 db, .slice q ys.length cy] 24)).alloc (.cells #[.func (.func 62) #[] #[]] 50)).alloc (.cells #[.int .i64 0, .slice none 0 0] 24)).alloc (.cells #[.int .i64 0] 3)).alloc (.cells #[.slice none 0 0] 22)).alloc (.cells #[.int .i64 da, .slice p xs.length cx] 24)).alloc (.cells #[.int .i64 db, .slice q ys.length cy] 24)) = W0 := ⟨_, rfl⟩
  have hB0 : Below w.heap.size w W0 := by rw [← hW0]; go_grown
  have hsz : W0.heap.size = w.heap.size + 8 := by rw [← hW0]; simp
  have f0 : W0.cell? ⟨w.heap.size + 2, 0, none⟩ = some (.func (.func 62) #[] #[]) := by rw [← hW0]; simp [go_sem]
  have r0 : W0.cell? ⟨w.heap.size + 3, 0, none⟩ = some (.int .i64 0) := by rw [← hW0]; simp [go_sem]
  have r1 : W0.cell? ⟨w.heap.size + 3, 1, none⟩ = some (.slice none 0 0) := by rw [← hW0]; simp [go_sem]
  have rf0 : W0.frozen? ⟨w.heap.size + 3, 0, none⟩ = false := by rw [← hW0]; simp [go_sem]
  have rf1 : W0.frozen? ⟨w.heap.size + 3, 1, none⟩ = false := by rw [← hW0]; simp [go_sem]
  have bd : Boxed W0 (w.heap.size + 4) 3 (.int .i64 0) := by
    have e : ((((w.alloc (.cells #[.int .i64 da, .slice p xs.length cx] 24)).alloc (.cells #[.int .i64 db, .slice q ys.length cy] 24)).alloc (.cells #[.func (.func 62) #[] #[]] 50)).alloc (.cells #[.int .i64 0, .slice none 0 0] 24)).heap.size = w.heap.size + 4 := by simp
    rw [← hW0, ← e]; exact (((Boxed.new _ 3 (.int .i64 0)).alloc _).alloc _).alloc _
  have br : Boxed W0 (w.heap.size + 5) 22 (.slice none 0 0) := by
    have e : (((((w.alloc (.cells #[.int .i64 da, .slice p xs.length cx] 24)).alloc (.cells #[.int .i64 db, .slice q ys.length cy] 24)).alloc (.cells #[.func (.func 62) #[] #[]] 50)).alloc (.cells #[.int .i64 0, .slice none 0 0] 24)).alloc (.cells #[.int .i64 0] 3)).heap.size = w.heap.size + 5 := by simp
    rw [← hW0, ← e]; exact ((Boxed.new _ 22 (.slice none 0 0)).alloc _).alloc _
  have a0 : W0.cell? ⟨w.heap.size + 6, 0, none⟩ = some (.int .i64 da) := by rw [← hW0]; simp [go_sem]
  have a1 : W0.cell? ⟨w.heap.size + 6, 1, none⟩ = some (.slice p xs.length cx) := by rw [← hW0]; simp [go_sem]
  have b0 : W0.cell? ⟨w.heap.size + 7, 0, none⟩ = some (.int .i64 db) := by rw [← hW0]; simp [go_sem]
  have b1 : W0.cell? ⟨w.heap.size + 7, 1, none⟩ = some (.slice q ys.length cy) := by rw [← hW0]; simp [go_sem]
  have hx0 : CatsB w.heap.size W0 p xs := hx.under.keep hB0
  have hy0 : CatsB w.heap.size W0 q ys := hy.under.keep hB0
  rw [hW0]
  clear hW0 hx hy
  refine wpIn_rangeFunc_ownH hro (by decide) (gf := 76) (lb := #[.pointer (some ⟨w.heap.size + 6, 0, none⟩), .pointer (some ⟨w.heap.size + 7, 0, none⟩)]) rfl h76 (enters_of Tryd.func76 (by kernel_rfl) rfl)
    (pairs_stops 4 (by decide) (w.heap.size + 6) (w.heap.size + 7) w.heap.size da db p q cx cy xs ys W0 mx' my' hcx hcy (by omega) (by omega) (by omega) a0 a1 b0 b1 hx0 hy0) kpp_t (kpp_b (by omega) (by omega) (by omega)) (Below.refl _ _) (fun _ => rfl)
    (fun pre W => (∃ v, Boxed W (w.heap.size + 5) 22 v ∧ W.ownsRow (w.heap.size + 8) 30 2 v (stM mn pre).2.length (flat (stM mn pre).2) ∧ True) ∧ Boxed W (w.heap.size + 4) 3 (.int .i64 (stM mn pre).1) ∧ (W.cell? ⟨w.heap.size + 2, 0, none⟩ = some (.func (.func 62) #[] #[]) ∧ W.cell? ⟨w.heap.size + 3, 0, none⟩ = some (.int .i64 0) ∧ W.cell? ⟨w.heap.size + 3, 1, none⟩ = some (.slice none 0 0) ∧ W.frozen? ⟨w.heap.size + 3, 0, none⟩ = false ∧ W.frozen? ⟨w.heap.size + 3, 1, none⟩ = false) ∧ Below w.heap.size w W ∧ W0.heap.size ≤ W.heap.size)
    (fun c pre W => False)
    (OwnFrom.and (Own.from (holdsRow_own (w.heap.size + 8) (w.heap.size + 5) 22 30 2 _ _ _) _) (OwnFrom.and (Own.from (boxed_own (w.heap.size + 4) 3 _) _) (OwnFrom.and (Own.from (fun s A B row hs hg hr => ⟨cell_kept hs.1 hg hr, cell_kept hs.2.1 hg hr, cell_kept hs.2.2.1 hg hr, (frozen_kept hs.2.1 hg hr).trans hs.2.2.2.1, (frozen_kept hs.2.2.1 hg hr).trans hs.2.2.2.2⟩) _) (OwnFrom.and (ownFrom_below (Nat.le_refl _) (by omega)) (fun s A B row hs hg _ => Nat.le_trans hs hg.size)))))
    (fun c => fun s A B row hs hg hr => hs)
    ⟨⟨_, br, World.ownsRow_nil _ _ _ _, trivial⟩, bd, ⟨f0, r0, r1, rf0, rf1⟩, hB0, Nat.le_refl _⟩
    (fun x a' W => ∃ Bx, w.heap.size + 8 ≤ Bx ∧ W.cell? ⟨Bx, 0, none⟩ = some (.int .i64 x.1) ∧ W.cell? ⟨Bx, 1, none⟩ = some (.int .i64 x.2.1) ∧ W.cell? ⟨Bx, 2, none⟩ = some (.int .i64 x.2.2) ∧ a' = { tmps := #[.agg #[.int .i64 da, .slice p xs.length cx], .agg #[.int .i64 db, .slice q ys.length cy], .func (.func 62) #[] #[], .pointer (some ⟨w.heap.size, 0, none⟩), .pointer (some ⟨w.heap.size + 1, 0, none⟩), .pointer (some ⟨w.heap.size + 1 + 1, 0, none⟩), .pointer (some ⟨w.heap.size + 1 + 1 + 1, 0, none⟩), .int .i64 0, .pointer (some ⟨w.heap.size + 1 + 1 + 1 + 1, 0, none⟩), .pointer (some ⟨w.heap.size + 1 + 1 + 1 + 1 + 1, 0, none⟩), .pointer (some ⟨Bx, 0, none⟩), undef, .agg #[.int .i64 da, .slice p xs.length cx], .agg #[.int .i64 db, .slice q ys.length cy], .func (.func 76) #[] #[.pointer (some ⟨w.heap.size + 1 + 1 + 1 + 1 + 1 + 1, 0, none⟩), .pointer (some ⟨w.heap.size + 1 + 1 + 1 + 1 + 1 + 1 + 1, 0, none⟩)], encP x, undef, undef, undef, undef, undef, undef, undef, undef, undef, undef, undef, undef, undef, undef, undef, undef, undef, undef, undef, undef, undef, undef, undef], defers := [] })
    (fun x a' _ X Y row hs hg hr => by obtain ⟨Bx, h1, h2, h3, h4, h5⟩ := hs; exact ⟨Bx, h1, cell_kept h2 hg (fun r e => (hr r e).2), cell_kept h3 hg (fun r e => (hr r e).2), cell_kept h4 hg (fun r e => (hr r e).2), h5⟩)
    ?assign ?body ?done ?stop
  case assign =>
    rintro l pre x W K ⟨⟨v, hv, hown, _⟩, hd, ⟨g0, s0, s1, sf0, sf1⟩, hB, hz⟩ hK
    simp only [encP]
    gi_wp2
    have hbA : Below W.heap.size W (W.alloc (.cells #[.int .i64 x.1, .int .i64 x.2.1, .int .i64 x.2.2] 63)) := (Below.refl _ _).alloc (Nat.le_refl _) _
    refine hK _ _ ((KeepsOthers.alloc _ _).from _) (kpp_below hbA (by omega) (by omega) (by omega)) ⟨⟨v, hv.alloc _, hown.alloc _, trivial⟩, hd.alloc _, ⟨(hbA.cell (p := ⟨w.heap.size + 2, 0, none⟩) (by simp; omega)).trans g0, (hbA.cell (p := ⟨w.heap.size + 3, 0, none⟩) (by simp; omega)).trans s0, (hbA.cell (p := ⟨w.heap.size + 3, 1, none⟩) (by simp; omega)).trans s1, (hbA.frozen (p := ⟨w.heap.size + 3, 0, none⟩) (by simp; omega)).trans sf0, (hbA.frozen (p := ⟨w.heap.size + 3, 1, none⟩) (by simp; omega)).trans sf1⟩, hB.trans (hbA.mono hB.size), Nat.le_trans hz hbA.size⟩ ⟨W.heap.size, by omega, by simp [go_sem], by simp [go_sem], by simp [go_sem], rfl⟩
  case body =>
    rintro l pre x a' W hl hr ⟨⟨v, hv, hown, _⟩, hd, ⟨g0, s0, s1, sf0, sf1⟩, hB, hz⟩ ⟨Bx, hBx, c0, c1, c2, rfl⟩ hlt
    have hln := stM_len mn pre
    have hsn := stM_snoc mn pre x
    by_cases hc : (x.1 == 0) = true
    · rw [if_pos hc] at hsn
      have HSN : Hid (stM mn (pre ++ [x]) = (mn x.2.1 x.2.2, (stM mn pre).2)) := hsn
      have e4 : w.heap.size + 1 + 1 + 1 + 1 = w.heap.size + 4 := rfl
      have dc := hd.cell
      have df := hd.frozen
      clear hsn
      gi_wp2_with (gi_at_call 62; refine (CallsIn.inRound l (callsIn_wide.2 (min1_any x.2.1 x.2.2 _))).mono ?_; rintro e w' ⟨rfl, hw'⟩; rw [hw']; clear hw' w')
      have hbS : Below (w.heap.size + 4) W (W.setCell ⟨w.heap.size + 4, 0, none⟩ (.int .i64 (mn x.2.1 x.2.2))) := (Below.refl _ _).setCell (p := ⟨w.heap.size + 4, 0, none⟩) (Nat.le_refl _) _
      refine ⟨(KeepsOthers.setCell _ _ _).from _, ⟨hbS.mono (by omega), Below.heap_setCell W _ _ _ (by simp), Below.heap_setCell W _ _ _ (by simp)⟩, ⟨v, hv.kept (grownBy_setCell' W (w.heap.size + 4) _) (by simp), ?_, trivial⟩, ?_, ⟨(hbS.cell (p := ⟨w.heap.size + 2, 0, none⟩) (by simp)).trans g0, (hbS.cell (p := ⟨w.heap.size + 3, 0, none⟩) (by simp)).trans s0, (hbS.cell (p := ⟨w.heap.size + 3, 1, none⟩) (by simp)).trans s1, (hbS.frozen (p := ⟨w.heap.size + 3, 0, none⟩) (by simp)).trans sf0, (hbS.frozen (p := ⟨w.heap.size + 3, 1, none⟩) (by simp)).trans sf1⟩, hB.trans (hbS.mono (by omega)), by simpa using hz⟩
      · rw [HSN.out]; exact hown.kept (grownBy_setCell' W (w.heap.size + 4) _) (.inr (hd.not_row (by decide) hown).symm)
      · rw [HSN.out]; exact hd.set _
    · rw [if_neg hc] at hsn
      have hc' : (x.1 == 0) = false := by simpa using hc
      have HSN : Hid (stM mn (pre ++ [x]) = ((stM mn pre).1, (stM mn pre).2 ++ [(x.1, mn x.2.1 x.2.2)])) := hsn
      clear hsn
      have rc := hv.cell
      have rfz := hv.frozen
      have hownA := hown.alloc (.cells #[.int .i64 x.1, .int .i64 (mn x.2.1 x.2.2)] 30)
      have hnews : Hid (∀ j u, [Value.int .i64 x.1, Value.int .i64 (mn x.2.1 x.2.2)][j]? = some u → (W.alloc (.cells #[.int .i64 x.1, .int .i64 (mn x.2.1 x.2.2)] 30)).cell? ((⟨W.heap.size, 0, none⟩ : Addr).add j) = some u) := cell_two_new W _ _ 30
      have hone : Hid (∀ u ∈ [Value.int .i64 x.1, Value.int .i64 (mn x.2.1 x.2.2)], u.oneCell' = true) := fun x hx => by simp at hx; rcases hx with rfl | rfl <;> rfl
      have hlen : (stM mn pre).2.length + 1 ≤ maxLen := by unfold maxLen; omega
      have hlen16 : ((stM mn pre).2.length + 1) * 16 ≤ 140737488355328 := by omega
      gi_wp2_with (first
        | (gi_at_call 62; refine (CallsIn.inRound l (callsIn_wide.2 (min1_any x.2.1 x.2.2 _))).mono ?_; rintro e w' ⟨rfl, hw'⟩; rw [hw']; clear hw' w')
        | (gi_at_builtin; refine wpListIn_append_own _ rfl _ _ 22 rfl (w.heap.size + 8) 30 i0 (.agg #[.int .i64 0, .int .i64 0]) 2 16 Tryd.underlying22 hi hz0 hz1 hz2 rfl (by decide) _ _ _ rfl hownA ⟨W.heap.size, 0, none⟩ 1 1 [.int .i64 x.1, .int .i64 (mn x.2.1 x.2.2)] rfl rfl hnews.out hone.out hlen hlen16 (by simp; omega) ?_; intro v' w3 hown' hgrow3 hnil3; obtain ⟨g', cap', rfl⟩ := ownsRow_succ hown'; have hb3 : Below (w.heap.size + 8) W w3 := Below.grown ((Below.refl _ W).alloc (by omega) _) hgrow3 (by simp; omega) (fun j hj => (hownA.lt _ hj).1); have hv3 : Boxed w3 (w.heap.size + 5) 22 v := (hb3.block _ (by omega)).trans hv; have rc3 := hv3.cell; have rfz3 := hv3.frozen))
      have hd3 : Boxed w3 (w.heap.size + 4) 3 (.int .i64 (stM mn pre).1) := (hb3.block _ (by omega)).trans hd
      have hap := hv.appended (by decide) (Joins.ownsRow_le hown (show w.heap.size ≤ w.heap.size + 8 by omega)) (by omega) (by omega) (Joins.ownsRow_le hown' (show w.heap.size ≤ w.heap.size + 8 by omega)) hgrow3
      have hbS : Below (w.heap.size + 5) w3 (w3.setCell ⟨w.heap.size + 5, 0, none⟩ (.slice (some ⟨g', 0, none⟩) ((stM mn pre).2.length + 1) cap')) := (Below.refl _ _).setCell (p := ⟨w.heap.size + 5, 0, none⟩) (Nat.le_refl _) _
      have hbW : Below (w.heap.size + 5) W _ := (hb3.mono (by omega)).trans hbS
      refine ⟨hap.2.2.2.1.from _, ⟨hap.2.2.2.2, (Below.heap_setCell w3 _ _ _ (by simp)).trans (hb3.block _ (by omega)), (Below.heap_setCell w3 _ _ _ (by simp)).trans (hb3.block _ (by omega))⟩, ⟨_, hap.2.1, ?_, trivial⟩, ?_, ⟨(hbW.cell (p := ⟨w.heap.size + 2, 0, none⟩) (by simp)).trans g0, (hbW.cell (p := ⟨w.heap.size + 3, 0, none⟩) (by simp)).trans s0, (hbW.cell (p := ⟨w.heap.size + 3, 1, none⟩) (by simp)).trans s1, (hbW.frozen (p := ⟨w.heap.size + 3, 0, none⟩) (by simp)).trans sf0, (hbW.frozen (p := ⟨w.heap.size + 3, 1, none⟩) (by simp)).trans sf1⟩, hB.trans hap.2.2.2.2, Nat.le_trans hz (by have := hb3.size; simp; omega)⟩
      · rw [HSN.out, List.length_append, flat_append]; exact hown'.kept (grownBy_setCell' w3 (w.heap.size + 5) _) (.inr (hv3.not_row (by decide) hown').symm)
      · rw [HSN.out]; exact hd3.kept (grownBy_setCell' w3 (w.heap.size + 5) _) (by simp)
  case done =>
    rintro D zs W hD rfl ⟨⟨v, hv, hown, _⟩, hd, ⟨g0, s0, s1, sf0, sf1⟩, hB, hz⟩ hK
    have hln := stM_len mn (allP da db xs ys)
    have hla := allP_len da db xs ys
    obtain ⟨pv, cv, rfl, hcv, hlv⟩ := own_out hown
    have dc := hd.cell
    have rc := hv.cell
    have hS := short_any (stM mn (allP da db xs ys)).1 pv cv (stM mn (allP da db xs ys)).2 W (by omega) hcv
    have hDl : D < W.heap.size := (Array.getElem?_eq_some_iff.1 hK).1
    obtain ⟨dd, hdd⟩ : ∃ dd, dd = (stM mn (allP da db xs ys)).1 := ⟨_, rfl⟩
    obtain ⟨rr, hrr⟩ : ∃ rr, rr = (stM mn (allP da db xs ys)).2 := ⟨_, rfl⟩
    rw [← hdd] at hS dc
    rw [← hrr] at hS rc
    have HQ : Hid (dd = (stM mn (allP da db xs ys)).1 ∧ rr = (stM mn (allP da db xs ys)).2) := ⟨hdd, hrr⟩
    clear hdd hrr hcv hown hlv
    gi_wp2_with (first
      | (gi_at_call 56; refine (callsIn_wide.2 hS).mono ?_; rintro e w5 ⟨v5, rfl, hown5, hb5⟩; have hF := Fit_any dd _ _ _ _ hown5; obtain ⟨p5, c5, rfl, hc5, hl5⟩ := own_out hown5)
      | (gi_at_call 55; refine (callsIn_wide.2 hF).mono ?_; rintro e w6 ⟨v6, rfl, hown6, hb6⟩; obtain ⟨p6, c6, rfl, hc6, hl6⟩ := own_out hown6; have hb7 : Below W.heap.size W w6 := hb5.trans (hb6.mono hb5.size); have y0 := (hb7.cell (p := ⟨w.heap.size + 3, 0, none⟩) (by simp; omega)).trans s0; have y1 := (hb7.cell (p := ⟨w.heap.size + 3, 1, none⟩) (by simp; omega)).trans s1; have yf0 := (hb7.frozen (p := ⟨w.heap.size + 3, 0, none⟩) (by simp; omega)).trans sf0; have yf1 := (hb7.frozen (p := ⟨w.heap.size + 3, 1, none⟩) (by simp; omega)).trans sf1))
    rw [← HQ.out.1, ← HQ.out.2]
    obtain ⟨ff, hff⟩ : ∃ ff, ff = fitL (shortS dd rr) := ⟨_, rfl⟩
    obtain ⟨fd, hfd⟩ : ∃ fd, fd = fitD dd (shortS dd rr) := ⟨_, rfl⟩
    rw [← hff, ← hfd]
    rw [← hff] at hown6
    clear hff hfd hF hc5 hc6 hl6 hl5 HQ
    have hK6 : w6.heap[D]? = some (.deferred (some [])) := (hb7.block D hDl).trans hK
    obtain ⟨W7, hW7⟩ : ∃ W7, W7 = (w6.setCell ⟨w.heap.size + 1 + 1 + 1, 0, none⟩ (.int .i64 fd)).setCell ⟨w.heap.size + 1 + 1 + 1, 1, none⟩ (.slice p6 ff.length c6) := ⟨_, rfl⟩
    have hK7 : W7.heap[D]? = some (.deferred (some [])) := by
      rw [hW7]
      exact (KeepsOthers.setCell _ _ _).same D _ ((KeepsOthers.setCell _ _ _).same D _ hK6 rfl) rfl
    have z0 : W7.cell? ⟨w.heap.size + 3, 0, none⟩ = some (.int .i64 fd) := by rw [hW7]; simp [go_sem, y0]
    have z1 : W7.cell? ⟨w.heap.size + 3, 1, none⟩ = some (.slice p6 ff.length c6) := by rw [hW7]; exact World.cell?_setCell_same' _ _ _ (by simp [go_sem, y1])
    have hown7 : W7.ownsRow W.heap.size 30 2 (.slice p6 ff.length c6) ff.length (flat ff) := by
      rw [hW7]; exact ownsRow_setCell_below (ownsRow_setCell_below hown6 (by simp; omega) _) (by simp; omega) _
    have hB7 : Below w.heap.size w W7 := by
      rw [hW7]; exact ((hB.trans (hb7.mono hB.size)).setCell (p := ⟨w.heap.size + 1 + 1 + 1, 0, none⟩) (by simp; omega) _).setCell (p := ⟨w.heap.size + 1 + 1 + 1, 1, none⟩) (by simp; omega) _
    rw [← hW7]
    clear hW7
    have k0 := cell_kept z0 (grownBy_putObj' W7 D (.deferred none)) (fun r e => by cases e; exact ⟨_, hK7, rfl⟩)
    have k1 := cell_kept z1 (grownBy_putObj' W7 D (.deferred none)) (fun r e => by cases e; exact ⟨_, hK7, rfl⟩)
    refine ⟨by simp, .inl ⟨_, _, rfl, run_takeDeferred hK7, ?_⟩⟩
    refine ⟨.tuple #[.agg #[.int .i64 fd, .slice p6 ff.length c6], .int .i64 (fitE (shortS dd rr))], ?_, ⟨_, rfl, Rw.own (ownsRow_putObj hown7 _ hK7 rfl) hB.size, hB7.trans (belowK_b (w := w) (Nat.le_refl _) W7 D _ _ (by omega) hK7 rfl rfl)⟩⟩
    simp [results, Tryd.results60, go_sem, k0, k1]
  case stop =>
    rintro D c pre W hD hpre hf hK
    exact hf.elim

/-- The label that package label mixes of two. -/
def JoinD (da db : Int) (xs ys : List (Int × Int)) : Int := (stM mx (allP da db xs ys)).1
def JoinZ (da db : Int) (xs ys : List (Int × Int)) : List (Int × Int) := shortS (stM mx (allP da db xs ys)).1 (stM mx (allP da db xs ys)).2
theorem Join_any (da db : Int) (p q : Option Addr) (cx cy : Nat) (xs ys : List (Int × Int)) (w : World) (hmx : xs.length + ys.length ≤ 1000000) (hcx : xs.length ≤ cx) (hcy : ys.length ≤ cy)
    (hx : CatsAt w p xs) (hy : CatsAt w q ys) :
    Calls Tryd.prog 22 #[.agg #[.int .i64 da, .slice p xs.length cx], .agg #[.int .i64 db, .slice q ys.length cy]] w fun e w' => ∃ v, e = .returned (.tuple #[.agg #[.int .i64 (fitD (JoinD da db xs ys) (JoinZ da db xs ys)), v], .int .i64 (fitE (JoinZ da db xs ys))]) ∧ Rw w.heap.size w' v (fitL (JoinZ da db xs ys)) ∧ Below w.heap.size w w' := by
  have hW : Below w.heap.size w (((w.alloc (.cells #[.int .i64 da, .slice p xs.length cx] 24)).alloc (.cells #[.int .i64 db, .slice q ys.length cy] 24)).alloc (.cells #[.int .i64 0, .slice none 0 0] 24)) := by go_grown
  have hM : Calls Tryd.prog 60 #[.agg #[.int .i64 da, .slice p xs.length cx], .agg #[.int .i64 db, .slice q ys.length cy], .func (.func 61) #[] #[]] (((w.alloc (.cells #[.int .i64 da, .slice p xs.length cx] 24)).alloc (.cells #[.int .i64 db, .slice q ys.length cy] 24)).alloc (.cells #[.int .i64 0, .slice none 0 0] 24)) fun e w' => ∃ v, e = .returned (.tuple #[.agg #[.int .i64 (fitD (JoinD da db xs ys) (JoinZ da db xs ys)), v], .int .i64 (fitE (JoinZ da db xs ys))]) ∧ Rw (w.heap.size + 3) w' v (fitL (JoinZ da db xs ys)) ∧ Below (w.heap.size + 3) (((w.alloc (.cells #[.int .i64 da, .slice p xs.length cx] 24)).alloc (.cells #[.int .i64 db, .slice q ys.length cy] 24)).alloc (.cells #[.int .i64 0, .slice none 0 0] 24)) w' := by
    have := mixJ_any da db p q cx cy xs ys _ hmx hcx hcy (hx.below hW) (hy.below hW)
    have e : (((w.alloc (.cells #[.int .i64 da, .slice p xs.length cx] 24)).alloc (.cells #[.int .i64 db, .slice q ys.length cy] 24)).alloc (.cells #[.int .i64 0, .slice none 0 0] 24)).heap.size = w.heap.size + 3 := by simp
    rw [e] at this
    exact this
  generalize fitD (JoinD da db xs ys) (JoinZ da db xs ys) = fd at *
  generalize fitE (JoinZ da db xs ys) = fe at *
  generalize fitL (JoinZ da db xs ys) = ff at *
  go_enter Tryd.func22, Tryd.ntmps22
  go_wp2_with (go_at_call 60; refine hM.mono ?_; rintro e w5 ⟨v, rfl, hR5, hb5⟩; have s0 : w5.cell? ⟨w.heap.size + 1 + 1, 0, none⟩ = some (.int .i64 0) := (hb5.cell (p := ⟨w.heap.size + 1 + 1, 0, none⟩) (by simp)).trans (by simp [go_sem]); have s1 : w5.cell? ⟨w.heap.size + 1 + 1, 1, none⟩ = some (.slice none 0 0) := (hb5.cell (p := ⟨w.heap.size + 1 + 1, 1, none⟩) (by simp)).trans (by simp [go_sem]); have sf : ∀ o, w5.frozen? ⟨w.heap.size + 1 + 1, o, none⟩ = false := (fun o => (hb5.frozen (p := ⟨w.heap.size + 1 + 1, o, none⟩) (by simp)).trans (by simp [go_sem])); obtain ⟨p5, cap5, rfl, hc5, hcap5⟩ := hR5.out)
  refine bodyPost_ret (by simp [results, Tryd.results22, go_sem, s0, s1]; rfl) rfl ⟨_, rfl, ?_, ?_⟩
  · exact Rw.mono (Rw.set (Rw.set hR5 (by simp) _) (by simp) _) (by omega)
  · exact ((hW.trans (hb5.mono (by omega))).setCell (p := ⟨w.heap.size + 1 + 1, 0, none⟩) (by simp; omega) _).setCell (p := ⟨w.heap.size + 1 + 1, 1, none⟩) (by simp; omega) _

/-- The label that package label mixes of two. -/
def MeetD (da db : Int) (xs ys : List (Int × Int)) : Int := (stM mn (allP da db xs ys)).1
def MeetZ (da db : Int) (xs ys : List (Int × Int)) : List (Int × Int) := shortS (stM mn (allP da db xs ys)).1 (stM mn (allP da db xs ys)).2
theorem Meet_any (da db : Int) (p q : Option Addr) (cx cy : Nat) (xs ys : List (Int × Int)) (w : World) (hmx : xs.length + ys.length ≤ 1000000) (hcx : xs.length ≤ cx) (hcy : ys.length ≤ cy)
    (hx : CatsAt w p xs) (hy : CatsAt w q ys) :
    Calls Tryd.prog 24 #[.agg #[.int .i64 da, .slice p xs.length cx], .agg #[.int .i64 db, .slice q ys.length cy]] w fun e w' => ∃ v, e = .returned (.tuple #[.agg #[.int .i64 (fitD (MeetD da db xs ys) (MeetZ da db xs ys)), v], .int .i64 (fitE (MeetZ da db xs ys))]) ∧ Rw w.heap.size w' v (fitL (MeetZ da db xs ys)) ∧ Below w.heap.size w w' := by
  have hW : Below w.heap.size w (((w.alloc (.cells #[.int .i64 da, .slice p xs.length cx] 24)).alloc (.cells #[.int .i64 db, .slice q ys.length cy] 24)).alloc (.cells #[.int .i64 0, .slice none 0 0] 24)) := by go_grown
  have hM : Calls Tryd.prog 60 #[.agg #[.int .i64 da, .slice p xs.length cx], .agg #[.int .i64 db, .slice q ys.length cy], .func (.func 62) #[] #[]] (((w.alloc (.cells #[.int .i64 da, .slice p xs.length cx] 24)).alloc (.cells #[.int .i64 db, .slice q ys.length cy] 24)).alloc (.cells #[.int .i64 0, .slice none 0 0] 24)) fun e w' => ∃ v, e = .returned (.tuple #[.agg #[.int .i64 (fitD (MeetD da db xs ys) (MeetZ da db xs ys)), v], .int .i64 (fitE (MeetZ da db xs ys))]) ∧ Rw (w.heap.size + 3) w' v (fitL (MeetZ da db xs ys)) ∧ Below (w.heap.size + 3) (((w.alloc (.cells #[.int .i64 da, .slice p xs.length cx] 24)).alloc (.cells #[.int .i64 db, .slice q ys.length cy] 24)).alloc (.cells #[.int .i64 0, .slice none 0 0] 24)) w' := by
    have := mixM_any da db p q cx cy xs ys _ hmx hcx hcy (hx.below hW) (hy.below hW)
    have e : (((w.alloc (.cells #[.int .i64 da, .slice p xs.length cx] 24)).alloc (.cells #[.int .i64 db, .slice q ys.length cy] 24)).alloc (.cells #[.int .i64 0, .slice none 0 0] 24)).heap.size = w.heap.size + 3 := by simp
    rw [e] at this
    exact this
  generalize fitD (MeetD da db xs ys) (MeetZ da db xs ys) = fd at *
  generalize fitE (MeetZ da db xs ys) = fe at *
  generalize fitL (MeetZ da db xs ys) = ff at *
  go_enter Tryd.func24, Tryd.ntmps24
  go_wp2_with (go_at_call 60; refine hM.mono ?_; rintro e w5 ⟨v, rfl, hR5, hb5⟩; have s0 : w5.cell? ⟨w.heap.size + 1 + 1, 0, none⟩ = some (.int .i64 0) := (hb5.cell (p := ⟨w.heap.size + 1 + 1, 0, none⟩) (by simp)).trans (by simp [go_sem]); have s1 : w5.cell? ⟨w.heap.size + 1 + 1, 1, none⟩ = some (.slice none 0 0) := (hb5.cell (p := ⟨w.heap.size + 1 + 1, 1, none⟩) (by simp)).trans (by simp [go_sem]); have sf : ∀ o, w5.frozen? ⟨w.heap.size + 1 + 1, o, none⟩ = false := (fun o => (hb5.frozen (p := ⟨w.heap.size + 1 + 1, o, none⟩) (by simp)).trans (by simp [go_sem])); obtain ⟨p5, cap5, rfl, hc5, hcap5⟩ := hR5.out)
  refine bodyPost_ret (by simp [results, Tryd.results24, go_sem, s0, s1]; rfl) rfl ⟨_, rfl, ?_, ?_⟩
  · exact Rw.mono (Rw.set (Rw.set hR5 (by simp) _) (by simp) _) (by omega)
  · exact ((hW.trans (hb5.mono (by omega))).setCell (p := ⟨w.heap.size + 1 + 1, 0, none⟩) (by simp; omega) _).setCell (p := ⟨w.heap.size + 1 + 1, 1, none⟩) (by simp; omega) _
end Go.Proofs.YtibnmiigfiofmaaDoor
