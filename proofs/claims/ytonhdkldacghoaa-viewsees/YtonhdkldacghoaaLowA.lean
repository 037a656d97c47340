/- What Low of package view answers, for every label and every object. -/
import Derived.Test.YtonhdkldacghoaaLow
namespace Go.Proofs.Ytonhdkldacghoaa
open Go.RowKit Go.Sort Go.Shelf
attribute [local go_sem] Oper.semAt_some

theorem wpListIn_load_at {F : Fence} {n : Nat} {P : Program} {ops : Array Oper} {rest : List Oper} {o : Oper} {a : Act} {w : World} {Q : Exit → Act → World → Prop} (hgd : o.guard = none) (ty : TypeId) (x : Operand) (ho : o.op = .load ty x)
    (p : Addr) (hx : a.eval x = .pointer (some p)) (v : Value) (hl : (loadVar ty p).run P w = .ok v w) (h : wpListIn F n P ops Q rest (a.put o.dst v) w) : wpListIn F n P ops Q (o :: rest) a w := by
  refine wpListIn_plain hgd fun K hK' => ?_
  unfold Oper.wpIn
  refine ⟨?_, ?_⟩
  · simp [Oper.about, ho]
  · rw [Oper.semAt_plain F _ _ (by rw [ho]; intro c hc'; cases hc')]
    simp only [execOp, ho, hx, Instr.loadAt, Instr.sureAddr, Sem.run_bind, Sem.run_pure, Result.andThen_ok, hl]
    exact hK' _ _ h

def NoneBad (f : Int × Int → Bool) (pre : List (Int × Int)) : Prop := ∀ x ∈ pre, f x = false
theorem NoneBad.snoc {f : Int × Int → Bool} {pre : List (Int × Int)} {x : Int × Int} (h : NoneBad f pre) (hx : f x = false) : NoneBad f (pre ++ [x]) := fun y hy => (List.mem_append.1 hy).elim (h y) (fun e => by rw [List.mem_singleton.1 e]; exact hx)
def SomeBad (f : Int × Int → Bool) (pre : List (Int × Int)) : Prop := ∃ x ∈ pre, f x = true
theorem SomeBad.snoc {f : Int × Int → Bool} {pre : List (Int × Int)} {x : Int × Int} (hx : f x = true) : SomeBad f (pre ++ [x]) := ⟨x, List.mem_append.2 (.inr (List.mem_singleton.2 rfl)), hx⟩
def badS (x : Int × Int) : Bool := decide (x.2 < x.1) || whS x
theorem low_yes {l o : Lab} (ht : telS l o = true) (h : NoneBad badS (allV o.d l.d o.xs l.xs)) : lowS l o = true := by
  unfold lowS; rw [ht, Bool.true_and, List.all_eq_true]; intro x hx; have := h x hx; unfold badS at this; simp only [this]; rfl
theorem low_no {l o : Lab} {pre : List (Int × Int)} (hp : pre <+: allV o.d l.d o.xs l.xs) (h : SomeBad badS pre) : lowS l o = false := by
  obtain ⟨x, hx, hn⟩ := h
  unfold badS at hn
  unfold lowS; rw [Bool.and_eq_false_iff]; right; rw [List.all_eq_false]; exact ⟨x, hp.subset hx, by simp [hn]⟩

set_option maxRecDepth 100000 in
set_option maxHeartbeats 2000000 in
theorem Low_any (l : Lab) (o : Ob) (w : World) (hl : CatsAt w l.p l.xs) (hm : l.xs.length ≤ maxLen) (ho : ObOk w o) :
    Calls Try.prog 12 #[l.val, .agg o.cs] w fun e w' => e = .returned (.bool (lowS l o.L)) ∧ Below w.heap.size w w' := by
  obtain ⟨cs, hcs⟩ : ∃ cs, o.cs = cs := ⟨_, rfl⟩
  have k5 : cs[5]? = some (.int .i64 o.L.d) := by rw [← hcs, Ob.head _ _ (by decide)]; rfl
  have k6 : cs[6]? = some (.slice o.L.p o.L.xs.length o.L.cap) := by rw [← hcs, Ob.head _ _ (by decide)]; rfl
  have hs38 : cs.size = 38 := by rw [← hcs]; exact Ob.size ho.st
  have HO := Lib.hid ho
  obtain ⟨W0, hW0⟩ : ∃ W, ((w.alloc (.cells #[.int .i64 l.d, .slice l.p l.xs.length l.cap] 25)).alloc (.cells cs 42)).alloc (.cells #[.bool false] 4) = W := ⟨_, rfl⟩
  have hB0 : Below w.heap.size w W0 := by rw [← hW0]; go_grown
  have hz : W0.heap.size = w.heap.size + 3 := by rw [← hW0]; simp
  have c0 : W0.cell? ⟨w.heap.size, 0, none⟩ = some (.int .i64 l.d) := by rw [← hW0]; simp [go_sem]
  have c1 : W0.cell? ⟨w.heap.size, 1, none⟩ = some (.slice l.p l.xs.length l.cap) := by rw [← hW0]; simp [go_sem]
  have r0 : W0.cell? ⟨w.heap.size + 2, 0, none⟩ = some (.bool false) := by rw [← hW0]; simp [go_sem]
  have rf : W0.frozen? ⟨w.heap.size + 2, 0, none⟩ = false := by rw [← hW0]; simp [go_sem]
  have hH : W0.heap[w.heap.size + 1]? = some (.cells cs 42) := by
    rw [← hW0, heap_alloc_old _ _ (by simp)]
    simpa using heap_alloc_new (w.alloc (.cells #[.int .i64 l.d, .slice l.p l.xs.length l.cap] 25)) (.cells cs 42)
  have d5 := heap_cells hH k5
  have d6 := heap_cells hH k6
  have hn0 : w.heap.size < W0.heap.size := by omega
  have hn1 : w.heap.size + 1 < W0.heap.size := by omega
  have hn2 : w.heap.size + 2 < W0.heap.size := by omega
  have HT : Hid (Calls Try.prog 28 #[.agg #[.int .i64 l.d, .slice l.p l.xs.length l.cap], .agg cs] W0 fun e w' => e = .returned (.bool (telS l o.L)) ∧ Below W0.heap.size W0 w') := by
    rw [← hcs]; exact canTell_any l o W0 (hl.below hB0) hm (ho.below hB0)
  have HL : Hid ((loadVar 42 ⟨w.heap.size + 1, 0, none⟩).run Try.prog W0 = .ok (.agg cs) W0) := run_load_at W0 (w.heap.size + 1) 0 _ cs _ (fun f u hu => by rw [Nat.zero_add]; exact heap_cells hH hu) Try.underlying42 rfl (by rw [hs38]; exact infoOb)
  rw [hcs]
  clear hcs k5 k6 hs38 hH ho hz
  unfold Lab.val
  refine (callsIn_wide (n := 3)).1 ?_
  have h26 : Fence.wide.fn 12 := trivial
  have h63 : Fence.wide.fn 29 := trivial
  have h64 : Fence.wide.fn 28 := trivial
  have h65 : Fence.wide.fn 30 := trivial
  have h76 : Fence.wide.fn 49 := trivial
  have hro : Fence.wide.round = none := rfl
  refine callsIn_of_wp_marks Try.func12 rfl h26 ?_ hro
  simp only [Try.ntmps12, List.size_toArray, List.length_cons, List.length_nil, Nat.reduceAdd, Nat.reduceSub, Array.replicate_succ, Array.replicate_zero, List.push_toArray, List.append_toArray, List.nil_append, List.cons_append]
  by_cases ht : telS l o.L = true
  · gi_wp2_with (first
      | (refine wpListIn_load_at rfl 42 _ rfl ⟨w.heap.size + 1, 0, none⟩ rfl (.agg cs) HL.out ?_)
      | (gi_at_call 28; refine (callsIn_wide.2 HT.out).mono ?_; rintro e w1 ⟨rfl, hb1⟩; refine Hid.out ?_))
    refine Lib.hid ?_
    have c0' := (hb1.cell (p := ⟨w.heap.size, 0, none⟩) hn0).trans c0
    have c1' := (hb1.cell (p := ⟨w.heap.size, 1, none⟩) hn0).trans c1
    have d5' := (hb1.cell (p := ⟨w.heap.size + 1, 5, none⟩) hn1).trans d5
    have d6' := (hb1.cell (p := ⟨w.heap.size + 1, 6, none⟩) hn1).trans d6
    have r0' := (hb1.cell (p := ⟨w.heap.size + 2, 0, none⟩) hn2).trans r0
    have rf' := (hb1.frozen (p := ⟨w.heap.size + 2, 0, none⟩) hn2).trans rf
    have hB1 : Below w.heap.size w w1 := hB0.trans (hb1.mono hB0.size)
    have hz1 : w.heap.size + 3 ≤ w1.heap.size := by have := hb1.size; omega
    have hn0' : w.heap.size < w1.heap.size := by omega
    have hn1' : w.heap.size + 1 < w1.heap.size := by omega
    have hn2' : w.heap.size + 2 < w1.heap.size := by omega
    clear c0 c1 d5 d6 r0 rf hW0 hb1 hn0 hn1 hn2 HT HL hB0
    gi_wp2_with (gi_at_call 29; refine (callsIn_wide.2 (levels_any _ _ o.L.d l.d o.L.p l.p o.L.xs.length l.xs.length o.L.cap l.cap _ rfl rfl)).mono ?_; rintro e w' ⟨rfl, rfl⟩)
    obtain ⟨W1, hW1⟩ : ∃ W1, ((w1.alloc (.cells #[.int .i64 o.L.d, .slice o.L.p o.L.xs.length o.L.cap] 25)).alloc (.cells #[.int .i64 l.d, .slice l.p l.xs.length l.cap] 25)) = W1 := ⟨_, rfl⟩
    have hb01 : Below w1.heap.size w1 W1 := by rw [← hW1]; go_grown
    have hB2 : Below w.heap.size w W1 := hB1.trans (hb01.mono hB1.size)
    have hsz : W1.heap.size = w1.heap.size + 2 := by rw [← hW1]; simp
    have a0 : W1.cell? ⟨w1.heap.size, 0, none⟩ = some (.int .i64 o.L.d) := by rw [← hW1]; simp [go_sem]
    have a1 : W1.cell? ⟨w1.heap.size, 1, none⟩ = some (.slice o.L.p o.L.xs.length o.L.cap) := by rw [← hW1]; simp [go_sem]
    have b0 : W1.cell? ⟨w1.heap.size + 1, 0, none⟩ = some (.int .i64 l.d) := by rw [← hW1]; simp [go_sem]
    have b1 : W1.cell? ⟨w1.heap.size + 1, 1, none⟩ = some (.slice l.p l.xs.length l.cap) := by rw [← hW1]; simp [go_sem]
    have r0 := (hb01.cell (p := ⟨w.heap.size + 2, 0, none⟩) hn2').trans r0'
    have rf := (hb01.frozen (p := ⟨w.heap.size + 2, 0, none⟩) hn2').trans rf'
    have hx0 : CatsB w.heap.size W1 o.L.p o.L.xs := HO.out.L.under.keep hB2
    have hy0 : CatsB w.heap.size W1 l.p l.xs := hl.under.keep hB2
    have hLm := HO.out.Lm
    rw [hW1]
    clear hW1 c0' c1' d5' d6' r0' rf' HO hl
    have hsz1 : w1.heap.size + 2 ≤ W1.heap.size := by omega
    clear hsz
    refine wpIn_rangeFunc_ownH hro (by decide) (gf := 49) (lb := #[.pointer (some ⟨w1.heap.size, 0, none⟩), .pointer (some ⟨w1.heap.size + 1, 0, none⟩)]) rfl h76 (enters_of Try.func49 (by kernel_rfl) rfl)
      (levels_stops 2 (by decide) w1.heap.size (w1.heap.size + 1) w.heap.size o.L.d l.d o.L.p l.p o.L.cap l.cap o.L.xs l.xs W1 hLm hm (by omega) (by omega) (by omega) a0 a1 b0 b1 hx0 hy0) kpp_t (kpp_b (by omega) (by omega) (by omega)) (Below.refl _ _) (fun _ => rfl)
      (fun pre W => (NoneBad badS pre ∧ W.cell? ⟨w.heap.size + 2, 0, none⟩ = some (.bool false) ∧ W.frozen? ⟨w.heap.size + 2, 0, none⟩ = false) ∧ Below w.heap.size w W ∧ W1.heap.size ≤ W.heap.size)
      (fun c pre W => (c = .ret ∧ SomeBad badS pre ∧ W.cell? ⟨w.heap.size + 2, 0, none⟩ = some (.bool false)) ∧ Below w.heap.size w W)
      (OwnFrom.and (Own.from (fun s A B row hs hg hr => ⟨hs.1, cell_kept hs.2.1 hg hr, (frozen_kept hs.2.1 hg hr).trans hs.2.2⟩) _) (OwnFrom.and (ownFrom_below (Nat.le_refl _) (by omega)) (fun s A B row hs hg _ => Nat.le_trans hs hg.size)))
      (fun c => OwnFrom.and (Own.from (fun s A B row hs hg hr => ⟨hs.1, hs.2.1, cell_kept hs.2.2 hg hr⟩) _) (ownFrom_below (Nat.le_refl _) (by omega)))
      ⟨⟨fun _ h => by simp at h, r0, rf⟩, hB2, Nat.le_refl _⟩
      (fun x a' W => a' = { tmps := #[.agg #[.int .i64 l.d, .slice l.p l.xs.length l.cap], .agg cs, .pointer (some ⟨w.heap.size, 0, none⟩), .pointer (some ⟨w.heap.size + 1, 0, none⟩), .pointer (some ⟨w.heap.size + 1 + 1, 0, none⟩), .int .i64 x.1, .int .i64 x.2, .agg #[.int .i64 l.d, .slice l.p l.xs.length l.cap], .agg cs, .bool true, .bool false, .pointer (some ⟨w.heap.size + 1, 0, none⟩), .pointer (some ⟨w.heap.size + 1, 5, none⟩), .agg #[.int .i64 o.L.d, .slice o.L.p o.L.xs.length o.L.cap], .agg #[.int .i64 l.d, .slice l.p l.xs.length l.cap], .func (.func 49) #[] #[.pointer (some ⟨w1.heap.size, 0, none⟩), .pointer (some ⟨w1.heap.size + 1, 0, none⟩)], .int .i64 x.1, .int .i64 x.2, undef, undef, undef, undef, undef, undef, undef, undef], defers := [] })
      (fun x a' _ X Y row hs hg hr => hs)
      ?assign ?body ?done ?stop
    case assign =>
      rintro l pre x W K ⟨⟨hp, hc, hf⟩, hB, hz⟩ hK
      simp only [encV]
      gi_wp2
      exact hK _ _ (KeepsFrom.refl _ _) (kpp_below (Below.refl _ _) (by omega) (by omega) (by omega)) ⟨⟨hp, hc, hf⟩, hB, hz⟩ rfl
    case body =>
      rintro lq pre x a' W hlq hr ⟨⟨hp, hc, hf⟩, hB, hz⟩ rfl hlt
      by_cases hgt : x.2 < x.1
      · gi_wp2
        exact ⟨(KeepsOthers.setCell _ _ _).from _, ⟨rfl, SomeBad.snoc (by simp [badS, hgt]), World.cell?_setCell_same' _ _ _ (by rw [hc]; rfl)⟩, hB.setCell (p := ⟨w.heap.size + 2, 0, none⟩) (by simp) _⟩
      · by_cases hwh : whS x = true
        · gi_wp2_with (gi_at_call 30; refine (CallsIn.inRound lq (callsIn_wide.2 (isWithheld_any x _))).mono ?_; rintro e w' ⟨rfl, rfl⟩; rw [hwh])
          exact ⟨(KeepsOthers.setCell _ _ _).from _, ⟨rfl, SomeBad.snoc (by simp [badS, hwh]), World.cell?_setCell_same' _ _ _ (by rw [hc]; rfl)⟩, hB.setCell (p := ⟨w.heap.size + 2, 0, none⟩) (by simp) _⟩
        · have hwh' : whS x = false := by simpa using hwh
          gi_wp2_with (gi_at_call 30; refine (CallsIn.inRound lq (callsIn_wide.2 (isWithheld_any x _))).mono ?_; rintro e w' ⟨rfl, rfl⟩; rw [hwh'])
          exact ⟨KeepsFrom.refl _ _, kpp_below (Below.refl _ _) (by omega) (by omega) (by omega), ⟨⟨hp.snoc (by simp [badS, hgt, hwh']), hc, hf⟩, hB, hz⟩⟩
    case done =>
      rintro D zs W hD rfl ⟨⟨hp, hc, hf⟩, hB, hz⟩ hK
      gi_wp2
      have hK' := (KeepsOthers.setCell W ⟨w.heap.size + 2, 0, none⟩ (.bool true)).same D _ hK rfl
      refine ⟨by simp, .inl ⟨_, _, rfl, run_takeDeferred hK', ?_⟩⟩
      have hc5 := cell_kept (World.cell?_setCell_same' W ⟨w.heap.size + 2, 0, none⟩ (.bool true) (by rw [hc]; rfl)) (grownBy_putObj' _ D (.deferred none)) (fun r e => by cases e; exact ⟨_, hK', rfl⟩)
      refine ⟨.bool true, ?_, ret_bool (low_yes ht hp).symm, (hB.setCell (p := ⟨w.heap.size + 2, 0, none⟩) (by simp) _).trans (belowK_b (w := w) (Nat.le_refl _) _ D _ _ (by omega) hK' rfl rfl)⟩
      simp [results, Try.results12, go_sem, hc5]
    case stop =>
      rintro D c pre W hD hpre ⟨⟨rfl, hin, hc⟩, hB⟩ hK
      gi_wp2
      refine ⟨by simp, .inl ⟨_, _, rfl, run_takeDeferred hK, ?_⟩⟩
      have hc5 := cell_kept hc (grownBy_putObj' _ D (.deferred none)) (fun r e => by cases e; exact ⟨_, hK, rfl⟩)
      refine ⟨.bool false, ?_, ret_bool (low_no hpre hin).symm, hB.trans (belowK_b (w := w) (Nat.le_refl _) W D _ _ (by omega) hK rfl rfl)⟩
      simp [results, Try.results12, go_sem, hc5]
  · have ht' : telS l o.L = false := by simpa using ht
    gi_wp2_with (first
      | (refine wpListIn_load_at rfl 42 _ rfl ⟨w.heap.size + 1, 0, none⟩ rfl (.agg cs) HL.out ?_)
      | (gi_at_call 28; refine (callsIn_wide.2 HT.out).mono ?_; rintro e w1 ⟨rfl, hb1⟩; refine Hid.out ?_))
    refine Lib.hid ?_
    have r0' := (hb1.cell (p := ⟨w.heap.size + 2, 0, none⟩) hn2).trans r0
    have rf' := (hb1.frozen (p := ⟨w.heap.size + 2, 0, none⟩) hn2).trans rf
    have hB1 : Below w.heap.size w w1 := hB0.trans (hb1.mono hB0.size)
    clear c0 c1 d5 d6 r0 rf hW0 HT HL HO
    gi_wp2
    refine ⟨.bool false, ?_, ret_bool (by simp [lowS, ht']), hB1.setCell (p := ⟨w.heap.size + 2, 0, none⟩) (by simp) _⟩
    simp [results, Try.results12, go_sem, World.cell?_setCell_same' w1 ⟨w.heap.size + 2, 0, none⟩ (.bool false) (by rw [r0']; rfl)]
end Go.Proofs.Ytonhdkldacghoaa
