/- What Leq, Sees and Alters of the reference answer, and that it is what package label answers, for right labels. -/
import Derived.Test.YtonhdkldacghoaaRturn
namespace Go.Proofs.Ytonhdkldacghoaa
open Go.RowKit Go.Sort

theorem labs2 {W : World} {b : Nat} {A B : Lab} (h : W.heap[b]? = some (.cells #[.int .i64 A.d, .slice A.p A.xs.length A.cap, .int .i64 B.d, .slice B.p B.xs.length B.cap] 25 (0, 0)))
    (ha : CatsAt W A.p A.xs ∧ A.xs.length ≤ maxLen) (hb : CatsAt W B.p B.xs ∧ B.xs.length ≤ maxLen) : LabsAt W b [A, B] := by
  intro j hj
  simp only [List.length_cons, List.length_nil] at hj
  match j, hj with
  | 0, _ => exact ⟨by simp [World.cell?, h], by simp [World.cell?, h], ha⟩
  | 1, _ => exact ⟨by simp [World.cell?, h], by simp [World.cell?, h], hb⟩

def atLe (A B : Lab) (c : Int) : Bool := decide (atS A.d A.xs c ≤ atS B.d B.xs c)
def rleqS (A B : Lab) : Bool := (namedS [A, B]).all (atLe A B) && decide (A.d ≤ B.d)
theorem all_step {α : Type} (p : α → Bool) (cs : List α) (k : Nat) (h : k < cs.length) : (cs.drop k).all p = (p cs[k] && (cs.drop (k + 1)).all p) := by
  rw [List.drop_eq_getElem_cons h, List.all_cons]

set_option maxRecDepth 100000 in
set_option maxHeartbeats 1000000 in
theorem rLeq_any (A B : Lab) (w : World) (hm : A.xs.length + B.xs.length ≤ 17592186044000) (ha : CatsAt w A.p A.xs) (hb : CatsAt w B.p B.xs) :
    Calls Try.prog 25 #[.agg #[.int .i64 A.d, .slice A.p A.xs.length A.cap], .agg #[.int .i64 B.d, .slice B.p B.xs.length B.cap]] w fun e w' => e = .returned (.bool (rleqS A B)) ∧ Below w.heap.size w w' := by
  have ma : A.xs.length ≤ maxLen := by unfold maxLen; omega
  have mb : B.xs.length ≤ maxLen := by unfold maxLen; omega
  obtain ⟨W0, hW0⟩ : ∃ W0, W0 = (w.alloc (.cells #[.int .i64 A.d, .slice A.p A.xs.length A.cap] 25)).alloc (.cells #[.int .i64 B.d, .slice B.p B.xs.length B.cap] 25) := ⟨_, rfl⟩
  have hB0 : Below w.heap.size w W0 := by rw [hW0]; go_grown
  have hs0 : W0.heap.size = w.heap.size + 1 + 1 := by rw [hW0]; simp
  have a0 : W0.cell? ⟨w.heap.size, 0, none⟩ = some (.int .i64 A.d) := by rw [hW0]; simp [go_sem]
  have a1 : W0.cell? ⟨w.heap.size, 1, none⟩ = some (.slice A.p A.xs.length A.cap) := by rw [hW0]; simp [go_sem]
  have b0 : W0.cell? ⟨w.heap.size + 1, 0, none⟩ = some (.int .i64 B.d) := by rw [hW0]; simp [go_sem]
  have b1 : W0.cell? ⟨w.heap.size + 1, 1, none⟩ = some (.slice B.p B.xs.length B.cap) := by rw [hW0]; simp [go_sem]
  have hbA : Below W0.heap.size W0 (W0.alloc (.cells #[.int .i64 A.d, .slice A.p A.xs.length A.cap, .int .i64 B.d, .slice B.p B.xs.length B.cap] 25)) := by go_grown
  have hbA' := hB0.trans (hbA.mono hB0.size)
  have hN := Named_any W0.heap.size [A, B] _ (by simp) (by simp) (by simp [total]; omega) (labs2 (World.alloc_heap_new W0 (.cells #[.int .i64 A.d, .slice A.p A.xs.length A.cap, .int .i64 B.d, .slice B.p B.xs.length B.cap] 25)) ⟨ha.below hbA', ma⟩ ⟨hb.below hbA', mb⟩)
  simp only [List.length_cons, List.length_nil, Nat.zero_add, Nat.reduceAdd] at hN
  rw [hs0, hW0] at hN
  have hlen : (namedS [A, B]).length ≤ 17592186044000 := by
    have := named_len [A, B] 2
    simp [total] at this; omega
  go_enter Try.func25, Try.ntmps25
  go_wp2_with (go_at_call 36; refine hN.mono ?_; rintro e w1 ⟨g, cap, rfl, hown, hb1⟩; refine Hid.out ?_)
  refine Lib.hid ?_
  rw [← hW0] at hown hb1
  have hb01 : Below W0.heap.size W0 w1 := hbA.trans (hb1.mono hbA.size)
  have hcell : ∀ k, (h : k < (namedS [A, B]).length) → w1.cell? ⟨g, k, none⟩ = some (.int .i64 (namedS [A, B])[k]) := fun k h => by
    rw [hown.cellAt k (by omega)]; simp [icells, h]
  have hg := (hown.lt g rfl).2
  have hncap : (namedS [A, B]).length ≤ cap := by
    rcases hown.2 with ⟨h, _⟩ | ⟨_, _, _, h, _, _, h3, _⟩
    · cases h
    · cases h; exact h3
  have HCELL : Hid (∀ k, (h : k < (namedS [A, B]).length) → w1.cell? ⟨g, k, none⟩ = some (.int .i64 (namedS [A, B])[k])) := hcell
  have HD : Hid (rleqS A B = ((namedS [A, B]).all (atLe A B) && decide (A.d ≤ B.d))) := rfl
  clear hN hown hb1 hcell hW0 hbA hbA'
  obtain ⟨cs, hcs⟩ : ∃ cs, cs = namedS [A, B] := ⟨_, rfl⟩
  rw [← hcs] at HCELL HD hlen hncap ⊢
  clear hcs
  have hB1 : Below w.heap.size w w1 := hB0.trans (hb01.mono hB0.size)
  have hz1 : w.heap.size + 2 ≤ w1.heap.size := by have := hb01.size; omega
  go_wp2
  go_loopw [12] (fun i wr => ∃ k : Nat, k ≤ cs.length ∧ i = .int .i64 k ∧ cs.all (atLe A B) = (cs.drop k).all (atLe A B) ∧ Below w1.heap.size w1 wr) (fun i _ => cs.length - (intOf i).toNat)
  case atStart => exact ⟨0, Nat.zero_le _, rfl, by simp, Below.refl _ _⟩
  case round =>
    obtain ⟨k, hk, rfl, hr, hbw⟩ := hrel
    have HR : Hid (cs.all (atLe A B) = (cs.drop k).all (atLe A B)) := hr
    clear hr
    have hb0w : Below W0.heap.size W0 wr := hb01.trans (hbw.mono hb01.size)
    have hBw : Below w.heap.size w wr := hB1.trans (hbw.mono hB1.size)
    have hzw : w.heap.size + 2 ≤ wr.heap.size := by have := hbw.size; omega
    have p0 := (hb0w.cell (p := ⟨w.heap.size, 0, none⟩) (by simp; omega)).trans a0
    have p1 := (hb0w.cell (p := ⟨w.heap.size, 1, none⟩) (by simp; omega)).trans a1
    have q0 := (hb0w.cell (p := ⟨w.heap.size + 1, 0, none⟩) (by simp; omega)).trans b0
    have q1 := (hb0w.cell (p := ⟨w.heap.size + 1, 1, none⟩) (by simp; omega)).trans b1
    by_cases hlt : k < cs.length
    · have hx : wr.cell? ⟨g, k, none⟩ = some (.int .i64 cs[k]) := (hbw.cell (p := ⟨g, k, none⟩) hg).trans (HCELL.out k hlt)
      have HT : Hid ((cs.drop k).all (atLe A B) = (atLe A B cs[k] && (cs.drop (k + 1)).all (atLe A B))) := all_step _ cs k hlt
      have s0 : ∀ n os, (gx wr n os).cell? ⟨w.heap.size, 0, none⟩ = some (.int .i64 A.d) := fun n os => cell_gx (a := ⟨w.heap.size, 0, none⟩) (by simp; omega) p0 n os
      have s1 : ∀ n os, (gx wr n os).cell? ⟨w.heap.size, 1, none⟩ = some (.slice A.p A.xs.length A.cap) := fun n os => cell_gx (a := ⟨w.heap.size, 1, none⟩) (by simp; omega) p1 n os
      have t0 : ∀ n os, (gx wr n os).cell? ⟨w.heap.size + 1, 0, none⟩ = some (.int .i64 B.d) := fun n os => cell_gx (a := ⟨w.heap.size + 1, 0, none⟩) (by simp; omega) q0 n os
      have t1 : ∀ n os, (gx wr n os).cell? ⟨w.heap.size + 1, 1, none⟩ = some (.slice B.p B.xs.length B.cap) := fun n os => cell_gx (a := ⟨w.heap.size + 1, 1, none⟩) (by simp; omega) q1 n os
      have HA : Hid (∀ n os, CatsAt (gx wr n os) A.p A.xs) := fun n os => (ha.below hBw).below (gx_below wr n os)
      have HB : Hid (∀ n os, CatsAt (gx wr n os) B.p B.xs) := fun n os => (hb.below hBw).below (gx_below wr n os)
      have hki : (k : Int) < (cs.length : Int) := by omega
      clear ha hb p0 p1 q0 q1 a0 a1 b0 b1
      by_cases hle : atS A.d A.xs cs[k] ≤ atS B.d B.xs cs[k]
      · have HL : Hid (atLe A B cs[k] = true) := by simp [Hid, atLe, hle]
        go_wp2
        refine wp_region_quiet_gx (by kernel_rfl) (by kernel_rfl) ?_
        repeat (quiet_step (first
          | (go_at_call 37; with_reducible exact calls_gx (refAt_any A.d cs[k] A.p A.cap A.xs _ ma (HA.out _ _)))
          | (go_at_call 37; with_reducible exact calls_gx (refAt_any B.d cs[k] B.p B.cap B.xs _ mb (HB.out _ _)))))
        refine wpQuiet_nil ?_
        intro _ hw'
        obtain ⟨⟨nq, osq⟩, hw''⟩ := hw'
        subst hw''
        go_wp2
        go_roundw
        case rel => exact ⟨k + 1, by omega, by go_num, by rw [HR.out, HT.out, HL.out]; rfl, hbw.trans ((gx_below wr _ _).mono hbw.size)⟩
        case measure => simp [intOf]; omega
      · have HL : Hid (atLe A B cs[k] = false) := by simp [Hid, atLe, hle]
        go_wp2
        refine wp_region_quiet_gx (by kernel_rfl) (by kernel_rfl) ?_
        repeat (quiet_step (first
          | (go_at_call 37; with_reducible exact calls_gx (refAt_any A.d cs[k] A.p A.cap A.xs _ ma (HA.out _ _)))
          | (go_at_call 37; with_reducible exact calls_gx (refAt_any B.d cs[k] B.p B.cap B.xs _ mb (HB.out _ _)))))
        refine wpQuiet_nil ?_
        intro _ hw'
        obtain ⟨⟨nq, osq⟩, hw''⟩ := hw'
        subst hw''
        go_wp2
        go_ret
        exact ⟨ret_bool (by rw [HD.out, HR.out, HT.out, HL.out]; rfl), hBw.trans ((gx_below wr _ _).mono hBw.size)⟩
    · by_cases hd : A.d ≤ B.d
      · go_wp2
        go_ret
        exact ⟨ret_bool (by rw [HD.out, HR.out, List.drop_of_length_le (by omega)]; simp [hd]), hBw⟩
      · go_wp2
        go_ret
        exact ⟨ret_bool (by rw [HD.out, HR.out, List.drop_of_length_le (by omega)]; simp [hd]), hBw⟩
end Go.Proofs.Ytonhdkldacghoaa
