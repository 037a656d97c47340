/- LabelBounds answers true, for every three labels, whatever the memory. -/
import Derived.Test.YtibnmiigfiofmabDoorLives
import Derived.Test.YtibnmiigfiofmabDoorBndM
import Derived.Deep.DeepCutAuto
namespace Go.Proofs.YtibnmiigfiofmabDoor
open Go.RowKit Go.Sort

theorem labs3b {W : World} {b : Nat} {A B C : Lab} (h : W.heap[b]? = some (.cells #[.int .i64 A.d, .slice A.p A.xs.length A.cap, .int .i64 B.d, .slice B.p B.xs.length B.cap, .int .i64 C.d, .slice C.p C.xs.length C.cap] 24 (0, 0)))
    (ha : CatsAt W A.p A.xs ∧ A.xs.length ≤ maxLen) (hb : CatsAt W B.p B.xs ∧ B.xs.length ≤ maxLen) (hc : CatsAt W C.p C.xs ∧ C.xs.length ≤ maxLen) : LabsAt W b [A, B, C] := by
  intro j hj
  simp only [List.length_cons, List.length_nil] at hj
  match j, hj with
  | 0, _ => exact ⟨by simp [World.cell?, h], by simp [World.cell?, h], ha⟩
  | 1, _ => exact ⟨by simp [World.cell?, h], by simp [World.cell?, h], hb⟩
  | 2, _ => exact ⟨by simp [World.cell?, h], by simp [World.cell?, h], hc⟩

theorem same_self (d : Int) (xs : List (Int × Int)) : sameS d d xs xs = true := by simp [sameS]

set_option maxRecDepth 100000 in
set_option maxHeartbeats 8000000 in
theorem LabelBounds_any (A B C : Lab) (w : World) (ma : A.xs.length ≤ maxLen) (mb : B.xs.length ≤ maxLen) (mc : C.xs.length ≤ maxLen) (ka : A.xs.length ≤ A.cap) (kb : B.xs.length ≤ B.cap) (kc : C.xs.length ≤ C.cap)
    (ha : CatsAt w A.p A.xs) (hb : CatsAt w B.p B.xs) (hc : CatsAt w C.p C.xs) :
    Calls Tryd.prog 5 #[.agg #[.int .i64 A.d, .slice A.p A.xs.length A.cap], .agg #[.int .i64 B.d, .slice B.p B.xs.length B.cap], .agg #[.int .i64 C.d, .slice C.p C.xs.length C.cap]] w fun e w' => e = .returned (.bool true) ∧ Below w.heap.size w w' := by
  obtain ⟨W3, hW3⟩ : ∃ W3, ((w.alloc (.cells #[.int .i64 A.d, .slice A.p A.xs.length A.cap] 24)).alloc (.cells #[.int .i64 B.d, .slice B.p B.xs.length B.cap] 24)).alloc (.cells #[.int .i64 C.d, .slice C.p C.xs.length C.cap] 24) = W3 := ⟨_, rfl⟩
  have hB3 : Below w.heap.size w W3 := by rw [← hW3]; go_grown
  have hz3 : W3.heap.size = w.heap.size + 3 := by rw [← hW3]; simp
  have a0 : W3.cell? ⟨w.heap.size, 0, none⟩ = some (.int .i64 A.d) := by rw [← hW3]; simp [go_sem]
  have a1 : W3.cell? ⟨w.heap.size, 1, none⟩ = some (.slice A.p A.xs.length A.cap) := by rw [← hW3]; simp [go_sem]
  have b0 : W3.cell? ⟨w.heap.size + 1, 0, none⟩ = some (.int .i64 B.d) := by rw [← hW3]; simp [go_sem]
  have b1 : W3.cell? ⟨w.heap.size + 1, 1, none⟩ = some (.slice B.p B.xs.length B.cap) := by rw [← hW3]; simp [go_sem]
  have c0 : W3.cell? ⟨w.heap.size + 1 + 1, 0, none⟩ = some (.int .i64 C.d) := by rw [← hW3]; simp [go_sem]
  have c1 : W3.cell? ⟨w.heap.size + 1 + 1, 1, none⟩ = some (.slice C.p C.xs.length C.cap) := by rw [← hW3]; simp [go_sem]
  have hL := lives_any W3
  go_enter Tryd.func5, Tryd.ntmps5
  go_wp2_with (go_at_call 7; refine hL.mono ?_; rintro e w1 ⟨rfl, hb1⟩; refine Hid.out ?_)
  refine Lib.hid ?_
  clear hL hW3
  have hB1 : Below w.heap.size w w1 := hB3.trans (hb1.mono hB3.size)
  have hz1 : w.heap.size + 3 ≤ w1.heap.size := by have := hb1.size; omega
  have d0 := (hb1.cell (p := ⟨w.heap.size, 0, none⟩) (by simp; omega)).trans a0
  have d1 := (hb1.cell (p := ⟨w.heap.size, 1, none⟩) (by simp; omega)).trans a1
  have e0 := (hb1.cell (p := ⟨w.heap.size + 1, 0, none⟩) (by simp; omega)).trans b0
  have e1 := (hb1.cell (p := ⟨w.heap.size + 1, 1, none⟩) (by simp; omega)).trans b1
  have f0 := (hb1.cell (p := ⟨w.heap.size + 1 + 1, 0, none⟩) (by simp; omega)).trans c0
  have f1 := (hb1.cell (p := ⟨w.heap.size + 1 + 1, 1, none⟩) (by simp; omega)).trans c1
  have hbA : Below w.heap.size w (w1.alloc (.cells #[.int .i64 A.d, .slice A.p A.xs.length A.cap, .int .i64 B.d, .slice B.p B.xs.length B.cap, .int .i64 C.d, .slice C.p C.xs.length C.cap] 24)) := hB1.alloc hB1.size _
  have hR := right_any w1.heap.size [A, B, C] _ (by simp) (by simp) (labs3b (World.alloc_heap_new w1 _) ⟨ha.below hbA, ma⟩ ⟨hb.below hbA, mb⟩ ⟨hc.below hbA, mc⟩)
  simp only [List.length_cons, List.length_nil, Nat.zero_add, Nat.reduceAdd] at hR
  clear a0 a1 b0 b1 c0 c1
  by_cases hr : allRight [A, B, C] = true
  · rw [hr] at hR
    simp only [allRight, List.all_cons, List.all_nil, Bool.and_true, Bool.and_eq_true] at hr
    obtain ⟨ra, rb, rc⟩ := hr
    have RA := right_rise ra
    have RB := right_rise rb
    have RC := right_rise rc
    have hmAB : A.xs.length + B.xs.length ≤ 1000 := by have := RA.2.2.1; have := RB.2.2.1; omega
    obtain ⟨dJ, hdJ⟩ : ∃ d, d = fitD (JoinD A.d B.d A.xs B.xs) (JoinZ A.d B.d A.xs B.xs) := ⟨_, rfl⟩
    obtain ⟨lJ, hlJ⟩ : ∃ l, l = fitL (JoinZ A.d B.d A.xs B.xs) := ⟨_, rfl⟩
    obtain ⟨eJ, heJ⟩ : ∃ e, e = fitE (JoinZ A.d B.d A.xs B.xs) := ⟨_, rfl⟩
    obtain ⟨dM, hdM⟩ : ∃ d, d = fitD (MeetD A.d B.d A.xs B.xs) (MeetZ A.d B.d A.xs B.xs) := ⟨_, rfl⟩
    obtain ⟨lM, hlM⟩ : ∃ l, l = fitL (MeetZ A.d B.d A.xs B.xs) := ⟨_, rfl⟩
    obtain ⟨eM, heM⟩ : ∃ e, e = fitE (MeetZ A.d B.d A.xs B.xs) := ⟨_, rfl⟩
    have HJ4 := Lib.hid (join_cases A.d B.d C.d A.xs B.xs C.xs RA.1 RB.1 RC.1 hdJ hlJ heJ)
    have HM4 := Lib.hid (meet_cases A.d B.d C.d A.xs B.xs C.xs RA.1 RB.1 RC.1 hdM hlM heM)
    have H14 : Hid (∀ W, CatsAt W A.p A.xs → CatsAt W B.p B.xs → Calls Tryd.prog 14 #[.agg #[.int .i64 A.d, .slice A.p A.xs.length A.cap], .agg #[.int .i64 B.d, .slice B.p B.xs.length B.cap]] W fun e w' => ∃ v, e = .returned (.tuple #[.agg #[.int .i64 dJ, v], .int .i64 eJ]) ∧ Rw W.heap.size w' v lJ ∧ Below W.heap.size W w') := fun W h1 h2 => by
      rw [hdJ, hlJ, heJ]; exact Join_any A.d B.d A.p B.p A.cap B.cap A.xs B.xs W (by omega) ka kb h1 h2
    have H15 : Hid (∀ W, CatsAt W A.p A.xs → CatsAt W B.p B.xs → Calls Tryd.prog 15 #[.agg #[.int .i64 A.d, .slice A.p A.xs.length A.cap], .agg #[.int .i64 B.d, .slice B.p B.xs.length B.cap]] W fun e w' => ∃ v, e = .returned (.tuple #[.agg #[.int .i64 dM, v], .int .i64 eM]) ∧ Rw W.heap.size w' v lM ∧ Below W.heap.size W w') := fun W h1 h2 => by
      rw [hdM, hlM, heM]; exact Meet_any A.d B.d A.p B.p A.cap B.cap A.xs B.xs W (by omega) ka kb h1 h2
    have H16 : Hid (∀ W, CatsAt W A.p A.xs → CatsAt W B.p B.xs → Calls Tryd.prog 14 #[.agg #[.int .i64 B.d, .slice B.p B.xs.length B.cap], .agg #[.int .i64 A.d, .slice A.p A.xs.length A.cap]] W fun e w' => ∃ v, e = .returned (.tuple #[.agg #[.int .i64 dJ, v], .int .i64 eJ]) ∧ Rw W.heap.size w' v lJ ∧ Below W.heap.size W w') := fun W h1 h2 => by
      have := Join_any B.d A.d B.p A.p B.cap A.cap B.xs A.xs W (by omega) kb ka h2 h1
      rw [(join_comm RA.1 RB.1).1, (join_comm RA.1 RB.1).2] at this
      rw [hdJ, hlJ, heJ]; exact this
    have hlJ16 : lJ.length ≤ maxLen := by rw [hlJ]; unfold fitL maxLen; split <;> simp <;> omega
    have hlM16 : lM.length ≤ maxLen := by rw [hlM]; unfold fitL maxLen; split <;> simp <;> omega
    clear RA RB RC hdJ hlJ heJ hdM hlM heM
    go_wp2_with (go_at_call 8; refine hR.mono ?_; rintro e w2 ⟨rfl, hb2⟩; refine Hid.out ?_)
    refine Lib.hid ?_
    clear hR
    have hB2 : Below w.heap.size w w2 := hbA.trans (hb2.mono hbA.size)
    have hb12 : Below w1.heap.size w1 w2 := ((Below.refl _ w1).alloc (Nat.le_refl _) _).trans (hb2.mono (by simp))
    have hz2 : w.heap.size + 3 ≤ w2.heap.size := by have := hb12.size; omega
    have HA : Hid (∀ W, Below w2.heap.size w2 W → CatsAt W A.p A.xs) := fun W h => (ha.below hB2).below h
    have HB : Hid (∀ W, Below w2.heap.size w2 W → CatsAt W B.p B.xs) := fun W h => (hb.below hB2).below h
    have HC : Hid (∀ W, Below w2.heap.size w2 W → CatsAt W C.p C.xs) := fun W h => (hc.below hB2).below h
    have i0 := (hb12.cell (p := ⟨w.heap.size, 0, none⟩) (by simp; omega)).trans d0
    have i1 := (hb12.cell (p := ⟨w.heap.size, 1, none⟩) (by simp; omega)).trans d1
    have i2 := (hb12.cell (p := ⟨w.heap.size + 1, 0, none⟩) (by simp; omega)).trans e0
    have i3 := (hb12.cell (p := ⟨w.heap.size + 1, 1, none⟩) (by simp; omega)).trans e1
    have i4 := (hb12.cell (p := ⟨w.heap.size + 1 + 1, 0, none⟩) (by simp; omega)).trans f0
    have i5 := (hb12.cell (p := ⟨w.heap.size + 1 + 1, 1, none⟩) (by simp; omega)).trans f1
    have HW : Hid (∀ W, Below w2.heap.size w2 W → W.cell? ⟨w.heap.size, 0, none⟩ = some (.int .i64 A.d) ∧ W.cell? ⟨w.heap.size, 1, none⟩ = some (.slice A.p A.xs.length A.cap) ∧ W.cell? ⟨w.heap.size + 1, 0, none⟩ = some (.int .i64 B.d) ∧ W.cell? ⟨w.heap.size + 1, 1, none⟩ = some (.slice B.p B.xs.length B.cap) ∧ W.cell? ⟨w.heap.size + 1 + 1, 0, none⟩ = some (.int .i64 C.d) ∧ W.cell? ⟨w.heap.size + 1 + 1, 1, none⟩ = some (.slice C.p C.xs.length C.cap)) := fun W h => ⟨(h.cell (p := ⟨w.heap.size, 0, none⟩) (by simp; omega)).trans i0, (h.cell (p := ⟨w.heap.size, 1, none⟩) (by simp; omega)).trans i1, (h.cell (p := ⟨w.heap.size + 1, 0, none⟩) (by simp; omega)).trans i2, (h.cell (p := ⟨w.heap.size + 1, 1, none⟩) (by simp; omega)).trans i3, (h.cell (p := ⟨w.heap.size + 1 + 1, 0, none⟩) (by simp; omega)).trans i4, (h.cell (p := ⟨w.heap.size + 1 + 1, 1, none⟩) (by simp; omega)).trans i5⟩
    clear ha hb hc hb1 hb2 d0 d1 e0 e1 f0 f1 hb12
    go_wp2_with (go_at_call 14; refine Calls.mono (H14.out _ (HA.out _ (Below.refl _ _)) (HB.out _ (Below.refl _ _))) ?_; rintro e w3 ⟨v3, rfl, hR3, hb3⟩; refine Hid.out ?_)
    refine Lib.hid ?_
    clear i0 i1 i2 i3 i4 i5 H14
    obtain ⟨p3, c3, rfl, hc3, hl3⟩ := hR3.out
    obtain ⟨X3, hX3⟩ : ∃ X, X = w3.alloc (.cells #[.int .i64 dJ, .slice p3 lJ.length c3] 24) := ⟨_, rfl⟩
    have hbX3 : Below w3.heap.size w3 X3 := by rw [hX3]; exact (Below.refl _ _).alloc (Nat.le_refl _) _
    have hzX3 : X3.heap.size = w3.heap.size + 1 := by rw [hX3]; simp
    have k30 : X3.cell? ⟨w3.heap.size, 0, none⟩ = some (.int .i64 dJ) := by rw [hX3]; simp [go_sem]
    have k31 : X3.cell? ⟨w3.heap.size, 1, none⟩ = some (.slice p3 lJ.length c3) := by rw [hX3]; simp [go_sem]
    have h2X3 : Below w2.heap.size w2 X3 := hb3.trans (hbX3.mono hb3.size)
    have hcX3 : CatsAt X3 p3 lJ := hc3.below hbX3
    have z3 : w3.heap.size < X3.heap.size := by omega
    have GJ : Hid (∀ W, Below X3.heap.size X3 W → CatsAt W p3 lJ) := fun W h => hcX3.below h
    have GW : Hid (∀ W, Below X3.heap.size X3 W → (W.cell? ⟨w.heap.size, 0, none⟩ = some (.int .i64 A.d) ∧ W.cell? ⟨w.heap.size, 1, none⟩ = some (.slice A.p A.xs.length A.cap) ∧ W.cell? ⟨w.heap.size + 1, 0, none⟩ = some (.int .i64 B.d) ∧ W.cell? ⟨w.heap.size + 1, 1, none⟩ = some (.slice B.p B.xs.length B.cap) ∧ W.cell? ⟨w.heap.size + 1 + 1, 0, none⟩ = some (.int .i64 C.d) ∧ W.cell? ⟨w.heap.size + 1 + 1, 1, none⟩ = some (.slice C.p C.xs.length C.cap)) ∧ W.cell? ⟨w3.heap.size, 0, none⟩ = some (.int .i64 dJ) ∧ W.cell? ⟨w3.heap.size, 1, none⟩ = some (.slice p3 lJ.length c3)) := fun W h => ⟨HW.out W (h2X3.trans (h.mono h2X3.size)), (h.cell (p := ⟨w3.heap.size, 0, none⟩) z3).trans k30, (h.cell (p := ⟨w3.heap.size, 1, none⟩) z3).trans k31⟩
    have GA : Hid (∀ W, Below X3.heap.size X3 W → CatsAt W A.p A.xs) := fun W h => HA.out W (h2X3.trans (h.mono h2X3.size))
    have GB : Hid (∀ W, Below X3.heap.size X3 W → CatsAt W B.p B.xs) := fun W h => HB.out W (h2X3.trans (h.mono h2X3.size))
    have GC : Hid (∀ W, Below X3.heap.size X3 W → CatsAt W C.p C.xs) := fun W h => HC.out W (h2X3.trans (h.mono h2X3.size))
    have hBX3 : Below w.heap.size w X3 := hB2.trans (h2X3.mono hB2.size)
    have hx : Below X3.heap.size X3 X3 := Below.refl _ _
    obtain ⟨⟨m0, m1, m2, m3, m4, m5⟩, m6, m7⟩ := GW.out X3 hx
    have sJ := same_self dJ lJ
    clear hR3 hc3 hcX3 k30 k31 HW HA HB HC h2X3
    have e3 : w.heap.size < w3.heap.size := by have := hb3.size; omega
    have e3b : w.heap.size + 1 < w3.heap.size := by have := hb3.size; omega
    have e3c : w.heap.size + 1 + 1 < w3.heap.size := by have := hb3.size; omega
    go_upto_region 6 with fail
    rw [← hX3]
    clear hX3
    go_cut [56] (fun c wx => c = .bool false ∧ Below X3.heap.size X3 wx)
    case first =>
      have J4 := HJ4.out
      clear HJ4 HM4 H15 H16
      rcases J4 with rfl | ⟨rfl, j1, j2, j3⟩ | ⟨rfl, j1, j2, j3, j4⟩ | ⟨rfl, j1, j2, j3, j4, j5⟩
      all_goals
        go_wp2_with (first
        | (go_at_call 13; with_reducible refine Calls.mono (Leq_any A.d dJ A.p p3 A.cap c3 A.xs lJ _ ma hlJ16 ka hl3 (GA.out _ hx) (GJ.out _ hx)) ?_; rintro e w' ⟨rfl, hb'⟩; replace hx := hx.trans (hb'.mono hx.size); clear hb' m0 m1 m2 m3 m4 m5 m6 m7; obtain ⟨⟨m0, m1, m2, m3, m4, m5⟩, m6, m7⟩ := GW.out _ hx)
        | (go_at_call 13; with_reducible refine Calls.mono (Leq_any B.d dJ B.p p3 B.cap c3 B.xs lJ _ mb hlJ16 kb hl3 (GB.out _ hx) (GJ.out _ hx)) ?_; rintro e w' ⟨rfl, hb'⟩; replace hx := hx.trans (hb'.mono hx.size); clear hb' m0 m1 m2 m3 m4 m5 m6 m7; obtain ⟨⟨m0, m1, m2, m3, m4, m5⟩, m6, m7⟩ := GW.out _ hx)
        | (go_at_call 13; with_reducible refine Calls.mono (Leq_any A.d C.d A.p C.p A.cap C.cap A.xs C.xs _ ma mc ka kc (GA.out _ hx) (GC.out _ hx)) ?_; rintro e w' ⟨rfl, hb'⟩; replace hx := hx.trans (hb'.mono hx.size); clear hb' m0 m1 m2 m3 m4 m5 m6 m7; obtain ⟨⟨m0, m1, m2, m3, m4, m5⟩, m6, m7⟩ := GW.out _ hx)
        | (go_at_call 13; with_reducible refine Calls.mono (Leq_any B.d C.d B.p C.p B.cap C.cap B.xs C.xs _ mb mc kb kc (GB.out _ hx) (GC.out _ hx)) ?_; rintro e w' ⟨rfl, hb'⟩; replace hx := hx.trans (hb'.mono hx.size); clear hb' m0 m1 m2 m3 m4 m5 m6 m7; obtain ⟨⟨m0, m1, m2, m3, m4, m5⟩, m6, m7⟩ := GW.out _ hx)
        | (go_at_call 13; with_reducible refine Calls.mono (Leq_any dJ C.d p3 C.p c3 C.cap lJ C.xs _ hlJ16 mc hl3 kc (GJ.out _ hx) (GC.out _ hx)) ?_; rintro e w' ⟨rfl, hb'⟩; replace hx := hx.trans (hb'.mono hx.size); clear hb' m0 m1 m2 m3 m4 m5 m6 m7; obtain ⟨⟨m0, m1, m2, m3, m4, m5⟩, m6, m7⟩ := GW.out _ hx))
        go_meet
        exact ⟨rfl, hx⟩
    case rest =>
    clear hx m0 m1 m2 m3 m4 m5 m6 m7
    obtain ⟨rfl, hx⟩ := hcut
    obtain ⟨⟨m0, m1, m2, m3, m4, m5⟩, m6, m7⟩ := GW.out _ hx
    go_wp2_with (go_at_call 15; refine Calls.mono (H15.out _ (GA.out _ hx) (GB.out _ hx)) ?_; rintro e w4 ⟨v4, rfl, hR4, hb4⟩; refine Hid.out ?_)
    refine Lib.hid ?_
    have hx4 : Below X3.heap.size X3 w4 := hx.trans (hb4.mono hx.size)
    clear m0 m1 m2 m3 m4 m5 m6 m7 H15 hx hb4
    obtain ⟨p4, c4, rfl, hc4, hl4⟩ := hR4.out
    obtain ⟨X4, hX4⟩ : ∃ X, X = w4.alloc (.cells #[.int .i64 dM, .slice p4 lM.length c4] 24) := ⟨_, rfl⟩
    have hbX4 : Below w4.heap.size w4 X4 := by rw [hX4]; exact (Below.refl _ _).alloc (Nat.le_refl _) _
    have hzX4 : X4.heap.size = w4.heap.size + 1 := by rw [hX4]; simp
    have k40 : X4.cell? ⟨w4.heap.size, 0, none⟩ = some (.int .i64 dM) := by rw [hX4]; simp [go_sem]
    have k41 : X4.cell? ⟨w4.heap.size, 1, none⟩ = some (.slice p4 lM.length c4) := by rw [hX4]; simp [go_sem]
    have h3X4 : Below X3.heap.size X3 X4 := hx4.trans (hbX4.mono hx4.size)
    have hcX4 : CatsAt X4 p4 lM := hc4.below hbX4
    have z4 : w4.heap.size < X4.heap.size := by omega
    have KM : Hid (∀ W, Below X4.heap.size X4 W → CatsAt W p4 lM) := fun W h => hcX4.below h
    have KW : Hid (∀ W, Below X4.heap.size X4 W → ((W.cell? ⟨w.heap.size, 0, none⟩ = some (.int .i64 A.d) ∧ W.cell? ⟨w.heap.size, 1, none⟩ = some (.slice A.p A.xs.length A.cap) ∧ W.cell? ⟨w.heap.size + 1, 0, none⟩ = some (.int .i64 B.d) ∧ W.cell? ⟨w.heap.size + 1, 1, none⟩ = some (.slice B.p B.xs.length B.cap) ∧ W.cell? ⟨w.heap.size + 1 + 1, 0, none⟩ = some (.int .i64 C.d) ∧ W.cell? ⟨w.heap.size + 1 + 1, 1, none⟩ = some (.slice C.p C.xs.length C.cap)) ∧ W.cell? ⟨w3.heap.size, 0, none⟩ = some (.int .i64 dJ) ∧ W.cell? ⟨w3.heap.size, 1, none⟩ = some (.slice p3 lJ.length c3)) ∧ W.cell? ⟨w4.heap.size, 0, none⟩ = some (.int .i64 dM) ∧ W.cell? ⟨w4.heap.size, 1, none⟩ = some (.slice p4 lM.length c4)) := fun W h => ⟨GW.out W (h3X4.trans (h.mono h3X4.size)), (h.cell (p := ⟨w4.heap.size, 0, none⟩) z4).trans k40, (h.cell (p := ⟨w4.heap.size, 1, none⟩) z4).trans k41⟩
    have KA : Hid (∀ W, Below X4.heap.size X4 W → CatsAt W A.p A.xs) := fun W h => GA.out W (h3X4.trans (h.mono h3X4.size))
    have KB : Hid (∀ W, Below X4.heap.size X4 W → CatsAt W B.p B.xs) := fun W h => GB.out W (h3X4.trans (h.mono h3X4.size))
    have KC : Hid (∀ W, Below X4.heap.size X4 W → CatsAt W C.p C.xs) := fun W h => GC.out W (h3X4.trans (h.mono h3X4.size))
    have KJ : Hid (∀ W, Below X4.heap.size X4 W → CatsAt W p3 lJ) := fun W h => GJ.out W (h3X4.trans (h.mono h3X4.size))
    have hBX4 : Below w.heap.size w X4 := hBX3.trans (h3X4.mono hBX3.size)
    have hy : Below X4.heap.size X4 X4 := Below.refl _ _
    obtain ⟨⟨⟨m0, m1, m2, m3, m4, m5⟩, m6, m7⟩, m8, m9⟩ := KW.out X4 hy
    clear hR4 hc4 hcX4 k40 k41 GW GA GB GC GJ h3X4
    go_upto_region 9 with fail
    rw [← hX4]
    clear hX4
    go_cut [92] (fun c wx => c = .bool false ∧ Below X4.heap.size X4 wx)
    case first =>
      have M4 := HM4.out
      clear HJ4 HM4 H16
      rcases M4 with rfl | ⟨rfl, j1, j2, j3⟩ | ⟨rfl, j1, j2, j3, j4⟩ | ⟨rfl, j1, j2, j3, j4, j5⟩
      all_goals
        go_wp2_with (first
        | (go_at_call 13; with_reducible refine Calls.mono (Leq_any dM A.d p4 A.p c4 A.cap lM A.xs _ hlM16 ma hl4 ka (KM.out _ hy) (KA.out _ hy)) ?_; rintro e w' ⟨rfl, hb'⟩; replace hy := hy.trans (hb'.mono hy.size); clear hb' m0 m1 m2 m3 m4 m5 m6 m7 m8 m9; obtain ⟨⟨⟨m0, m1, m2, m3, m4, m5⟩, m6, m7⟩, m8, m9⟩ := KW.out _ hy)
        | (go_at_call 13; with_reducible refine Calls.mono (Leq_any dM B.d p4 B.p c4 B.cap lM B.xs _ hlM16 mb hl4 kb (KM.out _ hy) (KB.out _ hy)) ?_; rintro e w' ⟨rfl, hb'⟩; replace hy := hy.trans (hb'.mono hy.size); clear hb' m0 m1 m2 m3 m4 m5 m6 m7 m8 m9; obtain ⟨⟨⟨m0, m1, m2, m3, m4, m5⟩, m6, m7⟩, m8, m9⟩ := KW.out _ hy)
        | (go_at_call 13; with_reducible refine Calls.mono (Leq_any C.d A.d C.p A.p C.cap A.cap C.xs A.xs _ mc ma kc ka (KC.out _ hy) (KA.out _ hy)) ?_; rintro e w' ⟨rfl, hb'⟩; replace hy := hy.trans (hb'.mono hy.size); clear hb' m0 m1 m2 m3 m4 m5 m6 m7 m8 m9; obtain ⟨⟨⟨m0, m1, m2, m3, m4, m5⟩, m6, m7⟩, m8, m9⟩ := KW.out _ hy)
        | (go_at_call 13; with_reducible refine Calls.mono (Leq_any C.d B.d C.p B.p C.cap B.cap C.xs B.xs _ mc mb kc kb (KC.out _ hy) (KB.out _ hy)) ?_; rintro e w' ⟨rfl, hb'⟩; replace hy := hy.trans (hb'.mono hy.size); clear hb' m0 m1 m2 m3 m4 m5 m6 m7 m8 m9; obtain ⟨⟨⟨m0, m1, m2, m3, m4, m5⟩, m6, m7⟩, m8, m9⟩ := KW.out _ hy)
        | (go_at_call 13; with_reducible refine Calls.mono (Leq_any C.d dM C.p p4 C.cap c4 C.xs lM _ mc hlM16 kc hl4 (KC.out _ hy) (KM.out _ hy)) ?_; rintro e w' ⟨rfl, hb'⟩; replace hy := hy.trans (hb'.mono hy.size); clear hb' m0 m1 m2 m3 m4 m5 m6 m7 m8 m9; obtain ⟨⟨⟨m0, m1, m2, m3, m4, m5⟩, m6, m7⟩, m8, m9⟩ := KW.out _ hy))
        go_meet
        exact ⟨rfl, hy⟩
    case rest =>
    clear hy m0 m1 m2 m3 m4 m5 m6 m7 m8 m9
    obtain ⟨rfl, hy⟩ := hcut
    obtain ⟨⟨⟨m0, m1, m2, m3, m4, m5⟩, m6, m7⟩, m8, m9⟩ := KW.out _ hy
    go_wp2_with (go_at_call 14; refine Calls.mono (H16.out _ (KA.out _ hy) (KB.out _ hy)) ?_; rintro e w5 ⟨v5, rfl, hR5, hb5⟩; refine Hid.out ?_)
    refine Lib.hid ?_
    have hy5 : Below X4.heap.size X4 w5 := hy.trans (hb5.mono hy.size)
    clear m0 m1 m2 m3 m4 m5 m6 m7 m8 m9 H16 hy hb5
    obtain ⟨p5, c5, rfl, hc5, hl5⟩ := hR5.out
    obtain ⟨⟨⟨_, _, _, _, _, _⟩, m6, m7⟩, _, _⟩ := KW.out w5 hy5
    have z3w : w3.heap.size < w5.heap.size := by have := hy5.size; have := hx4.size; omega
    have hcJ := KJ.out w5 hy5
    have H12 : Hid (∀ W, Below w5.heap.size w5 W → Calls Tryd.prog 12 #[.agg #[.int .i64 dJ, .slice p3 lJ.length c3], .agg #[.int .i64 dJ, .slice p5 lJ.length c5]] W fun e w' => e = .returned (.bool true) ∧ Below W.heap.size W w') := fun W h => by
      rw [← sJ]; exact Same_any dJ dJ p3 p5 c3 c5 lJ lJ W hlJ16 hlJ16 (hcJ.below h) (hc5.below h)
    have hB5 : Below w.heap.size w w5 := hBX4.trans (hy5.mono hBX4.size)
    clear hR5 hc5 hcJ KW KA KB KC KJ KM sJ
    go_wp2_with (go_at_call 12; refine Calls.mono (H12.out _ ((Below.refl _ _).alloc (Nat.le_refl _) _)) ?_; rintro e w6 ⟨rfl, hb6⟩)
    go_ret
    exact ⟨ret_bool (by simp), hB5.trans (((Below.refl _ w5).alloc (Nat.le_refl _) _ |>.trans (hb6.mono (by simp))).mono hB5.size)⟩
  · have hr' : allRight [A, B, C] = false := by simpa using hr
    rw [hr'] at hR
    go_wp2_with (go_at_call 8; refine hR.mono ?_; rintro e w2 ⟨rfl, hb2⟩)
    go_ret
    exact ⟨rfl, hbA.trans (hb2.mono hbA.size)⟩
end Go.Proofs.YtibnmiigfiofmabDoor
