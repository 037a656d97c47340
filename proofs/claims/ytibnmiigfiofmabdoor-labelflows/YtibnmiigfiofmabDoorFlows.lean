/- LabelFlows answers true, for every three labels, whatever the memory. -/
import Derived.Test.YtibnmiigfiofmabDoorLives
import Derived.Test.YtibnmiigfiofmabDoorFlow
import Derived.Deep.DeepCutAuto
namespace Go.Proofs.YtibnmiigfiofmabDoor
open Go.RowKit Go.Sort

theorem labs1 {W : World} {b : Nat} {C : Lab} (h : W.heap[b]? = some (.cells #[.int .i64 C.d, .slice C.p C.xs.length C.cap] 24 (0, 0)))
    (hc : CatsAt W C.p C.xs ∧ C.xs.length ≤ maxLen) : LabsAt W b [C] := by
  intro j hj
  simp only [List.length_cons, List.length_nil] at hj
  match j, hj with
  | 0, _ => exact ⟨by simp [World.cell?, h], by simp [World.cell?, h], hc⟩
theorem calls_bel {P : Program} {f : FuncId} {args : Array Value} {W0 W : World} {v : Value} (hB : Below W0.heap.size W0 W)
    (h : Calls P f args W fun e w' => e = .returned v ∧ Below W.heap.size W w') : Calls P f args W fun e w'' => e = .returned v ∧ ∃ p : GrownBy, w'' = gx W0 p.n p.os :=
  h.mono fun _ _ ⟨he, hb⟩ => ⟨he, below_gx (hB.trans (hb.mono hB.size))⟩
theorem up_plain_any (d : Int) (p : Option Addr) (cap : Nat) (xs : List (Int × Int)) (W0 W : World) (hB : Below W0.heap.size W0 W) (hm : xs.length * 16 ≤ 140737488355328) (hc : CatsAt W p xs) :
    Calls Tryd.prog 20 #[.agg #[.int .i64 d, .slice p xs.length cap]] W fun e w' => ∃ p' cap', e = .returned (.agg #[.int .i64 (ot 0 5 d), .slice p' (upS d xs).length cap']) ∧ ∃ q : GrownBy, w' = gx W0 q.n q.os ∧ CatsAt (gx W0 q.n q.os) p' (upS d xs) :=
  (Up_any d p cap xs W hm hc).mono fun _ w' ⟨v, he, hown, hb⟩ => by
    obtain ⟨p5, cap5, rfl, hc5, _⟩ := own_out hown
    obtain ⟨q, rfl⟩ := below_gx (hB.trans (hb.mono hB.size))
    exact ⟨p5, cap5, he, q, rfl, hc5⟩
theorem down_up_any (d : Int) (p : Option Addr) (cap : Nat) (xs : List (Int × Int)) (W0 W : World) (hpl : plainS d xs = true) (hB : Below W0.heap.size W0 W) (hm : xs.length * 16 ≤ 140737488355328) (hc : CatsAt W p (upS d xs)) :
    Calls Tryd.prog 19 #[.agg #[.int .i64 (ot 0 5 d), .slice p (upS d xs).length cap]] W fun e w' => ∃ p' cap', e = .returned (.agg #[.int .i64 d, .slice p' xs.length cap']) ∧ ∃ q : GrownBy, w' = gx W0 q.n q.os ∧ CatsAt (gx W0 q.n q.os) p' xs :=
  (Down_any (ot 0 5 d) p cap (upS d xs) W (by have := upS_le d xs; omega) hc).mono fun _ w' ⟨v, he, hown, hb⟩ => by
    obtain ⟨p5, cap5, rfl, hc5, _⟩ := own_out hown
    obtain ⟨q, rfl⟩ := below_gx (hB.trans (hb.mono hB.size))
    have e1 := down_up hpl
    unfold dnS upD at e1
    rw [e1] at he hc5
    have e2 : ot 5 0 (ot 0 5 d) = d := ot_back (plain_parts hpl).2.1
    rw [e2] at he
    exact ⟨p5, cap5, he, q, rfl, hc5⟩
theorem same_refl (d : Int) (xs : List (Int × Int)) : sameS d d xs xs = true := by simp [sameS]
theorem bel_drew {W0 : World} {n : Nat} {os : Array Obj} : Below W0.heap.size W0 (gx W0 n os).drew := (gx_below W0 n os).drew

set_option maxRecDepth 100000 in
set_option maxHeartbeats 4000000 in
theorem LabelFlows_any (A B C : Lab) (w : World) (ma : A.xs.length ≤ maxLen) (mb : B.xs.length ≤ maxLen) (mc : C.xs.length ≤ maxLen) (ka : A.xs.length ≤ A.cap) (kb : B.xs.length ≤ B.cap) (kc : C.xs.length ≤ C.cap)
    (ha : CatsAt w A.p A.xs) (hb : CatsAt w B.p B.xs) (hc : CatsAt w C.p C.xs) :
    Calls Tryd.prog 6 #[.agg #[.int .i64 A.d, .slice A.p A.xs.length A.cap], .agg #[.int .i64 B.d, .slice B.p B.xs.length B.cap], .agg #[.int .i64 C.d, .slice C.p C.xs.length C.cap]] w fun e w' => e = .returned (.bool true) ∧ Below w.heap.size w w' := by
  obtain ⟨W3, hW3⟩ : ∃ W3, ((w.alloc (.cells #[.int .i64 A.d, .slice A.p A.xs.length A.cap] 24)).alloc (.cells #[.int .i64 B.d, .slice B.p B.xs.length B.cap] 24)).alloc (.cells #[.int .i64 C.d, .slice C.p C.xs.length C.cap] 24) = W3 := ⟨_, rfl⟩
  have hB3 : Below w.heap.size w W3 := by rw [← hW3]; go_grown
  have hz3 : W3.heap.size = w.heap.size + 3 := by rw [← hW3]; simp
  have a0 : W3.cell? ⟨w.heap.size, 0, none⟩ = some (.int .i64 A.d) := by rw [← hW3]; simp [go_sem]
  have a1 : W3.cell? ⟨w.heap.size, 1, none⟩ = some (.slice A.p A.xs.length A.cap) := by rw [← hW3]; simp [go_sem]
  have b0 : W3.cell? ⟨w.heap.size + 1, 0, none⟩ = some (.int .i64 B.d) := by rw [← hW3]; simp [go_sem]
  have b1 : W3.cell? ⟨w.heap.size + 1, 1, none⟩ = some (.slice B.p B.xs.length B.cap) := by rw [← hW3]; simp [go_sem]
  have c0 : W3.cell? ⟨w.heap.size + 1 + 1, 0, none⟩ = some (.int .i64 C.d) := by rw [← hW3]; simp [go_sem]
  have c1 : W3.cell? ⟨w.heap.size + 1 + 1, 1, none⟩ = some (.slice C.p C.xs.length C.cap) := by rw [← hW3]; simp [go_sem]
  have hL := lives_any W3
  have s0 : ∀ n os, (gx W3 n os).cell? ⟨w.heap.size, 0, none⟩ = some (.int .i64 A.d) := fun n os => cell_gx (a := ⟨w.heap.size, 0, none⟩) (by simp; omega) a0 n os
  have s1 : ∀ n os, (gx W3 n os).cell? ⟨w.heap.size, 1, none⟩ = some (.slice A.p A.xs.length A.cap) := fun n os => cell_gx (a := ⟨w.heap.size, 1, none⟩) (by simp; omega) a1 n os
  have t0 : ∀ n os, (gx W3 n os).cell? ⟨w.heap.size + 1, 0, none⟩ = some (.int .i64 B.d) := fun n os => cell_gx (a := ⟨w.heap.size + 1, 0, none⟩) (by simp; omega) b0 n os
  have t1 : ∀ n os, (gx W3 n os).cell? ⟨w.heap.size + 1, 1, none⟩ = some (.slice B.p B.xs.length B.cap) := fun n os => cell_gx (a := ⟨w.heap.size + 1, 1, none⟩) (by simp; omega) b1 n os
  have u0 : ∀ n os, (gx W3 n os).cell? ⟨w.heap.size + 1 + 1, 0, none⟩ = some (.int .i64 C.d) := fun n os => cell_gx (a := ⟨w.heap.size + 1 + 1, 0, none⟩) (by simp; omega) c0 n os
  have u1 : ∀ n os, (gx W3 n os).cell? ⟨w.heap.size + 1 + 1, 1, none⟩ = some (.slice C.p C.xs.length C.cap) := fun n os => cell_gx (a := ⟨w.heap.size + 1 + 1, 1, none⟩) (by simp; omega) c1 n os
  have HA : Hid (∀ W, Below W3.heap.size W3 W → CatsAt W A.p A.xs) := fun W h => (ha.below hB3).below h
  have HB : Hid (∀ W, Below W3.heap.size W3 W → CatsAt W B.p B.xs) := fun W h => (hb.below hB3).below h
  have HC : Hid (∀ W, Below W3.heap.size W3 W → CatsAt W C.p C.xs) := fun W h => (hc.below hB3).below h
  have HR : Hid (∀ n os, Calls Tryd.prog 8 #[.slice (some ⟨(gx W3 n os).heap.size, 0, none⟩) 1 1] ((gx W3 n os).alloc (.cells #[.int .i64 C.d, .slice C.p C.xs.length C.cap] 24)) fun e w'' => e = .returned (.bool (rightS C.d C.xs)) ∧ ∃ p : GrownBy, w'' = gx W3 p.n p.os) := fun n os => by
    have hbA : Below W3.heap.size W3 ((gx W3 n os).alloc (.cells #[.int .i64 C.d, .slice C.p C.xs.length C.cap] 24)) := (gx_below W3 n os).alloc (gx_below W3 n os).size _
    have := right_any (gx W3 n os).heap.size [C] _ (by simp) (by simp) (labs1 (World.alloc_heap_new (gx W3 n os) _) ⟨HC.out _ hbA, mc⟩)
    simp only [List.length_cons, List.length_nil, Nat.zero_add, allRight, List.all_cons, List.all_nil, Bool.and_true] at this
    exact calls_bel hbA this
  clear ha hb hc a0 a1 b0 b1 c0 c1
  go_enter Tryd.func6, Tryd.ntmps6
  go_wp2_with (go_at_call 7; refine hL.mono ?_; rintro e w1 ⟨rfl, hb1⟩; obtain ⟨⟨n1, os1⟩, rfl⟩ := below_gx hb1; refine Hid.out ?_)
  refine Lib.hid ?_
  clear hL hW3 hb1
  by_cases pa : plainS A.d A.xs = true
  case neg =>
    have pa' : plainS A.d A.xs = false := by simpa using pa
    go_wp2_with (go_at_call 16; with_reducible refine Calls.mono (calls_bel (W0 := W3) (gx_below _ _ _) (refPlain_any A.d A.p A.cap A.xs _ ma (HA.out _ (gx_below _ _ _)))) ?_; rintro e w' ⟨rfl, ⟨n', os'⟩, rfl⟩)
    go_ret
    exact ⟨rfl, hB3.trans ((gx_below W3 _ _).mono hB3.size)⟩
  by_cases pb : plainS B.d B.xs = true
  case neg =>
    have pb' : plainS B.d B.xs = false := by simpa using pb
    go_wp2_with (first
      | (go_at_call 16; with_reducible refine Calls.mono (calls_bel (W0 := W3) (gx_below _ _ _) (refPlain_any A.d A.p A.cap A.xs _ ma (HA.out _ (gx_below _ _ _)))) ?_; rintro e w' ⟨rfl, ⟨n', os'⟩, rfl⟩)
      | (go_at_call 16; with_reducible refine Calls.mono (calls_bel (W0 := W3) (gx_below _ _ _) (refPlain_any B.d B.p B.cap B.xs _ mb (HB.out _ (gx_below _ _ _)))) ?_; rintro e w' ⟨rfl, ⟨n', os'⟩, rfl⟩))
    go_ret
    exact ⟨rfl, hB3.trans ((gx_below W3 _ _).mono hB3.size)⟩
  by_cases rc : rightS C.d C.xs = true
  case neg =>
    have rc' : rightS C.d C.xs = false := by simpa using rc
    go_wp2_with (first
      | (go_at_call 16; with_reducible refine Calls.mono (calls_bel (W0 := W3) (gx_below _ _ _) (refPlain_any A.d A.p A.cap A.xs _ ma (HA.out _ (gx_below _ _ _)))) ?_; rintro e w' ⟨rfl, ⟨n', os'⟩, rfl⟩)
      | (go_at_call 16; with_reducible refine Calls.mono (calls_bel (W0 := W3) (gx_below _ _ _) (refPlain_any B.d B.p B.cap B.xs _ mb (HB.out _ (gx_below _ _ _)))) ?_; rintro e w' ⟨rfl, ⟨n', os'⟩, rfl⟩)
      | (go_at_call 8; refine Calls.mono (HR.out _ _) ?_; rintro e w' ⟨rfl, ⟨n', os'⟩, rfl⟩))
    go_ret
    exact ⟨rfl, hB3.trans ((gx_below W3 _ _).mono hB3.size)⟩
  go_wp2_with (first
    | (go_at_call 16; with_reducible refine Calls.mono (calls_bel (W0 := W3) (gx_below _ _ _) (refPlain_any A.d A.p A.cap A.xs _ ma (HA.out _ (gx_below _ _ _)))) ?_; rintro e w' ⟨rfl, ⟨n', os'⟩, rfl⟩)
    | (go_at_call 16; with_reducible refine Calls.mono (calls_bel (W0 := W3) (gx_below _ _ _) (refPlain_any B.d B.p B.cap B.xs _ mb (HB.out _ (gx_below _ _ _)))) ?_; rintro e w' ⟨rfl, ⟨n', os'⟩, rfl⟩)
    | (go_at_call 8; refine Calls.mono (HR.out _ _) ?_; rintro e w' ⟨rfl, ⟨n', os'⟩, rfl⟩))
  have hla : A.xs.length * 16 ≤ 140737488355328 := by have := (right_rise (plain_parts pa).1).2.2.1; omega
  have hlb : B.xs.length * 16 ≤ 140737488355328 := by have := (right_rise (plain_parts pb).1).2.2.1; omega
  go_cut [39] (fun c wx => c = .bool false ∧ ∃ p : GrownBy, wx = gx W3 p.n p.os)
  case first =>
    have hsr := same_refl A.d A.xs
    by_cases hal : altersS A.d C.d A.xs C.xs = true
    · have hse := alters_sees hal
      go_region_law (first
        | (go_simp; go_at_call 17; refine Calls.mono (calls_bel (W0 := W3) bel_drew (Alters_any A.d C.d A.p C.p A.cap C.cap A.xs C.xs _ hla mc ka kc (HA.out _ bel_drew) (HC.out _ bel_drew))) ?_; rintro e w' ⟨rfl, ⟨n2, os2⟩, rfl⟩)
        | (go_simp; go_at_call 18; refine Calls.mono (calls_bel (W0 := W3) (gx_below _ _ _) (Sees_any A.d C.d A.p C.p A.cap C.cap A.xs C.xs _ hla mc kc (HA.out _ (gx_below _ _ _)) (HC.out _ (gx_below _ _ _)))) ?_; rintro e w' ⟨rfl, ⟨n3, os3⟩, rfl⟩)
        | (go_simp; go_at_call 20; refine Calls.mono (up_plain_any A.d A.p A.cap A.xs W3 _ (gx_below _ _ _) hla (HA.out _ (gx_below _ _ _))) ?_; rintro e w' ⟨pU, cU, rfl, ⟨n4, os4⟩, rfl, hcU⟩)
        | (go_simp; go_at_call 19; refine Calls.mono (down_up_any A.d pU cU A.xs W3 _ pa (gx_below _ _ _) hla hcU) ?_; rintro e w' ⟨pD, cD, rfl, ⟨n5, os5⟩, rfl, hcD⟩)
        | (go_simp; go_at_call 12; refine Calls.mono (calls_bel (W0 := W3) (gx_below _ _ _) (Same_any A.d A.d pD A.p cD A.cap A.xs A.xs _ ma ma hcD (HA.out _ (gx_below _ _ _)))) ?_; rintro e w' ⟨rfl, ⟨n6, os6⟩, rfl⟩))
      all_goals
        go_wp2_with fail
        go_meet
        exact ⟨rfl, ⟨_, _⟩, rfl⟩
    · have hal' : altersS A.d C.d A.xs C.xs = false := by simpa using hal
      go_region_law (first
        | (go_simp; go_at_call 17; refine Calls.mono (calls_bel (W0 := W3) bel_drew (Alters_any A.d C.d A.p C.p A.cap C.cap A.xs C.xs _ hla mc ka kc (HA.out _ bel_drew) (HC.out _ bel_drew))) ?_; rintro e w' ⟨rfl, ⟨n2, os2⟩, rfl⟩)
        | (go_simp; go_at_call 18; refine Calls.mono (calls_bel (W0 := W3) (gx_below _ _ _) (Sees_any A.d C.d A.p C.p A.cap C.cap A.xs C.xs _ hla mc kc (HA.out _ (gx_below _ _ _)) (HC.out _ (gx_below _ _ _)))) ?_; rintro e w' ⟨rfl, ⟨n3, os3⟩, rfl⟩)
        | (go_simp; go_at_call 20; refine Calls.mono (up_plain_any A.d A.p A.cap A.xs W3 _ (gx_below _ _ _) hla (HA.out _ (gx_below _ _ _))) ?_; rintro e w' ⟨pU, cU, rfl, ⟨n4, os4⟩, rfl, hcU⟩)
        | (go_simp; go_at_call 19; refine Calls.mono (down_up_any A.d pU cU A.xs W3 _ pa (gx_below _ _ _) hla hcU) ?_; rintro e w' ⟨pD, cD, rfl, ⟨n5, os5⟩, rfl, hcD⟩)
        | (go_simp; go_at_call 12; refine Calls.mono (calls_bel (W0 := W3) (gx_below _ _ _) (Same_any A.d A.d pD A.p cD A.cap A.xs A.xs _ ma ma hcD (HA.out _ (gx_below _ _ _)))) ?_; rintro e w' ⟨rfl, ⟨n6, os6⟩, rfl⟩))
      all_goals
        go_wp2_with fail
        go_meet
        exact ⟨rfl, ⟨_, _⟩, rfl⟩
  case rest =>
  obtain ⟨rfl, ⟨n7, os7⟩, rfl⟩ := hcut
  clear HR
  go_upto_region 7 with fail
  go_cut [61] (fun c wx => c = .bool false ∧ ∃ p : GrownBy, wx = gx W3 p.n p.os)
  case first =>
    by_cases lab : leqS A.d B.d A.xs B.xs = true
    case neg =>
      have lab' : leqS A.d B.d A.xs B.xs = false := by simpa using lab
      go_wp2_with (first
        | (go_at_call 13; with_reducible refine Calls.mono (calls_bel (W0 := W3) (gx_below _ _ _) (Leq_any A.d B.d A.p B.p A.cap B.cap A.xs B.xs _ ma mb ka kb (HA.out _ (gx_below _ _ _)) (HB.out _ (gx_below _ _ _)))) ?_; rintro e w' ⟨rfl, ⟨n', os'⟩, rfl⟩)
        | (go_at_call 21; with_reducible refine Calls.mono (calls_bel (W0 := W3) (gx_below _ _ _) (refFree_any A.d A.p A.cap A.xs _ ma (HA.out _ (gx_below _ _ _)))) ?_; rintro e w' ⟨rfl, ⟨n', os'⟩, rfl⟩)
        | (go_at_call 21; with_reducible refine Calls.mono (calls_bel (W0 := W3) (gx_below _ _ _) (refFree_any B.d B.p B.cap B.xs _ mb (HB.out _ (gx_below _ _ _)))) ?_; rintro e w' ⟨rfl, ⟨n', os'⟩, rfl⟩)
        | (go_at_call 18; with_reducible refine Calls.mono (calls_bel (W0 := W3) (gx_below _ _ _) (Sees_any A.d C.d A.p C.p A.cap C.cap A.xs C.xs _ hla mc kc (HA.out _ (gx_below _ _ _)) (HC.out _ (gx_below _ _ _)))) ?_; rintro e w' ⟨rfl, ⟨n', os'⟩, rfl⟩)
        | (go_at_call 18; with_reducible refine Calls.mono (calls_bel (W0 := W3) (gx_below _ _ _) (Sees_any B.d C.d B.p C.p B.cap C.cap B.xs C.xs _ hlb mc kc (HB.out _ (gx_below _ _ _)) (HC.out _ (gx_below _ _ _)))) ?_; rintro e w' ⟨rfl, ⟨n', os'⟩, rfl⟩))
      go_meet
      exact ⟨rfl, ⟨_, _⟩, rfl⟩
    by_cases fa : freeS A.d A.xs = true
    case neg =>
      have fa' : freeS A.d A.xs = false := by simpa using fa
      go_wp2_with (first
        | (go_at_call 13; with_reducible refine Calls.mono (calls_bel (W0 := W3) (gx_below _ _ _) (Leq_any A.d B.d A.p B.p A.cap B.cap A.xs B.xs _ ma mb ka kb (HA.out _ (gx_below _ _ _)) (HB.out _ (gx_below _ _ _)))) ?_; rintro e w' ⟨rfl, ⟨n', os'⟩, rfl⟩)
        | (go_at_call 21; with_reducible refine Calls.mono (calls_bel (W0 := W3) (gx_below _ _ _) (refFree_any A.d A.p A.cap A.xs _ ma (HA.out _ (gx_below _ _ _)))) ?_; rintro e w' ⟨rfl, ⟨n', os'⟩, rfl⟩)
        | (go_at_call 21; with_reducible refine Calls.mono (calls_bel (W0 := W3) (gx_below _ _ _) (refFree_any B.d B.p B.cap B.xs _ mb (HB.out _ (gx_below _ _ _)))) ?_; rintro e w' ⟨rfl, ⟨n', os'⟩, rfl⟩)
        | (go_at_call 18; with_reducible refine Calls.mono (calls_bel (W0 := W3) (gx_below _ _ _) (Sees_any A.d C.d A.p C.p A.cap C.cap A.xs C.xs _ hla mc kc (HA.out _ (gx_below _ _ _)) (HC.out _ (gx_below _ _ _)))) ?_; rintro e w' ⟨rfl, ⟨n', os'⟩, rfl⟩)
        | (go_at_call 18; with_reducible refine Calls.mono (calls_bel (W0 := W3) (gx_below _ _ _) (Sees_any B.d C.d B.p C.p B.cap C.cap B.xs C.xs _ hlb mc kc (HB.out _ (gx_below _ _ _)) (HC.out _ (gx_below _ _ _)))) ?_; rintro e w' ⟨rfl, ⟨n', os'⟩, rfl⟩))
      go_meet
      exact ⟨rfl, ⟨_, _⟩, rfl⟩
    by_cases fb : freeS B.d B.xs = true
    case neg =>
      have fb' : freeS B.d B.xs = false := by simpa using fb
      go_wp2_with (first
        | (go_at_call 13; with_reducible refine Calls.mono (calls_bel (W0 := W3) (gx_below _ _ _) (Leq_any A.d B.d A.p B.p A.cap B.cap A.xs B.xs _ ma mb ka kb (HA.out _ (gx_below _ _ _)) (HB.out _ (gx_below _ _ _)))) ?_; rintro e w' ⟨rfl, ⟨n', os'⟩, rfl⟩)
        | (go_at_call 21; with_reducible refine Calls.mono (calls_bel (W0 := W3) (gx_below _ _ _) (refFree_any A.d A.p A.cap A.xs _ ma (HA.out _ (gx_below _ _ _)))) ?_; rintro e w' ⟨rfl, ⟨n', os'⟩, rfl⟩)
        | (go_at_call 21; with_reducible refine Calls.mono (calls_bel (W0 := W3) (gx_below _ _ _) (refFree_any B.d B.p B.cap B.xs _ mb (HB.out _ (gx_below _ _ _)))) ?_; rintro e w' ⟨rfl, ⟨n', os'⟩, rfl⟩)
        | (go_at_call 18; with_reducible refine Calls.mono (calls_bel (W0 := W3) (gx_below _ _ _) (Sees_any A.d C.d A.p C.p A.cap C.cap A.xs C.xs _ hla mc kc (HA.out _ (gx_below _ _ _)) (HC.out _ (gx_below _ _ _)))) ?_; rintro e w' ⟨rfl, ⟨n', os'⟩, rfl⟩)
        | (go_at_call 18; with_reducible refine Calls.mono (calls_bel (W0 := W3) (gx_below _ _ _) (Sees_any B.d C.d B.p C.p B.cap C.cap B.xs C.xs _ hlb mc kc (HB.out _ (gx_below _ _ _)) (HC.out _ (gx_below _ _ _)))) ?_; rintro e w' ⟨rfl, ⟨n', os'⟩, rfl⟩))
      go_meet
      exact ⟨rfl, ⟨_, _⟩, rfl⟩
    by_cases sa : seesS A.d C.d A.xs C.xs = true
    case neg =>
      have sa' : seesS A.d C.d A.xs C.xs = false := by simpa using sa
      go_wp2_with (first
        | (go_at_call 13; with_reducible refine Calls.mono (calls_bel (W0 := W3) (gx_below _ _ _) (Leq_any A.d B.d A.p B.p A.cap B.cap A.xs B.xs _ ma mb ka kb (HA.out _ (gx_below _ _ _)) (HB.out _ (gx_below _ _ _)))) ?_; rintro e w' ⟨rfl, ⟨n', os'⟩, rfl⟩)
        | (go_at_call 21; with_reducible refine Calls.mono (calls_bel (W0 := W3) (gx_below _ _ _) (refFree_any A.d A.p A.cap A.xs _ ma (HA.out _ (gx_below _ _ _)))) ?_; rintro e w' ⟨rfl, ⟨n', os'⟩, rfl⟩)
        | (go_at_call 21; with_reducible refine Calls.mono (calls_bel (W0 := W3) (gx_below _ _ _) (refFree_any B.d B.p B.cap B.xs _ mb (HB.out _ (gx_below _ _ _)))) ?_; rintro e w' ⟨rfl, ⟨n', os'⟩, rfl⟩)
        | (go_at_call 18; with_reducible refine Calls.mono (calls_bel (W0 := W3) (gx_below _ _ _) (Sees_any A.d C.d A.p C.p A.cap C.cap A.xs C.xs _ hla mc kc (HA.out _ (gx_below _ _ _)) (HC.out _ (gx_below _ _ _)))) ?_; rintro e w' ⟨rfl, ⟨n', os'⟩, rfl⟩)
        | (go_at_call 18; with_reducible refine Calls.mono (calls_bel (W0 := W3) (gx_below _ _ _) (Sees_any B.d C.d B.p C.p B.cap C.cap B.xs C.xs _ hlb mc kc (HB.out _ (gx_below _ _ _)) (HC.out _ (gx_below _ _ _)))) ?_; rintro e w' ⟨rfl, ⟨n', os'⟩, rfl⟩))
      go_meet
      exact ⟨rfl, ⟨_, _⟩, rfl⟩
    case pos =>
      have sb := flow_on fa fb rc lab sa
      go_wp2_with (first
        | (go_at_call 13; with_reducible refine Calls.mono (calls_bel (W0 := W3) (gx_below _ _ _) (Leq_any A.d B.d A.p B.p A.cap B.cap A.xs B.xs _ ma mb ka kb (HA.out _ (gx_below _ _ _)) (HB.out _ (gx_below _ _ _)))) ?_; rintro e w' ⟨rfl, ⟨n', os'⟩, rfl⟩)
        | (go_at_call 21; with_reducible refine Calls.mono (calls_bel (W0 := W3) (gx_below _ _ _) (refFree_any A.d A.p A.cap A.xs _ ma (HA.out _ (gx_below _ _ _)))) ?_; rintro e w' ⟨rfl, ⟨n', os'⟩, rfl⟩)
        | (go_at_call 21; with_reducible refine Calls.mono (calls_bel (W0 := W3) (gx_below _ _ _) (refFree_any B.d B.p B.cap B.xs _ mb (HB.out _ (gx_below _ _ _)))) ?_; rintro e w' ⟨rfl, ⟨n', os'⟩, rfl⟩)
        | (go_at_call 18; with_reducible refine Calls.mono (calls_bel (W0 := W3) (gx_below _ _ _) (Sees_any A.d C.d A.p C.p A.cap C.cap A.xs C.xs _ hla mc kc (HA.out _ (gx_below _ _ _)) (HC.out _ (gx_below _ _ _)))) ?_; rintro e w' ⟨rfl, ⟨n', os'⟩, rfl⟩)
        | (go_at_call 18; with_reducible refine Calls.mono (calls_bel (W0 := W3) (gx_below _ _ _) (Sees_any B.d C.d B.p C.p B.cap C.cap B.xs C.xs _ hlb mc kc (HB.out _ (gx_below _ _ _)) (HC.out _ (gx_below _ _ _)))) ?_; rintro e w' ⟨rfl, ⟨n', os'⟩, rfl⟩))
      go_meet
      exact ⟨rfl, ⟨_, _⟩, rfl⟩
  case rest =>
  obtain ⟨rfl, ⟨n8, os8⟩, rfl⟩ := hcut
  by_cases fa : freeS A.d A.xs = true
  case neg =>
    have fa' : freeS A.d A.xs = false := by simpa using fa
    go_wp2_with (first
      | (go_at_call 21; with_reducible refine Calls.mono (calls_bel (W0 := W3) (gx_below _ _ _) (refFree_any A.d A.p A.cap A.xs _ ma (HA.out _ (gx_below _ _ _)))) ?_; rintro e w' ⟨rfl, ⟨n', os'⟩, rfl⟩)
      | (go_at_call 17; with_reducible refine Calls.mono (calls_bel (W0 := W3) (gx_below _ _ _) (Alters_any A.d C.d A.p C.p A.cap C.cap A.xs C.xs _ hla mc ka kc (HA.out _ (gx_below _ _ _)) (HC.out _ (gx_below _ _ _)))) ?_; rintro e w' ⟨rfl, ⟨n', os'⟩, rfl⟩)
      | (go_at_call 12; with_reducible refine Calls.mono (calls_bel (W0 := W3) (gx_below _ _ _) (Same_any A.d C.d A.p C.p A.cap C.cap A.xs C.xs _ ma mc (HA.out _ (gx_below _ _ _)) (HC.out _ (gx_below _ _ _)))) ?_; rintro e w' ⟨rfl, ⟨n', os'⟩, rfl⟩))
    go_ret
    exact ⟨rfl, hB3.trans ((gx_below W3 _ _).mono hB3.size)⟩
  by_cases hal : altersS A.d C.d A.xs C.xs = true
  case neg =>
    have hal' : altersS A.d C.d A.xs C.xs = false := by simpa using hal
    go_wp2_with (first
      | (go_at_call 21; with_reducible refine Calls.mono (calls_bel (W0 := W3) (gx_below _ _ _) (refFree_any A.d A.p A.cap A.xs _ ma (HA.out _ (gx_below _ _ _)))) ?_; rintro e w' ⟨rfl, ⟨n', os'⟩, rfl⟩)
      | (go_at_call 17; with_reducible refine Calls.mono (calls_bel (W0 := W3) (gx_below _ _ _) (Alters_any A.d C.d A.p C.p A.cap C.cap A.xs C.xs _ hla mc ka kc (HA.out _ (gx_below _ _ _)) (HC.out _ (gx_below _ _ _)))) ?_; rintro e w' ⟨rfl, ⟨n', os'⟩, rfl⟩)
      | (go_at_call 12; with_reducible refine Calls.mono (calls_bel (W0 := W3) (gx_below _ _ _) (Same_any A.d C.d A.p C.p A.cap C.cap A.xs C.xs _ ma mc (HA.out _ (gx_below _ _ _)) (HC.out _ (gx_below _ _ _)))) ?_; rintro e w' ⟨rfl, ⟨n', os'⟩, rfl⟩))
    go_ret
    exact ⟨rfl, hB3.trans ((gx_below W3 _ _).mono hB3.size)⟩
  case pos =>
    have hsm := alters_same fa rc hal
    go_wp2_with (first
      | (go_at_call 21; with_reducible refine Calls.mono (calls_bel (W0 := W3) (gx_below _ _ _) (refFree_any A.d A.p A.cap A.xs _ ma (HA.out _ (gx_below _ _ _)))) ?_; rintro e w' ⟨rfl, ⟨n', os'⟩, rfl⟩)
      | (go_at_call 17; with_reducible refine Calls.mono (calls_bel (W0 := W3) (gx_below _ _ _) (Alters_any A.d C.d A.p C.p A.cap C.cap A.xs C.xs _ hla mc ka kc (HA.out _ (gx_below _ _ _)) (HC.out _ (gx_below _ _ _)))) ?_; rintro e w' ⟨rfl, ⟨n', os'⟩, rfl⟩)
      | (go_at_call 12; with_reducible refine Calls.mono (calls_bel (W0 := W3) (gx_below _ _ _) (Same_any A.d C.d A.p C.p A.cap C.cap A.xs C.xs _ ma mc (HA.out _ (gx_below _ _ _)) (HC.out _ (gx_below _ _ _)))) ?_; rintro e w' ⟨rfl, ⟨n', os'⟩, rfl⟩))
    go_ret
    exact ⟨rfl, hB3.trans ((gx_below W3 _ _).mono hB3.size)⟩
end Go.Proofs.YtibnmiigfiofmabDoor
