/- What Take, Forget and Alerts of package wait do. -/
import Derived.Test.YthknnmllibdggaaWait5
namespace Go.Proofs.Ythknnmllibdggaa
open Go.RowKit Go.Sort
def takeV (al : Int → List Int) (t : Int) : Value := match al t with | [] => .tuple #[.int .i64 0, .bool false] | c :: _ => .tuple #[.int .i64 c, .bool true]
set_option maxRecDepth 100000 in
set_option maxHeartbeats 1000000 in
theorem Take_any (w : World) (rb : Nat) (F : Nat → Prop) (all : List Who) (al : Int → List Int) (N : Nat) (t : Int) (hti : i64 t) (h : RA w rb F all al N) (hN : N < 900000) :
    Calls Try.prog 18 #[pv rb, .int .i64 t] w fun e w' => e = .returned (takeV al t) ∧ RA w' rb F all (setI al t (al t).tail) N ∧ Fm w w' F := by
  obtain ⟨R, hR, hrb, hal, hA, hRN, hF⟩ := id h
  have c3 := hR.cell.2.2.2
  rw [hrb] at c3
  cases hat : R.al t with
  | nil =>
    have ha0 : al t = [] := by rw [← hA t, hat]; rfl
    have hT : takeV al t = .tuple #[.int .i64 0, .bool false] := by unfold takeV; rw [ha0]
    have hs : setI al t (al t).tail = al := by
      funext t'; unfold setI; split
      · rename_i e; rw [e, ha0]; rfl
      · rfl
    rw [hT, hs]
    have hl := hR.lookA_no hti hat
    have HX := Lib.hid h
    clear h hR hF hA hal hrb hRN hat ha0 hT hs
    go_enter Try.func18, Try.ntmps18
    go_wp2_with (go_at_call 41; refine (sizeI_nil _).mono ?_; rintro e w3 ⟨rfl, hw3⟩; rw [hw3]; clear hw3 w3)
    refine bodyPost_ret (v := .tuple #[.int .i64 0, .bool false]) (by simp [results, Try.results18, go_sem]) rfl ⟨rfl, HX.out, Fm.refl _ _⟩
  | cons a rest =>
    have hne : R.al t ≠ [] := by rw [hat]; simp
    have ha0 : al t = a.c :: rest.map (·.c) := by rw [← hA t, hat]; rfl
    have hT : takeV al t = .tuple #[.int .i64 a.c, .bool true] := by unfold takeV; rw [ha0]
    rw [hT, ha0, List.tail_cons]
    have hl := hR.lookA_yes hti hne
    obtain ⟨n3, hn3, hm3⟩ := hR.ma
    have hq := hR.qa t hne
    rw [hat] at hq
    have hq' : QAI w (R.aq t) ([] ++ ⟨a.I, .int .i64 a.c⟩ :: itA rest) := hq
    have hla := hR.lenA t
    rw [hat] at hla
    simp at hla
    have hrl : (itA rest).length = rest.length := by unfold itA; simp
    have HS := sizeI w _ _ hq
    obtain ⟨n, hn⟩ : ∃ n : Int, ((itA (a :: rest)).length : Int) = n := ⟨_, rfl⟩
    rw [hn] at HS
    have hn0 : 0 < n := by rw [← hn]; unfold itA; simp
    have hn1 : ¬ n = 0 := by omega
    have q0 : w.cell? ⟨R.aq t, 0, none⟩ = some (pv a.I) := by simp [World.cell?, hq.blk, itA, hdV]
    have HC := Lib.hid (cutA_any w R.m3 n3 (R.aq t) R.fa [] (itA rest) ⟨a.I, .int .i64 a.c⟩ t hm3 hti (by simp [hrl]; omega) (by rw [hR.fa t, if_neg hne]) hq')
    have hxi := hq'.item
    have HFn : Hid (∀ w1, (∃ n' f', MAt w1 3 R.m3 n' f' ∧ n' ≤ n3 ∧ ([] ++ itA rest = [] → f' (ky t) = none) ∧ ([] ++ itA rest ≠ [] → f' (ky t) = some (R.aq t)) ∧ ∀ k', k' ≠ ky t → f' k' = R.fa k') → ([] ++ itA rest ≠ [] → QAI w1 (R.aq t) ([] ++ itA rest)) → Fm w w1 (fun k => k = R.m3 ∨ qf (R.aq t) ([] ++ itA rest) k) → RA w1 rb F all (setI al t (rest.map (·.c))) N ∧ Fm w w1 F ∧ w1.cell? ⟨a.I, 0, none⟩ = some (.int .i64 a.c)) := by
      rintro w1 ⟨n', f', g1, g2, g3, g4, g5⟩ g6 g7
      obtain ⟨R', k1, k2, k3, k4, k5, k6, k7⟩ := alLess_fin (l := rest) hR (fun x hx => by rw [hat]; simp [hx]) (by rw [hat]; simp) (.inl hne) g1 (by omega) (fun e => g3 (itA_nil.2 e)) (fun e => g4 (fun e' => e (itA_nil.1 e'))) g5 (fun e => g6 (fun e' => e (itA_nil.1 e'))) (g7.mono (fun k _ hk => hk.imp id (fun h => ⟨hne, h⟩)))
      refine ⟨⟨R', k1, k2.trans hrb, by rw [k3]; exact hal, fun t' => by rw [k4]; exact setA_c hA t rest t', by omega, fun k hk => hF k (by rw [k6] at hk; exact hk)⟩, k7.mono (fun k _ hk => hF k hk), ?_⟩
      have hkeep : w1.heap[a.I]? = w.heap[a.I]? := g7.same _ (heap_lt hxi) (fun e => by
        rcases e with e | e | e
        · exact hm3.notCells hxi e.symm
        · rw [e] at hxi
          have := hq.blk
          rw [hxi] at this
          simp at this
        · have hnd := hq'.nd
          simp at hnd e
          obtain ⟨y, hy, hye⟩ := e
          exact hnd.1 y hy hye)
      simp [World.cell?, hkeep, hxi]
    have HS2 := Lib.hid HS
    clear h hR hF hA hal hrb hRN hat ha0 hT hne hm3 hn3 hq hq' hla hrl hn HS hxi
    go_enter Try.func18, Try.ntmps18
    go_wp2_with (first | (go_at_call 41; refine HS2.out.mono ?_; rintro e w3 ⟨rfl, hw3⟩; rw [hw3]; clear hw3 w3) | (go_at_call 44; refine HC.out.mono ?_; rintro e w1 ⟨⟨v1, rfl⟩, g1, g2, g3⟩; obtain ⟨k1, k2, k3⟩ := HFn.out w1 g1 g2 g3; have HK1 := Lib.hid k1; have HK2 := Lib.hid k2; clear g1 g2 g3 k1 k2))
    refine bodyPost_ret (v := .tuple #[.int .i64 a.c, .bool true]) (by simp [results, Try.results18, go_sem]) rfl ⟨rfl, HK1.out, HK2.out⟩
set_option maxRecDepth 100000 in
set_option maxHeartbeats 1000000 in
theorem Forget_any (w : World) (rb : Nat) (F : Nat → Prop) (all : List Who) (al : Int → List Int) (N : Nat) (t : Int) (hti : i64 t) (h : RA w rb F all al N) (hN : N < 900000) :
    Calls Try.prog 20 #[pv rb, .int .i64 t] w fun e w' => e = .returned (.bool (waitsA all t)) ∧ RA w' rb F (dropT t all) (setI al t []) N ∧ Fm w w' F := by
  obtain ⟨R, hR, hrb, hal, hA, hRN, hF⟩ := id h
  have c3 := hR.cell.2.2.2
  rw [hrb] at c3
  obtain ⟨n3, hn3, hm3⟩ := hR.ma
  obtain ⟨w1, hdel, g1, g2, s1⟩ := hm3.del (T := 62) (e := 76) keyedI umA (keyI hti) 0
  obtain ⟨R', k1, k2, k3, k4, k5, k6, k7⟩ := alLess_fin (l := []) (t := t) hR (fun x hx => by simp at hx) (by simp) (.inr rfl) g1 (by split <;> omega) (fun _ => by unfold updF; rw [if_pos rfl]) (fun e => absurd rfl e) (fun k hk => by unfold updF; rw [if_neg hk]) (fun e => absurd rfl e) ((Fm.of_grown g2).mono (fun k _ hk => .inl hk))
  have hra1 : RA w1 rb F all (setI al t []) N := ⟨R', k1, k2.trans hrb, by rw [k3]; exact hal, fun t' => by rw [k4]; exact setA_c hA t [] t', by omega, fun k hk => hF k (by rw [k6] at hk; exact hk)⟩
  have HL := Lib.hid (leave_ra w1 rb F all _ N t hti hra1 hN)
  have HK := Lib.hid (k7.mono (G := F) (fun k _ hk => hF k hk))
  clear h hR hF hA hal hrb hRN hm3 hn3 g1 g2 s1 k1 k2 k3 k4 k5 k6 k7 hra1
  go_enter Try.func20, Try.ntmps20
  go_wp2_with (go_at_call 43; refine HL.out.mono ?_; rintro e w4 ⟨rfl, hra4, hf4⟩)
  go_ret
  exact ⟨rfl, hra4, HK.out.trans hf4 (fun _ _ h => h) (fun _ _ h => h)⟩
set_option maxRecDepth 100000 in
set_option maxHeartbeats 1000000 in
theorem Alerts_any (w : World) (rb : Nat) (F : Nat → Prop) (all : List Who) (al : Int → List Int) (N : Nat) (t : Int) (hti : i64 t) (h : RA w rb F all al N) (hN : N < 900000) :
    Calls Try.prog 25 #[pv rb, .int .i64 t] w fun e w' => ∃ v, e = .returned v ∧ NewRow w w' v (al t) ∧ Below w.heap.size w w' := by
  obtain ⟨R, hR, hrb, hal, hA, hRN, hF⟩ := id h
  have c3 := hR.cell.2.2.2
  rw [hrb] at c3
  by_cases hat : R.al t = []
  · have ha0 : al t = [] := by rw [← hA t, hat]; rfl
    rw [ha0]
    have hl := hR.lookA_no hti hat
    obtain ⟨W1, hW1⟩ : ∃ W1, w.alloc (.cells #[.pointer none] 76) = W1 := ⟨_, rfl⟩
    have b01 : Below w.heap.size w W1 := by rw [← hW1]; exact (Below.refl _ _).alloc (Nat.le_refl _) _
    have hbx : Boxed W1 w.heap.size 76 np := by rw [← hW1]; exact heap_new _ _
    have HC := Lib.hid (Collect_nil W1 w.heap.size hbx)
    have HB := Lib.hid b01
    have HW1 := Lib.hid hW1
    clear h hR hF hA hal hrb hRN hat ha0 b01 hbx hW1
    go_enter Try.func25, Try.ntmps25
    go_wp2_with (first | (go_at_call 28; refine (allI_any _ _).mono ?_; rintro e w1 ⟨rfl, hw1⟩; rw [hw1, HW1.out]; clear hw1 w1) | (go_at_call 46; refine HC.out.mono ?_; rintro e w2 ⟨v, rfl, hr, hb⟩))
    go_ret
    exact ⟨v, rfl, row_mono hr HB.out.size, HB.out.trans (hb.mono HB.out.size)⟩
  · have hl := hR.lookA_yes hti hat
    obtain ⟨W1, hW1⟩ : ∃ W1, w.alloc (.cells #[pv (R.aq t)] 76) = W1 := ⟨_, rfl⟩
    have b01 : Below w.heap.size w W1 := by rw [← hW1]; exact (Below.refl _ _).alloc (Nat.le_refl _) _
    have hbx : Boxed W1 w.heap.size 76 (pv (R.aq t)) := by rw [← hW1]; exact heap_new _ _
    have hq := (hR.below b01).qa t hat
    have hla := hR.lenA t
    have hil : (itA (R.al t)).length = (R.al t).length := by unfold itA; simp
    have hc := Collect_any W1 w.heap.size (R.aq t) (itA (R.al t)) (fun i => match i.v with | .int .i64 c => c | _ => 0) hbx hq (by omega) (fun x hx => by
      unfold itA at hx
      obtain ⟨a, _, rfl⟩ := List.mem_map.1 hx
      rfl)
    have hm : (itA (R.al t)).map (fun i => match i.v with | .int .i64 c => c | _ => 0) = al t := by
      rw [← hA t]; unfold itA; rw [List.map_map]; rfl
    rw [hm, hil, show (R.al t).length = (al t).length from by rw [← hA t, List.length_map]] at hc
    have HC := Lib.hid hc
    have HB := Lib.hid b01
    have HW1 := Lib.hid hW1
    clear h hR hF hA hal hrb hRN hat b01 hbx hW1 hq hla hil hc hm
    go_enter Try.func25, Try.ntmps25
    go_wp2_with (first | (go_at_call 28; refine (allI_any _ _).mono ?_; rintro e w1 ⟨rfl, hw1⟩; rw [hw1, HW1.out]; clear hw1 w1) | (go_at_call 46; refine HC.out.mono ?_; rintro e w2 ⟨v, rfl, hr, hb⟩))
    go_ret
    exact ⟨v, rfl, row_mono hr HB.out.size, HB.out.trans (hb.mono HB.out.size)⟩
end Go.Proofs.Ythknnmllibdggaa
