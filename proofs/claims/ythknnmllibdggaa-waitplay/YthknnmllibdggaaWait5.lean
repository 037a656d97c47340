/- What Post, Take, Forget and Alerts of package wait do. -/
import Derived.Test.YthknnmllibdggaaWait4
namespace Go.Proofs.Ythknnmllibdggaa
open Go.RowKit Go.Sort
def setI (al : Int → List Int) (t : Int) (l : List Int) : Int → List Int := fun t' => if t' = t then l else al t'
theorem setA_c {R : Rm} {al : Int → List Int} (hA : ∀ t, (R.al t).map (·.c) = al t) (t : Int) (l : List Al) : ∀ t', (setA R.al t l t').map (·.c) = setI al t (l.map (·.c)) t' := by
  intro t'
  unfold setA setI
  split
  · rfl
  · exact hA t'
def postE (al : Int → List Int) (t c : Int) : Int := if (okN t && (decide (0 ≤ c) && decide (c ≤ 255))) = false then 1 else if 8 ≤ (al t).length then 7 else 0
def postW (all : List Who) (al : Int → List Int) (t c : Int) : Bool := decide (postE al t c = 0) && waitsA all t
theorem Fm.nx {w w1 w' : World} {rb N : Nat} {F F' : Nat → Prop} {all : List Who} {al : Int → List Int} (h1 : Fm w w1 F) (h2 : ∀ k, F' k → F k ∨ w.heap.size ≤ k) (h4 : RA w' rb F' all al N) (h5 : Fm w1 w' F') (h6 : ∀ k, F' k → k < w'.heap.size) : Nx w w' rb F all al N :=
  ⟨F', h4, h1.trans h5 (fun _ _ h => h) (fun k hk h => (h2 k h).resolve_right (by omega)), h2, h6⟩
set_option maxRecDepth 100000 in
set_option maxHeartbeats 1000000 in
theorem Post_any (w : World) (rb : Nat) (F : Nat → Prop) (all : List Who) (al : Int → List Int) (N : Nat) (t c : Int) (h : RA w rb F all al N) (hN : N < 800000) :
    Calls Try.prog 17 #[pv rb, .int .i64 t, .int .i64 c] w fun e w' => e = .returned (.tuple #[.bool (postW all al t c), .int .i64 (postE al t c)]) ∧ Nx w w' rb F (if postE al t c = 0 then dropT t all else all) (if postE al t c = 0 then setI al t (al t ++ [c]) else al) (N + 1) := by
  obtain ⟨R, hR, hrb, hal, hA, hRN, hF⟩ := id h
  have HI := Lib.hid (isNumber_any t)
  by_cases h1 : (okN t && (decide (0 ≤ c) && decide (c ≤ 255))) = false
  · have he : postE al t c = 1 := by unfold postE; rw [h1]; rfl
    have hw : postW all al t c = false := by unfold postW; rw [he]; rfl
    rw [hw, he, if_neg (by decide), if_neg (by decide)]
    have HX := Lib.hid (Nx.still (N' := N + 1) h (Below.refl _ _) (by omega))
    clear h hR hF hA hal hrb hRN he hw
    by_cases h0 : okN t = false
    · rw [h0] at HI
      clear h1
      go_enter Try.func17, Try.ntmps17
      go_wp2_with (go_at_call 39; refine (HI.out _).mono ?_; rintro e w2 ⟨rfl, hw2⟩; rw [hw2]; clear hw2 w2)
      refine bodyPost_ret (v := .tuple #[.bool false, .int .i64 1]) (by simp [results, Try.results17, go_sem]) rfl ⟨rfl, HX.out⟩
    · have h0' : okN t = true := by simpa using h0
      rw [h0'] at HI
      rw [h0'] at h1
      by_cases h2 : c < 0
      · clear h1 h0 h0'
        go_enter Try.func17, Try.ntmps17
        go_wp2_with (go_at_call 39; refine (HI.out _).mono ?_; rintro e w2 ⟨rfl, hw2⟩; rw [hw2]; clear hw2 w2)
        refine bodyPost_ret (v := .tuple #[.bool false, .int .i64 1]) (by simp [results, Try.results17, go_sem]) rfl ⟨rfl, HX.out⟩
      · have h3 : 255 < c := by simp at h1; omega
        clear h1 h0 h0'
        go_enter Try.func17, Try.ntmps17
        go_wp2_with (go_at_call 39; refine (HI.out _).mono ?_; rintro e w2 ⟨rfl, hw2⟩; rw [hw2]; clear hw2 w2)
        refine bodyPost_ret (v := .tuple #[.bool false, .int .i64 1]) (by simp [results, Try.results17, go_sem]) rfl ⟨rfl, HX.out⟩
  have h1' : (okN t && (decide (0 ≤ c) && decide (c ≤ 255))) = true := by simpa using h1
  simp at h1'
  obtain ⟨h0, hc0, hc1⟩ := h1'
  rw [h0] at HI
  have hti := okN_i64 h0
  have hc2 : ¬ c < 0 := by omega
  have hc3 : ¬ 255 < c := by omega
  have c3 := hR.cell.2.2.2
  rw [hrb] at c3
  have hlA : (R.al t).length = (al t).length := by rw [← hA t, List.length_map]
  by_cases h8 : 8 ≤ (al t).length
  · have he : postE al t c = 7 := by unfold postE; rw [if_neg h1, if_pos h8]
    have hw : postW all al t c = false := by unfold postW; rw [he]; rfl
    rw [hw, he, if_neg (by decide), if_neg (by decide)]
    have HX := Lib.hid (Nx.still (N' := N + 1) h (Below.refl _ _) (by omega))
    have hne : R.al t ≠ [] := fun e => by rw [e] at hlA; simp at hlA; omega
    have hl := hR.lookA_yes hti hne
    obtain ⟨n, hn⟩ : ∃ n : Int, ((itA (R.al t)).length : Int) = n := ⟨_, rfl⟩
    have hn8 : 8 ≤ n := by have : (itA (R.al t)).length = (R.al t).length := by unfold itA; simp
                           omega
    have HS := sizeI w _ _ (hR.qa t hne)
    rw [hn] at HS
    have HS2 := Lib.hid HS
    clear h hR hF hA hal hrb hRN he hw h1 h0 hti hlA h8 hne hn HS
    go_enter Try.func17, Try.ntmps17
    go_wp2_with (first | (go_at_call 39; refine (HI.out _).mono ?_; rintro e w2 ⟨rfl, hw2⟩; rw [hw2]; clear hw2 w2) | (go_at_call 41; refine HS2.out.mono ?_; rintro e w3 ⟨rfl, hw3⟩; rw [hw3]; clear hw3 w3))
    refine bodyPost_ret (v := .tuple #[.bool false, .int .i64 7]) (by simp [results, Try.results17, go_sem]) rfl ⟨rfl, HX.out⟩
  · have he : postE al t c = 0 := by unfold postE; rw [if_neg h1, if_neg h8]
    have hw : postW all al t c = waitsA all t := by unfold postW; rw [he]; simp
    rw [hw, he, if_pos rfl, if_pos rfl]
    obtain ⟨n3, hn3, hm3⟩ := hR.ma
    have hil : (itA (R.al t)).length = (al t).length := by unfold itA; rw [List.length_map]; exact hlA
    -- the queue's size, whether it is there or not
    obtain ⟨qv, hl, HS⟩ : ∃ qv, (Instr.lookup 62 (.map (some R.m3)) (.int .i64 t) false).run Try.prog w = .ok (.pointer qv) w ∧ Calls Try.prog 41 #[.pointer qv] w fun e w' => e = .returned (.int .i64 (al t).length) ∧ w' = w := by
      by_cases hne : R.al t = []
      · refine ⟨none, hR.lookA_no hti hne, ?_⟩
        rw [← hlA, hne]; exact sizeI_nil w
      · refine ⟨_, hR.lookA_yes hti hne, ?_⟩
        rw [← hil]; exact sizeI w _ _ (hR.qa t hne)
    obtain ⟨n, hn⟩ : ∃ n : Int, ((al t).length : Int) = n := ⟨_, rfl⟩
    have hn8 : ¬ 8 ≤ n := by omega
    rw [hn] at HS
    have HS2 := Lib.hid HS
    have HP := Lib.hid (pushA_any w R.m3 n3 R.fa (itA (R.al t)) t c hm3 hti (by omega) (by omega) (by
      rw [hR.fa t]
      by_cases e : R.al t = []
      · exact .inl ⟨if_pos e, itA_nil.2 e⟩
      · exact .inr ⟨_, if_neg e, fun e' => e (itA_nil.1 e'), hR.qa t e⟩))
    have HF : Hid (∀ w1 Q I n', MAt w1 3 R.m3 n' (updF R.fa (ky t) (some Q)) → n' ≤ n3 + 1 → QAI w1 Q (itA (R.al t) ++ [⟨I, .int .i64 c⟩]) → Fm w w1 (fun k => k = R.m3 ∨ (itA (R.al t) ≠ [] ∧ qf Q (itA (R.al t)) k)) → ((itA (R.al t) = [] ∧ w.heap.size ≤ Q) ∨ (itA (R.al t) ≠ [] ∧ R.fa (ky t) = some Q ∧ QAI w Q (itA (R.al t)))) → w.heap.size ≤ I → Nx w w1 rb F all (setI al t (al t ++ [c])) (N + 1)) := by
      intro w1 Q I n' g1 g2 g3 g4 g5 g6
      obtain ⟨R', k1, k2, k3, k4, k5, k6, k7⟩ := alPush_fin hR hti (by unfold i64; omega) g1 (by omega) g3 g4 g5 g6
      refine Nx.of hF k1 (k2.trans hrb) (by rw [k3]; exact hal) ?_ (by omega) k6 k7
      intro t'
      rw [k4, setA_c hA, List.map_append, hA t]; rfl
    clear h hR hF hA hal hrb hRN he hw h1 h0 hlA h8 hn HS hm3 hn3 hil
    go_enter Try.func17, Try.ntmps17
    go_wp2_with (first | (go_at_call 39; refine (HI.out _).mono ?_; rintro e w2 ⟨rfl, hw2⟩; rw [hw2]; clear hw2 w2) | (go_at_call 41; refine HS2.out.mono ?_; rintro e w3 ⟨rfl, hw3⟩; rw [hw3]; clear hw3 w3) | (go_at_call 29; refine HP.out.mono ?_; rintro e w1 ⟨Q, I, n', rfl, g1, g2, g3, g4, g5, g6⟩; obtain ⟨F', k1, k2, k3, k4⟩ := HF.out w1 Q I n' g1 g2 g3 g4 g5 g6; have HL := Lib.hid (leave_ra w1 rb F' _ _ _ t hti k1 (by omega)); clear g1 g2 g3 g4 g5 g6 k1) | (go_at_call 43; refine HL.out.mono ?_; rintro e w4 ⟨rfl, hra4, hf4⟩))
    refine bodyPost_ret (v := .tuple #[.bool (waitsA all t), .int .i64 0]) (by simp [results, Try.results17, go_sem]) rfl ⟨rfl, ?_⟩
    exact Fm.nx k2 k3 hra4 hf4 (fun k hk => by have := k4 k hk; have := hf4.size; omega)
end Go.Proofs.Ythknnmllibdggaa
