/- What Wait, Len and Where of package wait answer. -/
import Derived.Test.YthknnmllibdggaaWait1
namespace Go.Proofs.Ythknnmllibdggaa
open Go.RowKit Go.Sort
theorem umA' : Try.prog.underlying 62 = some (.map 3 76) := by kernel_rfl
section
variable {w : World} {R : Rm}
theorem RmAt.lookW_no (h : RmAt w R) {t : Int} (ht : i64 t) (hno : ∀ x ∈ R.all, x.th ≠ t) : (Instr.lookup 56 (.map (some R.m0)) (.int .i64 t) false).run Try.prog w = .ok np w := by
  have hl := h.mw.look keyedI umW (uzW _) (keyI ht)
  rw [h.fw t, find_none hno] at hl
  exact hl
theorem RmAt.lookW_yes (h : RmAt w R) {x : Wt} (hx : x ∈ R.all) : (Instr.lookup 56 (.map (some R.m0)) (.int .i64 x.th) false).run Try.prog w = .ok (pv x.B) w := by
  have hl := h.mw.look keyedI umW (uzW _) (keyI (h.good x hx).1)
  rw [h.fw x.th, h.find hx] at hl
  exact hl
theorem RmAt.lookA_no (h : RmAt w R) {t : Int} (ht : i64 t) (hno : R.al t = []) : (Instr.lookup 62 (.map (some R.m3)) (.int .i64 t) false).run Try.prog w = .ok np w := by
  obtain ⟨n, _, hm⟩ := h.ma
  have hl := hm.look keyedI umA (uzA _) (keyI ht)
  rw [h.fa t, if_pos hno] at hl
  exact hl
theorem RmAt.lookA_yes (h : RmAt w R) {t : Int} (ht : i64 t) (hne : R.al t ≠ []) : (Instr.lookup 62 (.map (some R.m3)) (.int .i64 t) false).run Try.prog w = .ok (pv (R.aq t)) w := by
  obtain ⟨n, _, hm⟩ := h.ma
  have hl := hm.look keyedI umA (uzA _) (keyI ht)
  rw [h.fa t, if_neg hne] at hl
  exact hl
theorem RmAt.lookP_no (h : RmAt w R) {s o : Int} (hs : i64 s) (ho : i64 o) (hno : atP s o R.all = []) : (Instr.lookup 58 (.map (some R.m1)) (.agg #[.int .i64 s, .int .i64 o]) false).run Try.prog w = .ok np w := by
  obtain ⟨n, _, hm⟩ := h.mp
  have hl := hm.look keyedP umP (uzP _) (keyP hs ho)
  rw [h.fp s o hs ho, if_pos hno] at hl
  exact hl
theorem RmAt.lookP_yes (h : RmAt w R) {s o : Int} (hs : i64 s) (ho : i64 o) (hne : atP s o R.all ≠ []) : (Instr.lookup 58 (.map (some R.m1)) (.agg #[.int .i64 s, .int .i64 o]) false).run Try.prog w = .ok (pv (R.pq s o)) w := by
  obtain ⟨n, _, hm⟩ := h.mp
  have hl := hm.look keyedP umP (uzP _) (keyP hs ho)
  rw [h.fp s o hs ho, if_neg hne] at hl
  exact hl
theorem RmAt.lookS_no (h : RmAt w R) {s : Int} (hs : i64 s) (hno : inS s R.all = []) : (Instr.lookup 60 (.map (some R.m2)) (.int .i64 s) false).run Try.prog w = .ok np w := by
  obtain ⟨n, _, hm⟩ := h.ms
  have hl := hm.look keyedI umS (uzS _) (keyI hs)
  rw [h.fs s, if_pos hno] at hl
  exact hl
theorem RmAt.lookS_yes (h : RmAt w R) {s : Int} (hs : i64 s) (hne : inS s R.all ≠ []) : (Instr.lookup 60 (.map (some R.m2)) (.int .i64 s) false).run Try.prog w = .ok (pv (R.sq s)) w := by
  obtain ⟨n, _, hm⟩ := h.ms
  have hl := hm.look keyedI umS (uzS _) (keyI hs)
  rw [h.fs s, if_neg hne] at hl
  exact hl
theorem RmAt.cell (h : RmAt w R) : w.cell? ⟨R.rb, 0, none⟩ = some (.map (some R.m0)) ∧ w.cell? ⟨R.rb, 1, none⟩ = some (.map (some R.m1)) ∧ w.cell? ⟨R.rb, 2, none⟩ = some (.map (some R.m2)) ∧ w.cell? ⟨R.rb, 3, none⟩ = some (.map (some R.m3)) := by
  simp [World.cell?, h.blk]
end
def waitsA (all : List Who) (t : Int) : Bool := all.any fun x => x.1 == t
theorem waits_iff {R : Rm} {t : Int} : waitsA (R.all.map ab) t = true ↔ ∃ x ∈ R.all, x.th = t := by
  unfold waitsA; simp [ab]
def waitE (all : List Who) (al : Int → List Int) (t s o : Int) : Int :=
  if (okN t && (okN s && okO o)) = false then 1 else if waitsA all t = true then 8 else if al t ≠ [] then 10 else 0
set_option maxRecDepth 100000 in
set_option maxHeartbeats 1000000 in
theorem Wait_any (w : World) (rb : Nat) (F : Nat → Prop) (all : List Who) (al : Int → List Int) (N : Nat) (t s o : Int) (h : RA w rb F all al N) (hN : N < 900000) :
    Calls Try.prog 14 #[pv rb, .int .i64 t, .int .i64 s, .int .i64 o] w fun e w' => e = .returned (.int .i64 (waitE all al t s o)) ∧ Nx w w' rb F (if waitE all al t s o = 0 then all ++ [(t, s, o)] else all) al (N + 1) := by
  obtain ⟨R, hR, hrb, hal, hA, hRN, hF⟩ := id h
  obtain ⟨W1, hW1⟩ : ∃ W1, w.alloc (.cells #[.int .i64 s, .int .i64 o] 72) = W1 := ⟨_, rfl⟩
  have b01 : Below w.heap.size w W1 := by rw [← hW1]; exact (Below.refl _ _).alloc (Nat.le_refl _) _
  have hp1 : W1.heap[w.heap.size]? = some (.cells #[.int .i64 s, .int .i64 o] 72 (0, 0)) := by rw [← hW1]; exact heap_new _ _
  have p0 : W1.cell? ⟨w.heap.size, 0, none⟩ = some (.int .i64 s) := by simp [World.cell?, hp1]
  have p1 : W1.cell? ⟨w.heap.size, 1, none⟩ = some (.int .i64 o) := by simp [World.cell?, hp1]
  have hz : w.heap.size < W1.heap.size := heap_lt hp1
  have HI := Lib.hid (isNumber_any t)
  by_cases h1 : okN t = false
  · have he : waitE all al t s o = 1 := by unfold waitE; rw [h1]; rfl
    rw [he, if_neg (by decide)]
    rw [h1] at HI
    have HX := Lib.hid (Nx.still (N' := N + 1) h b01 (by omega))
    clear h hR hF hA hal hrb hp1 hz b01 he hRN
    go_enter Try.func14, Try.ntmps14
    go_wp2_with (go_at_call 39; refine (HI.out _).mono ?_; rintro e w2 ⟨rfl, hw2⟩; rw [hw2]; clear hw2 w2)
    go_ret
    exact ⟨rfl, HX.out⟩
  have h1' : okN t = true := by simpa using h1
  rw [h1'] at HI
  have HC := Lib.hid (canBe_any s o W1)
  by_cases h2 : (okN s && okO o) = false
  · have he : waitE all al t s o = 1 := by unfold waitE; rw [h1', h2]; rfl
    rw [he, if_neg (by decide)]
    rw [h2] at HC
    have HX : Hid (∀ w', Below W1.heap.size W1 w' → Nx w w' rb F all al (N + 1)) := fun w' hb => Nx.still (N' := N + 1) h (b01.trans (hb.mono b01.size)) (by omega)
    clear h hR hF hA hal hrb hp1 hz b01 he hRN h1 h1'
    go_enter Try.func14, Try.ntmps14
    go_wp2_with (first | (go_at_call 39; refine (HI.out _).mono ?_; rintro e w2 ⟨rfl, hw2⟩; rw [hw2]; clear hw2 w2) | (go_at_call 40; refine HC.out.mono ?_; rintro e w2 ⟨rfl, hb2⟩))
    go_ret
    exact ⟨rfl, HX.out _ hb2⟩
  have h2' : (okN s && okO o) = true := by simpa using h2
  rw [h2'] at HC
  have hti := okN_i64 h1'
  have hsi : i64 s := okN_i64 (by simp at h2'; exact h2'.1)
  have hoi : i64 o := okO_i64 (by simp at h2'; exact h2'.2)
  have hrm : ∀ w', Below W1.heap.size W1 w' → RmAt w' R := fun w' hb => (hR.below b01).below hb
  have hp : ∀ w', Below W1.heap.size W1 w' → w'.cell? ⟨w.heap.size, 0, none⟩ = some (.int .i64 s) ∧ w'.cell? ⟨w.heap.size, 1, none⟩ = some (.int .i64 o) := fun w' hb => ⟨(hb.cell (p := ⟨w.heap.size, 0, none⟩) hz).trans p0, (hb.cell (p := ⟨w.heap.size, 1, none⟩) hz).trans p1⟩
  by_cases h3 : waitsA all t = true
  · have he : waitE all al t s o = 8 := by unfold waitE; rw [h1', h2', h3]; rfl
    rw [he, if_neg (by decide)]
    rw [← hal] at h3
    obtain ⟨x, hx, hxt⟩ := waits_iff.1 h3
    have HX : Hid (∀ w', Below W1.heap.size W1 w' → Nx w w' rb F all al (N + 1)) := fun w' hb => Nx.still (N' := N + 1) h (b01.trans (hb.mono b01.size)) (by omega)
    have HL : Hid (∀ w', Below W1.heap.size W1 w' → (Instr.lookup 56 (.map (some R.m0)) (.int .i64 t) false).run Try.prog w' = .ok (pv x.B) w' ∧ w'.cell? ⟨rb, 0, none⟩ = some (.map (some R.m0))) := fun w' hb => ⟨hxt ▸ (hrm w' hb).lookW_yes hx, hrb ▸ (hrm w' hb).cell.1⟩
    clear h hR hF hA hal hrb hp1 hz b01 he hRN h1 h1' h2 h2' h3 hxt hrm hp hti hsi hoi
    go_enter Try.func14, Try.ntmps14
    go_wp2_with (first | (go_at_call 39; refine (HI.out _).mono ?_; rintro e w2 ⟨rfl, hw2⟩; rw [hw2]; clear hw2 w2) | (go_at_call 40; refine HC.out.mono ?_; rintro e w2 ⟨rfl, hb2⟩; obtain ⟨l1, l2⟩ := HL.out _ hb2))
    go_ret
    exact ⟨rfl, HX.out _ hb2⟩
  have h3' : waitsA all t = false := by simpa using h3
  have hno : ∀ x ∈ R.all, x.th ≠ t := fun x hx e => h3 (by rw [← hal]; exact waits_iff.2 ⟨x, hx, e⟩)
  by_cases h4 : al t = []
  · have he : waitE all al t s o = 0 := by unfold waitE; rw [h1', h2', h3', if_neg (by decide), if_neg (by decide), if_neg (by simpa using h4)]
    rw [he, if_pos rfl]
    have hal0 : R.al t = [] := by have := hA t; rw [h4] at this; simpa using this
    have HL : Hid (∀ w', Below W1.heap.size W1 w' → (Instr.lookup 56 (.map (some R.m0)) (.int .i64 t) false).run Try.prog w' = .ok np w' ∧ w'.cell? ⟨rb, 0, none⟩ = some (.map (some R.m0)) ∧ (Instr.lookup 62 (.map (some R.m3)) (.int .i64 t) false).run Try.prog w' = .ok np w' ∧ w'.cell? ⟨rb, 3, none⟩ = some (.map (some R.m3))) := fun w' hb => ⟨(hrm w' hb).lookW_no hti hno, hrb ▸ (hrm w' hb).cell.1, (hrm w' hb).lookA_no hti hal0, hrb ▸ (hrm w' hb).cell.2.2.2⟩
    have HE : Hid (∀ w', Below W1.heap.size W1 w' → Calls Try.prog 27 #[pv rb, .int .i64 t, .agg #[.int .i64 s, .int .i64 o]] w' fun e w'' => (∃ v, e = .returned v) ∧ Nx w' w'' rb F (all ++ [(t, s, o)]) al (N + 1)) := fun w' hb => by
      have := enter_any w' R t s o (hrm w' hb) hti hsi hoi (by omega) hno
      rw [hrb] at this
      refine this.mono ?_
      rintro e w'' ⟨he, R', B, I, J, g1, g2, g3, g4, g5, g6, g7⟩
      refine ⟨he, Nx.of hF g1 g2 ?_ ?_ (by omega) g6 g7⟩
      · rw [g3, List.map_append, hal]; rfl
      · intro t'; rw [g4]; exact hA t'
    have HB01 := Lib.hid b01
    have HPP := Lib.hid hp
    clear h hR hF hA hal hrb hp1 hz b01 he hRN h1 h1' h2 h2' h3 h3' hrm hp hti hsi hoi hno h4 hal0
    go_enter Try.func14, Try.ntmps14
    go_wp2_with (first | (go_at_call 39; refine (HI.out _).mono ?_; rintro e w2 ⟨rfl, hw2⟩; rw [hw2]; clear hw2 w2) | (go_at_call 40; refine HC.out.mono ?_; rintro e w2 ⟨rfl, hb2⟩; obtain ⟨l1, l2, l3, l4⟩ := HL.out _ hb2; obtain ⟨l5, l6⟩ := HPP.out _ hb2; have HE2 := Lib.hid (HE.out _ hb2)) | (go_at_call 41; refine (sizeI_nil _).mono ?_; rintro e w3 ⟨rfl, hw3⟩; rw [hw3]; clear hw3 w3) | (go_at_call 27; refine HE2.out.mono ?_; rintro e w3 ⟨⟨v, rfl⟩, hX⟩))
    go_ret
    exact ⟨rfl, Nx.behind (HB01.out.trans (hb2.mono HB01.out.size)) hX⟩
  · have he : waitE all al t s o = 10 := by unfold waitE; rw [h1', h2', h3', if_neg (by decide), if_neg (by decide), if_pos h4]
    rw [he, if_neg (by decide)]
    have hal0 : R.al t ≠ [] := fun e => h4 (by rw [← hA t, e]; rfl)
    have HX : Hid (∀ w', Below W1.heap.size W1 w' → Nx w w' rb F all al (N + 1)) := fun w' hb => Nx.still (N' := N + 1) h (b01.trans (hb.mono b01.size)) (by omega)
    have hpos : 0 < (itA (R.al t)).length := by rw [List.length_pos_iff]; exact fun e => hal0 (itA_nil.1 e)
    obtain ⟨n, hn⟩ : ∃ n : Int, ((itA (R.al t)).length : Int) = n := ⟨_, rfl⟩
    have hn0 : 0 < n := by omega
    have HL : Hid (∀ w', Below W1.heap.size W1 w' → (Instr.lookup 56 (.map (some R.m0)) (.int .i64 t) false).run Try.prog w' = .ok np w' ∧ w'.cell? ⟨rb, 0, none⟩ = some (.map (some R.m0)) ∧ (Instr.lookup 62 (.map (some R.m3)) (.int .i64 t) false).run Try.prog w' = .ok (pv (R.aq t)) w' ∧ w'.cell? ⟨rb, 3, none⟩ = some (.map (some R.m3)) ∧ Calls Try.prog 41 #[pv (R.aq t)] w' fun e w'' => e = .returned (.int .i64 n) ∧ w'' = w') := fun w' hb => ⟨(hrm w' hb).lookW_no hti hno, hrb ▸ (hrm w' hb).cell.1, (hrm w' hb).lookA_yes hti hal0, hrb ▸ (hrm w' hb).cell.2.2.2, hn ▸ sizeI w' _ _ ((hrm w' hb).qa t hal0)⟩
    clear h hR hF hA hal hrb hp1 hz b01 he hRN h1 h1' h2 h2' h3 h3' hrm hp hti hsi hoi hno h4 hal0 hn hpos
    go_enter Try.func14, Try.ntmps14
    go_wp2_with (first | (go_at_call 39; refine (HI.out _).mono ?_; rintro e w2 ⟨rfl, hw2⟩; rw [hw2]; clear hw2 w2) | (go_at_call 40; refine HC.out.mono ?_; rintro e w2 ⟨rfl, hb2⟩; obtain ⟨l1, l2, l3, l4, l5⟩ := HL.out _ hb2; have HS2 := Lib.hid l5; clear l5) | (go_at_call 41; refine HS2.out.mono ?_; rintro e w3 ⟨rfl, hw3⟩; rw [hw3]; clear hw3 w3))
    go_ret
    exact ⟨rfl, HX.out _ hb2⟩
end Go.Proofs.Ythknnmllibdggaa
