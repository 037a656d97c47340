/- What With of the reference answers, for every label, category and level. -/
import Derived.Test.YtnjmgholoigpkaaWith
namespace Go.Proofs.Ytnjmgholoigpkaa
open Go.RowKit Go.Sort

set_option maxRecDepth 100000 in
set_option maxHeartbeats 2000000 in
theorem rWith_bad (A : Lab) (cat level : Int) (w : World) (hok : wOk cat level = false) :
    Calls Try.prog 45 #[.agg #[.int .i64 A.d, .slice A.p A.xs.length A.cap], .int .i64 cat, .int .i64 level] w fun e w' => e = .returned (.tuple #[.agg #[.int .i64 0, .slice none 0 0], .int .i64 1]) ∧ Below w.heap.size w w' := by
  have hok' : (isCt cat && lev level) = false := hok
  by_cases h1 : isCt cat = true
  · have h2 : lev level = false := by simpa [h1] using hok'
    go_enter Try.func45, Try.ntmps45
    go_wp2_with (first
      | (go_at_call 44; refine (Cat_any _ _).mono ?_; rintro e w' ⟨rfl, rfl⟩)
      | (go_at_call 56; refine (Level_any _ _).mono ?_; rintro e w' ⟨rfl, rfl⟩))
    refine bodyPost_ret (by simp [results, Try.results45, go_sem]) rfl ⟨rfl, by go_grown⟩
  · have h1' : isCt cat = false := by simpa using h1
    go_enter Try.func45, Try.ntmps45
    go_wp2_with (first
      | (go_at_call 44; refine (Cat_any _ _).mono ?_; rintro e w' ⟨rfl, rfl⟩)
      | (go_at_call 56; refine (Level_any _ _).mono ?_; rintro e w' ⟨rfl, rfl⟩))
    refine bodyPost_ret (by simp [results, Try.results45, go_sem]) rfl ⟨rfl, by go_grown⟩

set_option maxRecDepth 100000 in
set_option maxHeartbeats 2000000 in
theorem rWith_ok (A : Lab) (cat level : Int) (w : World) (hok : wOk cat level = true) (hm : A.xs.length ≤ 1000000) (ha : CatsAt w A.p A.xs) :
    Calls Try.prog 45 #[.agg #[.int .i64 A.d, .slice A.p A.xs.length A.cap], .int .i64 cat, .int .i64 level] w fun e w' => ∃ v, e = .returned (.tuple #[.agg #[.int .i64 (fitD A.d (rwithS A cat level)), v], .int .i64 (fitE (rwithS A cat level))]) ∧ Rw w.heap.size w' v (fitL (rwithS A cat level)) ∧ Below w.heap.size w w' := by
  have ma : A.xs.length ≤ maxLen := by unfold maxLen; omega
  have hok' : isCt cat = true ∧ lev level = true := by simpa [wOk, can] using hok
  obtain ⟨h1, h2⟩ := hok'
  obtain ⟨W0, hW0⟩ : ∃ W0, W0 = ((((w.alloc (.cells #[.int .i64 A.d, .slice A.p A.xs.length A.cap] 24)).alloc (.cells #[.int .i64 0, .slice none 0 0] 24)).alloc (.cells #[.int .i64 A.d, .slice none 0 0] 24)).alloc (.cells #[.int .i64 cat, .int .i64 level] 50)).alloc (.cells #[.int .i64 0, .slice (some ⟨w.heap.size + 1 + 1 + 1, 0, none⟩) 1 1] 24) := ⟨_, rfl⟩
  have hB0 : Below w.heap.size w W0 := by rw [hW0]; go_grown
  have hs0 : W0.heap.size = w.heap.size + 1 + 1 + 1 + 1 + 1 := by rw [hW0]; simp
  have a0 : W0.cell? ⟨w.heap.size, 0, none⟩ = some (.int .i64 A.d) := by rw [hW0]; simp [go_sem]
  have a1 : W0.cell? ⟨w.heap.size, 1, none⟩ = some (.slice A.p A.xs.length A.cap) := by rw [hW0]; simp [go_sem]
  have c0 : W0.cell? ⟨w.heap.size + 1, 0, none⟩ = some (.int .i64 0) := by rw [hW0]; simp [go_sem]
  have c1 : W0.cell? ⟨w.heap.size + 1, 1, none⟩ = some (.slice none 0 0) := by rw [hW0]; simp [go_sem]
  have o0 : W0.cell? ⟨w.heap.size + 1 + 1, 0, none⟩ = some (.int .i64 A.d) := by rw [hW0]; simp [go_sem]
  have o1 : W0.cell? ⟨w.heap.size + 1 + 1, 1, none⟩ = some (.slice none 0 0) := by rw [hW0]; simp [go_sem]
  have n0 : W0.cell? ⟨w.heap.size + 1 + 1 + 1, 0, none⟩ = some (.int .i64 cat) := by rw [hW0]; simp [go_sem]
  have n1 : W0.cell? ⟨w.heap.size + 1 + 1 + 1, 1, none⟩ = some (.int .i64 level) := by rw [hW0]; simp [go_sem]
  have cf : ∀ o, W0.frozen? ⟨w.heap.size + 1, o, none⟩ = false := fun o => by rw [hW0]; simp [go_sem]
  have of : ∀ o, W0.frozen? ⟨w.heap.size + 1 + 1, o, none⟩ = false := fun o => by rw [hW0]; simp [go_sem]
  have hbA : Below W0.heap.size W0 (W0.alloc (.cells #[.int .i64 A.d, .slice A.p A.xs.length A.cap, .int .i64 0, .slice (some ⟨w.heap.size + 1 + 1 + 1, 0, none⟩) 1 1] 24)) := by go_grown
  have hbA' := hB0.trans (hbA.mono hB0.size)
  have hone : CatsAt W0 (some ⟨w.heap.size + 1 + 1 + 1, 0, none⟩) [(cat, level)] := fun j hj => by
    obtain rfl : j = 0 := by simpa using hj
    exact ⟨_, 0, rfl, by omega, n0, n1⟩
  have hN := Named_any W0.heap.size [A, ⟨0, some ⟨w.heap.size + 1 + 1 + 1, 0, none⟩, 1, [(cat, level)]⟩] _ (by simp) (by simp) (by simp [total]; omega) (labs2 (B := ⟨0, some ⟨w.heap.size + 1 + 1 + 1, 0, none⟩, 1, [(cat, level)]⟩) (World.alloc_heap_new W0 (.cells #[.int .i64 A.d, .slice A.p A.xs.length A.cap, .int .i64 0, .slice (some ⟨w.heap.size + 1 + 1 + 1, 0, none⟩) 1 1] 24)) ⟨ha.below hbA', ma⟩ ⟨hone.below hbA, by simp [maxLen]⟩)
  have hnm : namedS [A, ⟨0, some ⟨w.heap.size + 1 + 1 + 1, 0, none⟩, 1, [(cat, level)]⟩] = namedS [A, oneL cat level] := rfl
  simp only [List.length_cons, List.length_nil, Nat.zero_add, Nat.reduceAdd] at hN
  rw [hnm, hs0, hW0] at hN
  have hlen : (namedS [A, oneL cat level]).length ≤ 1000001 := by
    have := named_len [A, oneL cat level] 2
    simp [total, oneL] at this; simp [oneL]; omega
  have HD : Hid (rwithS A cat level = shortS A.d (rowS (withF A cat level) (namedS [A, oneL cat level]))) := rfl
  obtain ⟨zz, hzz⟩ : ∃ zz, zz = rwithS A cat level := ⟨_, rfl⟩
  rw [← hzz] at HD ⊢
  clear hzz hone
  go_enter Try.func45, Try.ntmps45
  go_wp2_with (first
    | (go_at_call 44; refine (Cat_any _ _).mono ?_; rintro e w' ⟨rfl, rfl⟩)
    | (go_at_call 56; refine (Level_any _ _).mono ?_; rintro e w' ⟨rfl, rfl⟩)
    | (go_at_call 27; refine hN.mono ?_; rintro e w1 ⟨g, cap, rfl, hown, hb1⟩; refine Hid.out ?_))
  refine Lib.hid ?_
  rw [← hW0] at hown hb1
  have hb01 : Below W0.heap.size W0 w1 := hbA.trans (hb1.mono hbA.size)
  have hcell : ∀ k, (h : k < (namedS [A, oneL cat level]).length) → w1.cell? ⟨g, k, none⟩ = some (.int .i64 (namedS [A, oneL cat level])[k]) := fun k h => by
    rw [hown.cellAt k (by omega)]; simp [icells, h]
  have hg := hown.lt g rfl
  have hncap : (namedS [A, oneL cat level]).length ≤ cap := by
    rcases hown.2 with ⟨h, _⟩ | ⟨_, _, _, h, _, _, h3, _⟩
    · cases h
    · cases h; exact h3
  have HCELL : Hid (∀ k, (h : k < (namedS [A, oneL cat level]).length) → w1.cell? ⟨g, k, none⟩ = some (.int .i64 (namedS [A, oneL cat level])[k])) := hcell
  have hg1 : w.heap.size + 1 + 1 + 1 + 1 + 1 ≤ g := by have := hg.1; simp at this; omega
  have hg2 := hg.2
  clear hN hown hb1 hcell hW0 hbA hbA' hg hnm n0 n1
  obtain ⟨cs, hcs⟩ : ∃ cs, cs = namedS [A, oneL cat level] := ⟨_, rfl⟩
  rw [← hcs] at HCELL HD hlen hncap ⊢
  clear hcs
  have hB1 : Below w.heap.size w w1 := hB0.trans (hb01.mono hB0.size)
  have hz1 : w.heap.size + 1 + 1 + 1 + 1 + 1 ≤ w1.heap.size := by have := hb01.size; omega
  have c0' := (hb01.cell (p := ⟨w.heap.size + 1, 0, none⟩) (by simp; omega)).trans c0
  have c1' := (hb01.cell (p := ⟨w.heap.size + 1, 1, none⟩) (by simp; omega)).trans c1
  have o0' := (hb01.cell (p := ⟨w.heap.size + 1 + 1, 0, none⟩) (by simp; omega)).trans o0
  have o1' := (hb01.cell (p := ⟨w.heap.size + 1 + 1, 1, none⟩) (by simp; omega)).trans o1
  have cf' : ∀ o, w1.frozen? ⟨w.heap.size + 1, o, none⟩ = false := fun o => (hb01.frozen (p := ⟨w.heap.size + 1, o, none⟩) (by simp; omega)).trans (cf o)
  have of' : ∀ o, w1.frozen? ⟨w.heap.size + 1 + 1, o, none⟩ = false := fun o => (hb01.frozen (p := ⟨w.heap.size + 1 + 1, o, none⟩) (by simp; omega)).trans (of o)
  have a0' := (hb01.cell (p := ⟨w.heap.size, 0, none⟩) (by simp; omega)).trans a0
  have a1' := (hb01.cell (p := ⟨w.heap.size, 1, none⟩) (by simp; omega)).trans a1
  clear hb01 hB0 hs0 a0 a1 c0 c1 o0 o1 cf of
  go_wp2
  go_loopw [34] (fun i wr => ∃ (k : Nat) (v : Value), k ≤ cs.length ∧ i = .int .i64 k ∧ Rw w1.heap.size wr v (shortS A.d (rowS (withF A cat level) (cs.take k))) ∧ wr.cell? ⟨w.heap.size + 1 + 1, 0, none⟩ = some (.int .i64 A.d) ∧ wr.cell? ⟨w.heap.size + 1 + 1, 1, none⟩ = some v ∧ (∀ o, wr.frozen? ⟨w.heap.size + 1 + 1, o, none⟩ = false) ∧ Kp (w.heap.size + 1 + 1) w1 wr) (fun i _ => cs.length - (intOf i).toNat)
  case atStart => exact ⟨0, .slice none 0 0, Nat.zero_le _, rfl, .inl ⟨rfl, rfl⟩, o0', o1', of', Kp.refl _ _⟩
  case round =>
    obtain ⟨k, v, hk, rfl, hR, r0, r1, rf, hK⟩ := hrel
    have hzw : w.heap.size + 1 + 1 + 1 + 1 + 1 ≤ wr.heap.size := by have := hK.size; omega
    have p0 := (hK.cell (p := ⟨w.heap.size, 0, none⟩) (by simp; omega) (by simp <;> omega)).trans a0'
    have p1 := (hK.cell (p := ⟨w.heap.size, 1, none⟩) (by simp; omega) (by simp <;> omega)).trans a1'
    have hBw : Below w.heap.size w wr := hB1.trans (hK.below (by omega) (by omega))
    by_cases hlt : k < cs.length
    · have hx : wr.cell? ⟨g, k, none⟩ = some (.int .i64 cs[k]) := (hK.cell (p := ⟨g, k, none⟩) hg2 (by simp; omega)).trans (HCELL.out k hlt)
      have HS : Hid (shortS A.d (rowS (withF A cat level) (cs.take (k + 1))) = putS A.d (shortS A.d (rowS (withF A cat level) (cs.take k))) cs[k] (withF A cat level cs[k])) := row_put _ _ cs k hlt
      have hle : (shortS A.d (rowS (withF A cat level) (cs.take k))).length ≤ k := by
        refine Nat.le_trans (short_le _ _) ?_
        rw [row_len]; exact List.length_take_le _ _
      have hki : (k : Int) < (cs.length : Int) := by omega
      have HA : Hid (∀ W, Below wr.heap.size wr W → CatsAt W A.p A.xs) := fun W h => (ha.below hBw).below h
      obtain ⟨pv, cv, rfl, hcv, hlv⟩ := hR.out
      clear ha hcv
      obtain ⟨zs, hzs⟩ : ∃ zs, zs = shortS A.d (rowS (withF A cat level) (cs.take k)) := ⟨_, rfl⟩
      rw [← hzs] at hR HS hle r1 hlv
      have HR : Hid (∀ W, Below wr.heap.size wr W → Rw w1.heap.size W (.slice pv zs.length cv) zs) := fun W h => hR.below h
      have s0 : ∀ n os, (gx wr n os).cell? ⟨w.heap.size, 0, none⟩ = some (.int .i64 A.d) := fun n os => cell_gx (a := ⟨w.heap.size, 0, none⟩) (by simp; omega) p0 n os
      have s1 : ∀ n os, (gx wr n os).cell? ⟨w.heap.size, 1, none⟩ = some (.slice A.p A.xs.length A.cap) := fun n os => cell_gx (a := ⟨w.heap.size, 1, none⟩) (by simp; omega) p1 n os
      have u0 : ∀ n os, (gx wr n os).cell? ⟨w.heap.size + 1 + 1, 0, none⟩ = some (.int .i64 A.d) := fun n os => cell_gx (a := ⟨w.heap.size + 1 + 1, 0, none⟩) (by simp; omega) r0 n os
      have u1 : ∀ n os, (gx wr n os).cell? ⟨w.heap.size + 1 + 1, 1, none⟩ = some (.slice pv zs.length cv) := fun n os => cell_gx (a := ⟨w.heap.size + 1 + 1, 1, none⟩) (by simp; omega) r1 n os
      have HK := Lib.hid hK
      clear hR hzs hK
      by_cases hv : (cs[k] == cat) = true
      · have hmv : withF A cat level cs[k] = level := by unfold withF; rw [if_pos hv]
        rw [hmv] at HS
        have HP : Hid (∀ W, Below wr.heap.size wr W → Calls Try.prog 50 #[.agg #[.int .i64 A.d, .slice pv zs.length cv], .int .i64 cs[k], .int .i64 level] W fun e w' => ∃ v', e = .returned (.agg #[.int .i64 A.d, v']) ∧ Rw w1.heap.size w' v' (putS A.d zs cs[k] level) ∧ Below W.heap.size W w') := fun W h => Put_any w1.heap.size A.d cs[k] level (.slice pv zs.length cv) zs W (by omega) (Nat.le_trans HK.out.size h.size) (HR.out W h)
        clear hmv
        go_wp2_with (go_at_call 50; refine Calls.mono (HP.out _ (Below.refl _ _)) ?_; rintro e w5 ⟨v5, rfl, hR5, hb5⟩; refine Hid.out ?_)
        refine Lib.hid ?_
        obtain ⟨p5, c5, rfl, hc5, hl5⟩ := hR5.out
        have hk5 := HK.out.on hb5
        have y0 := (hb5.cell (p := ⟨w.heap.size + 1 + 1, 0, none⟩) (by simp; omega)).trans r0
        have y1 := (hb5.cell (p := ⟨w.heap.size + 1 + 1, 1, none⟩) (by simp; omega)).trans r1
        have yf : ∀ o, w5.frozen? ⟨w.heap.size + 1 + 1, o, none⟩ = false := fun o => (hb5.frozen (p := ⟨w.heap.size + 1 + 1, o, none⟩) (by simp; omega)).trans (rf o)
        clear hb5 hc5 s0 s1 u0 u1 HR HA HP
        go_wp2
        go_roundw
        case rel =>
          refine ⟨k + 1, _, by omega, by go_num, by rw [HS.out]; exact Rw.set (Rw.set hR5 (by simp; omega) _) (by simp; omega) _, by simp [go_sem, y0], World.cell?_setCell_same' _ _ _ (by simp [go_sem, y1]), fun o => by rw [World.frozen?_setCell, World.frozen?_setCell]; exact yf o, (hk5.set _ _).set _ _⟩
        case measure => simp [intOf]; omega
      · have hv' : (cs[k] == cat) = false := by simpa using hv
        have hmv : withF A cat level cs[k] = atS A.d A.xs cs[k] := by unfold withF; rw [if_neg hv]
        rw [hmv] at HS
        have HP : Hid (∀ W, Below wr.heap.size wr W → Calls Try.prog 50 #[.agg #[.int .i64 A.d, .slice pv zs.length cv], .int .i64 cs[k], .int .i64 (atS A.d A.xs cs[k])] W fun e w' => ∃ v', e = .returned (.agg #[.int .i64 A.d, v']) ∧ Rw w1.heap.size w' v' (putS A.d zs cs[k] (atS A.d A.xs cs[k])) ∧ Below W.heap.size W w') := fun W h => Put_any w1.heap.size A.d cs[k] (atS A.d A.xs cs[k]) (.slice pv zs.length cv) zs W (by omega) (Nat.le_trans HK.out.size h.size) (HR.out W h)
        clear hmv
        go_wp2
        refine wp_region_tail_gx 5 (by kernel_rfl) (by kernel_rfl) ?_
        simp only [List.take_succ_cons, List.take_zero, List.drop_succ_cons, List.drop_zero]
        repeat (quiet_step (first
          | (go_at_call 28; with_reducible exact calls_gx (refAt_any A.d cs[k] A.p A.cap A.xs _ ma (HA.out _ (gx_below _ _ _))))))
        refine wpQuiet_nil ?_
        intro _ hw'
        obtain ⟨⟨nq, osq⟩, hw''⟩ := hw'
        subst hw''
        go_wp2_with (go_at_call 50; refine Calls.mono (HP.out _ (gx_below _ _ _)) ?_; rintro e w5 ⟨v5, rfl, hR5, hb5⟩; refine Hid.out ?_)
        refine Lib.hid ?_
        obtain ⟨p5, c5, rfl, hc5, hl5⟩ := hR5.out
        have hk5 := bel_put HK.out hb5
        obtain ⟨y0, y1, yf⟩ := out_kept (o0 := r0) (o1 := r1) (of := rf) hb5 (by omega)
        clear hb5 hc5 s0 s1 u0 u1 HR HA HP
        go_wp2
        go_roundw
        case rel =>
          refine ⟨k + 1, _, by omega, by go_num, by rw [HS.out]; exact Rw.set (Rw.set hR5 (by simp; omega) _) (by simp; omega) _, by simp [go_sem, y0], World.cell?_setCell_same' _ _ _ (by simp [go_sem, y1]), fun o => by rw [World.frozen?_setCell, World.frozen?_setCell]; exact yf o, (hk5.set _ _).set _ _⟩
        case measure => simp [intOf]; omega
    · have hk' : cs.take k = cs := List.take_of_length_le (by omega)
      rw [hk', ← HD.out] at hR
      have hC := Cut_any w1.heap.size A.d v zz wr hR
      obtain ⟨pv, cv, rfl, hcv, hlv⟩ := hR.out
      clear hk' ha hcv
      have x0 := (hK.cell (p := ⟨w.heap.size + 1, 0, none⟩) (by simp; omega) (by simp)).trans c0'
      have x1 := (hK.cell (p := ⟨w.heap.size + 1, 1, none⟩) (by simp; omega) (by simp)).trans c1'
      have xf : ∀ o, wr.frozen? ⟨w.heap.size + 1, o, none⟩ = false := fun o => (hK.frozen (p := ⟨w.heap.size + 1, o, none⟩) (by simp; omega) (by simp)).trans (cf' o)
      clear p0 p1
      go_wp2_with (go_at_call 67; refine hC.mono ?_; rintro e w5 ⟨v5, rfl, hR5, hb5⟩; refine Hid.out ?_)
      refine Lib.hid ?_
      obtain ⟨p5, c5, rfl, hc5, hl5⟩ := hR5.out
      have y0 := (hb5.cell (p := ⟨w.heap.size + 1, 0, none⟩) (by simp; omega)).trans x0
      have y1 := (hb5.cell (p := ⟨w.heap.size + 1, 1, none⟩) (by simp; omega)).trans x1
      have yf : ∀ o, w5.frozen? ⟨w.heap.size + 1, o, none⟩ = false := fun o => (hb5.frozen (p := ⟨w.heap.size + 1, o, none⟩) (by simp; omega)).trans (xf o)
      clear hC hc5 x0 x1 xf
      go_wp2
      refine bodyPost_ret (by simp [results, Try.results45, go_sem, y0, y1]; rfl) rfl ⟨_, rfl, ?_, ?_⟩
      · exact Rw.mono (Rw.set (Rw.set hR5 (by simp; omega) _) (by simp; omega) _) (by omega)
      · exact ((hBw.trans (hb5.mono hBw.size)).setCell (p := ⟨w.heap.size + 1, 0, none⟩) (by simp) _).setCell (p := ⟨w.heap.size + 1, 1, none⟩) (by simp) _

theorem rWith_any (A : Lab) (cat level : Int) (w : World) (hm : A.xs.length ≤ 1000000) (ha : CatsAt w A.p A.xs) :
    Calls Try.prog 45 #[.agg #[.int .i64 A.d, .slice A.p A.xs.length A.cap], .int .i64 cat, .int .i64 level] w fun e w' => ∃ v, e = .returned (.tuple #[.agg #[.int .i64 (wD A cat level), v], .int .i64 (wE A cat level)]) ∧ Rw w.heap.size w' v (wL A cat level) ∧ Below w.heap.size w w' := by
  by_cases h : wOk cat level = true
  · refine (rWith_ok A cat level w h hm ha).mono ?_
    rintro e w' ⟨v, rfl, hR, hb⟩
    exact ⟨v, by simp [wD, wE, h], by simp only [wL, h, if_true]; exact hR, hb⟩
  · refine (rWith_bad A cat level w (by simpa using h)).mono ?_
    rintro e w' ⟨rfl, hb⟩
    exact ⟨.slice none 0 0, by simp [wD, wE, h], by simp only [wL, h]; exact .inl ⟨rfl, rfl⟩, hb⟩
end Go.Proofs.Ytnjmgholoigpkaa
