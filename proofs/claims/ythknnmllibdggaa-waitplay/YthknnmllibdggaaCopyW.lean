/- What Copy of package wait answers. -/
import Derived.Test.YthknnmllibdggaaCopyD
import Derived.Sort.LoopGhostIn
namespace Go.Proofs.Ythknnmllibdggaa
open Go.RowKit Go.Sort
attribute [local go_sem] Oper.semAt_some
set_option maxRecDepth 100000 in
set_option maxHeartbeats 4000000 in
theorem Copy_any (w : World) (R : Rm) (h : RmAt w R) (hN : R.N < 900000) :
    Calls Try.prog 10 #[pv R.rb] w fun e w' => ∃ R', e = .returned (pv R'.rb) ∧ RmAt w' R' ∧ (∀ s, fsg s (R'.all.map ab) = fsg s (R.all.map ab)) ∧ (∀ t, (R'.al t).map (·.c) = (R.al t).map (·.c)) ∧ R'.N ≤ R.N ∧ Below w.heap.size w w' ∧ ∀ k, R'.own k ≠ none → w.heap.size ≤ k := by
  have HH := Lib.hid h
  have hrb := heap_lt h.blk
  obtain ⟨n2, hn2, hm2⟩ := h.ms
  obtain ⟨n3, hn3, hm3⟩ := h.ma
  have HM2 := Lib.hid hm2
  have HM3 := Lib.hid hm3
  clear h hm2 hm3
  refine (callsIn_wide (n := 3)).1 ?_
  have h1 : Fence.wide.fn 10 := trivial
  have h2 : Fence.wide.fn 9 := trivial
  have h3 : Fence.wide.fn 47 := trivial
  have h4 : Fence.wide.fn 26 := trivial
  have h5 : Fence.wide.fn 50 := trivial
  have h6 : Fence.wide.fn 28 := trivial
  have h7 : Fence.wide.fn 27 := trivial
  have h8 : Fence.wide.fn 29 := trivial
  have hro : Fence.wide.round = none := rfl
  refine callsIn_of_wp_marks Try.func10 rfl h1 ?_ hro
  simp only [Try.ntmps10, List.size_toArray, List.length_cons, List.length_nil, Nat.reduceAdd, Nat.reduceSub, Array.replicate_succ, Array.replicate_zero, List.push_toArray, List.append_toArray, List.nil_append, List.cons_append]
  gi_wp2_with (gi_at_call 9; refine (callsIn_wide.2 (New_any _)).mono ?_; rintro e W1 ⟨rb, F1, rfl, hra, hb1, hlo1, hlt1⟩; refine Hid.out ?_)
  refine Lib.hid ?_
  obtain ⟨Rn, hRn, rfl, hal0, hcd0, hN0, hF0⟩ := hra
  obtain ⟨own0, hR0, hnt0, hs0⟩ := hRn.neat
  obtain ⟨W2, hW2⟩ : ∃ W2, W1.alloc (.cells #[pv Rn.rb] 24) = W2 := ⟨_, rfl⟩
  have hz1 := hb1.size
  have b12 : Below W1.heap.size W1 W2 := by rw [← hW2]; exact (Below.refl _ _).alloc (Nat.le_refl _) _
  have z2 : W2.heap.size = W1.heap.size + 1 := by rw [← hW2]; simp
  have hbx : Boxed W2 W1.heap.size 24 (pv Rn.rb) := by rw [← hW2]; exact heap_new _ _
  have hB2 : Below w.heap.size w W2 := hb1.trans (b12.mono hz1)
  have hrb2 : W2.heap[R.rb]? = _ := (hB2.block _ hrb).trans HH.out.blk
  have c2 : W2.cell? ⟨R.rb, 2, none⟩ = some (.map (some R.m2)) := by rw [cell_of_row _ _ _ _ _ _ hrb2]; rfl
  obtain ⟨W3, hrg, hmr, hb23, z3⟩ := (HM2.out.same (hB2.block _ HM2.out.lt)).range (T := 60) (e := 65) umS
  have hCB : CB w W1.heap.size W2 { Rn with own := own0 } 0 [] := ⟨hR0.below b12, fun k hk => (hnt0 k hk).imp id (fun ⟨c, t, f, hc⟩ => ⟨c, t, f, (b12.block k (heap_lt hc)).trans hc⟩), hbx, by
      show own0 W1.heap.size = none
      cases e : own0 W1.heap.size with
      | none => rfl
      | some g => exact absurd (hR0.lt W1.heap.size (by show own0 _ ≠ none; rw [e]; simp)) (by omega), fun k hk => hlo1 k (hF0 k (hs0 k hk)), hz1, hB2, hN0, ⟨[], rfl, List.nodup_nil, fun _ h => by simp at h⟩⟩
  have hCB3 := Lib.hid (hCB.grow hb23)
  have HMR := Lib.hid hmr
  have HAL := Lib.hid hal0
  have HCD := Lib.hid hcd0
  have hr3 : W2.heap.size = W1.heap.size + 1 := z2
  clear hRn hF0 hs0 hR0 hnt0 hlo1 hlt1 hmr hb23 hbx hrb2 hB2 b12 hCB hal0 hcd0
  have hwr0 : w.heap.size ≤ W2.heap.size := by omega
  have Z2 := Lib.hid z2
  clear z2 z3 hr3
  gi_wp2_with fail
  obtain ⟨b3, hb3⟩ : ∃ b3, W1.heap.size = b3 := ⟨_, rfl⟩
  obtain ⟨rit, hrit⟩ : ∃ rit, W2.heap.size = rit := ⟨_, rfl⟩
  obtain ⟨rb, hrbe⟩ : ∃ rb, Rn.rb = rb := ⟨_, rfl⟩
  rw [hb3, hrbe, hrit]
  rw [hb3] at hCB3
  rw [hrit] at HMR hwr0
  have hwr := hwr0
  clear hrg hW2 c2 hz1 hb3 hb1 Z2 hwr0 hrit
  refine wpIn_loop_ghost (fun k a' W => ∃ (ds : List Deferred) (u5 u18 u19 u20 u21 u22 u23 : Value) (R0 : Rm) (left : Int → Bool), a' = { tmps := #[pv R.rb, undef, .pointer none, .pointer (some ⟨b3, 0, none⟩), undef, u5, undef, undef, undef, undef, pv R.rb, .bool false, pv rb, pv R.rb, .pointer (some ⟨R.rb, 0, none⟩), .pointer (some ⟨R.rb, 2, none⟩), .map (some R.m2), pv rit, u18, u19, u20, u21, u22, u23, undef, undef, undef, undef, undef, undef, undef, undef, undef, undef, undef, undef, undef, undef, undef, undef, undef, undef, undef, undef, undef, undef, undef, undef, undef, undef, undef, undef, undef, undef, undef, undef], defers := ds } ∧ MR W R.m2 rit R.fs left k ∧ CB w b3 W R0 R0.all.length ds ∧ (∀ s, fsg s (R0.all.map ab) = if left s then [] else fsg s (R.all.map ab)) ∧ (∀ t, R0.al t = []) ∧ R0.rb = rb) n2 ?start ?round
  case start =>
    refine ⟨[], _, _, _, _, _, _, _, { Rn with own := own0 }, _, rfl, HMR.out, ?_, fun s => ?_, fun t => by have := HCD.out t; simpa using this, hrbe⟩
    · have h0 : Rn.all = [] := by have := HAL.out; simpa using this
      have := hCB3.out
      exact ⟨this.rm, this.neat, this.box, this.nb, this.lo, this.lb, this.bel, by show Rn.N ≤ Rn.all.length; omega, this.mks⟩
    · show fsg s (Rn.all.map ab) = _
      rw [HAL.out, HH.out.fs s]
      by_cases e : inS s R.all = []
      · rw [if_pos e]; rw [← inS_ab, e]; rfl
      · rw [if_neg e]; rfl
  case round =>
    clear hCB3 HMR HAL HCD
    rintro k a' W ⟨ds, u5, u18, u19, u20, u21, u22, u23, R0, left, rfl, hmr, hcb, hseg, hal, rfl⟩
    rcases hmr.next 0 with ⟨hl, hrun⟩ | ⟨s0, B, W', cnt', hi0, hls, hBq, hrun, hmr', hlt, hF, hz, hen⟩
    · have HCB := Lib.hid hcb
      have HSG := Lib.hid hseg
      have HL := Lib.hid hl
      have HA := Lib.hid hal
      clear hcb hseg hl hal hmr
      have hsg : ∀ s, fsg s (R0.all.map ab) = fsg s (R.all.map ab) := fun s => by rw [HSG.out s, HL.out s]; rfl
      have hbl := HCB.out.bel
      have hrbW : W.heap[R.rb]? = _ := (hbl.block _ hrb).trans HH.out.blk
      have c3 : W.cell? ⟨R.rb, 3, none⟩ = some (.map (some R.m3)) := by rw [cell_of_row _ _ _ _ _ _ hrbW]; rfl
      obtain ⟨W4, hrg, hmr, hb4, z4⟩ := (HM3.out.same (hbl.block _ HM3.out.lt)).range (T := 62) (e := 76) umA
      have hle : R0.all.length ≤ R.N := by
        have h1 := len_sub ((R0.all.map ab).map (·.1)) ((R.all.map ab).map (·.1)) HCB.out.rm.ndw (fun x hx => by
          obtain ⟨y, hy, rfl⟩ := List.mem_map.1 hx
          have h2 : y ∈ fsg y.2.1 (R0.all.map ab) := mem_fsg.2 ⟨hy, rfl⟩
          rw [hsg] at h2
          exact List.mem_map_of_mem (mem_fsg.1 h2).1)
        have h3 := HH.out.len
        simp at h1
        omega
      have hcb4 : CB w b3 W4 R0 R.N ds := { HCB.out.grow hb4 with N := Nat.le_trans HCB.out.N hle }
      have HCB4 := Lib.hid hcb4
      have HMR4 := Lib.hid hmr
      have HSG4 := Lib.hid hsg
      have hwr2 : w.heap.size ≤ W.heap.size := hbl.size
      clear HSG HL hsg hbl hrbW hmr hb4 z4 hcb4 HCB
      gi_wp2_with fail
      obtain ⟨rit2, hrit2⟩ : ∃ rit2, W.heap.size = rit2 := ⟨_, rfl⟩
      rw [hrit2] at HMR4 hwr2
      rw [hrit2]
      obtain ⟨rb, hrbe⟩ : ∃ rb, R0.rb = rb := ⟨_, rfl⟩
      rw [hrbe]
      clear hrg c3 hrit2 hrun
      refine wpIn_loop_ghost (fun k a' W => ∃ (ds : List Deferred) (u7 u8 u40 u41 u42 u43 u44 u45 u46 : Value) (R0 : Rm) (left : Int → Bool), a' = { tmps := #[pv R.rb, undef, .pointer none, .pointer (some ⟨b3, 0, none⟩), undef, u5, undef, u7, u8, undef, pv R.rb, .bool false, pv rb, pv R.rb, .pointer (some ⟨R.rb, 0, none⟩), .pointer (some ⟨R.rb, 2, none⟩), .map (some R.m2), pv rit, .tuple #[.bool false], .bool false, u20, u21, u22, u23, undef, undef, undef, undef, undef, undef, undef, undef, undef, undef, undef, pv R.rb, .pointer (some ⟨R.rb, 0, none⟩), .pointer (some ⟨R.rb, 3, none⟩), .map (some R.m3), pv rit2, u40, u41, u42, u43, u44, u45, u46, undef, undef, undef, undef, undef, undef, undef, undef, undef], defers := ds } ∧ MR W R.m3 rit2 R.fa left k ∧ CB w b3 W R0 R.N ds ∧ (∀ s, fsg s (R0.all.map ab) = fsg s (R.all.map ab)) ∧ (∀ t, (R0.al t).map (·.c) = if left t then [] else (R.al t).map (·.c)) ∧ R0.rb = rb) n3 ?start2 ?round2
      case start2 =>
        refine ⟨ds, _, _, _, _, _, _, _, _, _, R0, _, rfl, HMR4.out, HCB4.out, HSG4.out, fun t => ?_, hrbe⟩
        rw [HA.out t, HH.out.fa t]
        by_cases e : R.al t = []
        · rw [if_pos e, e]; rfl
        · rw [if_neg e]; rfl
      case round2 =>
        clear HCB4 HMR4 HSG4 HA
        rintro k2 a2 W ⟨ds, u7, u8, u40, u41, u42, u43, u44, u45, u46, R0, left, rfl, hmr, hcb, hseg, hal, rfl⟩
        rcases hmr.next 0 with ⟨hl, hrun⟩ | ⟨t0, B, W', cnt', hi0, hls, hBq, hrun, hmr', hlt, hF, hz, hen⟩
        · have HCB := Lib.hid hcb
          have HSG := Lib.hid hseg
          have HL := Lib.hid hl
          have HA := Lib.hid hal
          have y0 := hcb.box.cell
          clear hcb hseg hl hal hmr
          gi_wp2_with fail
          obtain ⟨Ds, hds, hnd, hD⟩ := HCB.out.mks
          show LeavesInM _ _ _ _ _ _ ds .returning W
          rw [hds]
          refine leaves_marks Ds W hnd (fun D h => (hD D h).2) (fun W6 e1 e2 e3 e4 hs => ?_)
          refine ⟨pv R0.rb, by simp [results, Try.results10, go_sem], R0, rfl, HCB.out.rm.same (Nat.le_of_eq e4.symm) (fun k hk => hs k (fun hm => hk (HCB.out.neat.other HCB.out.rm (hD k hm).2 rfl (fun _ _ e => by cases e)))), HSG.out, fun t => by rw [HA.out t, HL.out t]; rfl, HCB.out.N, ?_, HCB.out.lo⟩
          exact ⟨e1.trans HCB.out.bel.os, e2.trans HCB.out.bel.tape, e3.trans HCB.out.bel.output, by have := HCB.out.bel.size; omega, fun k hk => (hs k (fun hm => by have := (hD k hm).1; omega)).trans (HCB.out.bel.block k hk)⟩
        · have HMR := Lib.hid hmr
          obtain ⟨i1, i2, i3, i4, hit⟩ := hmr.iter
          have hcb' := hcb.turn hit rfl (fun _ _ e => by cases e) (fun _ e => by cases e) hwr2 hF
          have HCB := Lib.hid hcb'
          have HSG := Lib.hid hseg
          have HA := Lib.hid hal
          have HMR' := Lib.hid hmr'
          have HBQ := Lib.hid hBq
          have HLS := Lib.hid hls
          have HZ := Lib.hid hz
          clear hcb hseg hal hmr hcb' hmr' hBq hF hit hls hz
          gi_wp2_with (gi_at_call 28; refine (callsIn_wide.2 (allI_any _ _)).mono ?_; rintro e w' ⟨rfl, rfl⟩)
          obtain ⟨W4, hW4⟩ : ∃ W4, W'.alloc (.cells #[.int .i64 t0] 3) = W4 := ⟨_, rfl⟩
          obtain ⟨W5, hW5⟩ : ∃ W5, W4.alloc (.cells #[.pointer (some ⟨B, 0, none⟩)] 76) = W5 := ⟨_, rfl⟩
          rw [hW4, hW5]
          have b4 : Below W'.heap.size W' W4 := by rw [← hW4]; exact (Below.refl _ _).alloc (Nat.le_refl _) _
          have b5 : Below W4.heap.size W4 W5 := by rw [← hW5]; exact (Below.refl _ _).alloc (Nat.le_refl _) _
          have z4 : W4.heap.size = W'.heap.size + 1 := by rw [← hW4]; simp
          have z5 : W5.heap.size = W'.heap.size + 2 := by rw [← hW5]; simp; omega
          have b45 : Below W'.heap.size W' W5 := b4.trans (b5.mono b4.size)
          have hb7 : Boxed W5 W'.heap.size 3 (.int .i64 t0) := (b5.block _ (by omega)).trans (by rw [← hW4]; exact heap_new _ _)
          have hbq : Boxed W5 (W'.heap.size + 1) 76 (pv B) := by rw [← hW5, ← z4]; exact heap_new _ _
          have hcb5 := HCB.out.grow b45
          have hne : R.al t0 ≠ [] := fun e => by have := HBQ.out; rw [HH.out.fa t0, if_pos e] at this; cases this
          have hBe : R.aq t0 = B := by have := HBQ.out; rw [HH.out.fa t0, if_neg hne] at this; exact Option.some.inj this
          have hq0 : QAI w B (itA (R.al t0)) := by rw [← hBe]; exact HH.out.qa t0 hne
          have hzw := hcb5.bel.size
          have hzw' := HCB.out.bel.size
          have hq5 : QAI W5 B (itA (R.al t0)) := hq0.same (fun k hk => hcb5.bel.block k (hq0.lt hk))
          have hvs : ∀ x ∈ itA (R.al t0), ∃ c, x.v = .int .i64 c := fun x hx => by unfold itA at hx; obtain ⟨y, _, rfl⟩ := List.mem_map.1 hx; exact ⟨_, rfl⟩
          have hnw : ∀ k, W'.heap.size ≤ k → R0.own k = none := fun k hk => by
            cases e : R0.own k with
            | none => rfl
            | some g => exact absurd (HCB.out.rm.lt k (by rw [e]; simp)) (by omega)
          have hlow : ∀ k, k = W'.heap.size + 1 ∨ qf B (itA (R.al t0)) k → k < W5.heap.size ∧ R0.own k = none := fun k hk => by
            rcases hk with rfl | hk
            · exact ⟨by omega, hnw _ (by omega)⟩
            · have hl := hq0.lt hk
              refine ⟨by omega, ?_⟩
              cases e : R0.own k with
              | none => rfl
              | some g => exact absurd (hcb5.lo k (by rw [e]; simp)) (by omega)
          have h7n := hnw W'.heap.size (Nat.le_refl _)
          have HCB5 := Lib.hid hcb5
          have HLW := Lib.hid hlow
          have HB7 := Lib.hid hb7
          have hll : (itA (R.al t0)).attach.length = ((R.al t0).map (·.c)).length := by rw [List.length_attach]; unfold itA; simp
          have HLL := Lib.hid hll
          have HNE := Lib.hid hne
          have HNW := Lib.hid h7n
          clear hW4 hW5 hen hrun hll hBe hne h7n hnw
          refine wpIn_range_told hro (by decide) (gf := 50) (lb := #[.pointer (some ⟨W'.heap.size + 1, 0, none⟩)]) rfl h5 (enters_of Try.func50 (by kernel_rfl) rfl)
            (allI_tells 2 (by decide) (W'.heap.size + 1) B (itA (R.al t0)) W5 hvs hbq hq5) (fun _ => rfl) (fun h1 h2 k hk => (h2 k hk).trans (h1 k hk)) (fun W lq o o' hl h0 _ k hk => by
              have := (hlow k hk).1
              exact putObj_ne W lq o' (by omega))
            (fun pre W => ∃ R1, CI W5 R0 W R1 (R0.all.map ab) (fun t => if t = t0 then ((R.al t0).map (·.c)).take pre.length else (R0.al t).map (·.c)) R.N)
            (CI.ownFrom hcb5.rm (fun _ => R0.all.map ab) (fun (pre : List (Im (itA (R.al t0)))) t => if t = t0 then ((R.al t0).map (·.c)).take pre.length else (R0.al t).map (·.c)) (fun _ => R.N)) ⟨R0, CI.start hcb5.rm hcb5.neat (fun t => by
              by_cases e : t = t0
              · rw [if_pos e, e, HA.out t0, HLS.out]; rfl
              · rw [if_neg e]) hcb5.N⟩
            (fun x => { tmps := #[pv R.rb, undef, .pointer none, .pointer (some ⟨b3, 0, none⟩), undef, u5, undef, .pointer (some ⟨W'.heap.size, 0, none⟩), pv B, x.1.v, pv R.rb, .bool false, pv R0.rb, pv R.rb, .pointer (some ⟨R.rb, 0, none⟩), .pointer (some ⟨R.rb, 2, none⟩), .map (some R.m2), pv rit, .tuple #[.bool false], .bool false, u20, u21, u22, u23, undef, undef, undef, undef, undef, undef, undef, undef, undef, undef, undef, pv R.rb, .pointer (some ⟨R.rb, 0, none⟩), .pointer (some ⟨R.rb, 3, none⟩), .map (some R.m3), pv rit2, .tuple #[.bool true, .int .i64 t0, pv B], .bool true, .tuple #[.int .i64 t0, pv B], .int .i64 t0, pv B, pv B, .func (.func 50) #[] #[.pointer (some ⟨W'.heap.size + 1, 0, none⟩)], x.1.v, undef, undef, undef, undef, undef, undef, undef, undef], defers := [] }) ?assign2 ?body2 ?done2
          case assign2 =>
            rintro lp x W K hK
            simp only [encI]
            gi_wp2
            exact hK
          case body2 =>
            rintro lp pre x W ⟨R1, hci⟩ hp
            have hx := attach_next hp
            obtain ⟨y, hy, hxy⟩ := itA_at hx
            have hyR : y ∈ R.al t0 := List.mem_of_getElem? hy
            have hbW : Boxed W b3 24 (pv R0.rb) := (hci.fm.same b3 HCB5.out.box.lt (fun e => e HCB5.out.nb)).trans HCB5.out.box
            have h7W : Boxed W W'.heap.size 3 (.int .i64 t0) := (hci.fm.same _ HB7.out.lt (fun e => e HNW.out)).trans HB7.out
            have hrW := hci.rm.blk
            obtain ⟨yc, hyc⟩ : ∃ yc, y.c = yc := ⟨_, rfl⟩
            have cW : ∀ X, Below W.heap.size W X → X.cell? ⟨R0.rb, 3, none⟩ = some (.map (some R0.m3)) ∧ X.cell? ⟨W'.heap.size, 0, none⟩ = some (.int .i64 t0) ∧ X.cell? ⟨b3, 0, none⟩ = some (pv R0.rb) := fun X hX =>
              ⟨by
                rw [hX.cell (p := ⟨R0.rb, 3, none⟩) (by show R0.rb < _; rw [← hci.rb]; exact heap_lt hrW), ← hci.rb, cell_of_row _ _ _ _ _ _ hrW, ← hci.ms.2.2.2]; rfl, (hX.cell (p := ⟨W'.heap.size, 0, none⟩) h7W.lt).trans h7W.cell, (hX.cell (p := ⟨b3, 0, none⟩) hbW.lt).trans hbW.cell⟩
            have hgc : i64 yc := by rw [← hyc]; exact (HH.out.goodA t0 y hyR).2
            have hab : ((R.al t0).map (·.c))[pre.length]? = some yc := by rw [List.getElem?_map, hy]; simp [hyc]
            have hpl : pre.length < (R.al t0).length := (List.getElem?_eq_some_iff.1 hy).1
            have HCI := Lib.hid hci
            have HAB := Lib.hid hab
            simp only [hxy, hyc]
            clear hci hab hx hy hxy hyR hbW h7W hyc hrW hp HLS HBQ HMR HMR'
            gi_wp2_with fail
            refine wpIn_region_monoT 6 6 (fun kq v X => match kq with | 48 => v = pv R0.rb | 49 => v = .pointer (some ⟨R0.rb, 0, none⟩) | 50 => v = .pointer (some ⟨R0.rb, 3, none⟩) | 51 => v = .map (some R0.m3) | 52 => v = .int .i64 t0 | 53 => v = .int .i64 yc | _ => True) (by kernel_rfl) (by kernel_rfl) (by kernel_rfl) (by kernel_rfl) (by kernel_rfl) (by simp) (by kernel_rfl) ?_ ?_ ?_
            · intro kq v W W' h hb
              revert h
              try dsimp only
              split
              · intro h; exact h
              · intro h; exact h
              · intro h; exact h
              · intro h; exact h
              · intro h; exact h
              · intro h; exact h
              · intro h; trivial
            · intro a' X hB hs hk i o d ho hd hG
              match i, ho with
              | 0, ho =>
                obtain rfl : _ = o := Option.some.inj ho
                obtain rfl : 48 = d := Option.some.inj hd
                have g3 : a'.eval (.tmp 3) = .pointer (some ⟨b3, 0, none⟩) := hk 3 (by kernel_rfl)
                obtain ⟨ev, hev⟩ : ∃ ev, a'.eval = ev := ⟨_, rfl⟩
                rw [hev] at g3 ⊢
                clear hev hG hk
                obtain ⟨c1, c2, c3⟩ := cW X hB
                exact .inr ⟨rfl, .inl ⟨pv R0.rb, X, by clear hs; go_simp, Below.refl _ _, rfl⟩⟩
              | 1, ho =>
                obtain rfl : _ = o := Option.some.inj ho
                obtain rfl : 49 = d := Option.some.inj hd
                have g48 : a'.eval (.tmp 48) = pv R0.rb := hG ⟨0, .data⟩ (by simp) rfl 48 rfl
                obtain ⟨ev, hev⟩ : ∃ ev, a'.eval = ev := ⟨_, rfl⟩
                rw [hev] at g48 ⊢
                clear hev hG hk
                obtain ⟨c1, c2, c3⟩ := cW X hB
                exact .inr ⟨rfl, .inl ⟨.pointer (some ⟨R0.rb, 0, none⟩), X, by clear hs; go_simp, Below.refl _ _, rfl⟩⟩
              | 2, ho =>
                obtain rfl : _ = o := Option.some.inj ho
                obtain rfl : 50 = d := Option.some.inj hd
                have g49 : a'.eval (.tmp 49) = .pointer (some ⟨R0.rb, 0, none⟩) := hG ⟨1, .data⟩ (by simp) rfl 49 rfl
                obtain ⟨ev, hev⟩ : ∃ ev, a'.eval = ev := ⟨_, rfl⟩
                rw [hev] at g49 ⊢
                clear hev hG hk
                obtain ⟨c1, c2, c3⟩ := cW X hB
                exact .inr ⟨rfl, .inl ⟨.pointer (some ⟨R0.rb, 3, none⟩), X, by clear hs; go_simp, Below.refl _ _, rfl⟩⟩
              | 3, ho =>
                obtain rfl : _ = o := Option.some.inj ho
                obtain rfl : 51 = d := Option.some.inj hd
                have g50 : a'.eval (.tmp 50) = .pointer (some ⟨R0.rb, 3, none⟩) := hG ⟨2, .data⟩ (by simp) rfl 50 rfl
                obtain ⟨ev, hev⟩ : ∃ ev, a'.eval = ev := ⟨_, rfl⟩
                rw [hev] at g50 ⊢
                clear hev hG hk
                obtain ⟨c1, c2, c3⟩ := cW X hB
                exact .inr ⟨rfl, .inl ⟨.map (some R0.m3), X, by clear hs; go_simp, Below.refl _ _, rfl⟩⟩
              | 4, ho =>
                obtain rfl : _ = o := Option.some.inj ho
                obtain rfl : 52 = d := Option.some.inj hd
                have g7 : a'.eval (.tmp 7) = .pointer (some ⟨W'.heap.size, 0, none⟩) := hk 7 (by kernel_rfl)
                obtain ⟨ev, hev⟩ : ∃ ev, a'.eval = ev := ⟨_, rfl⟩
                rw [hev] at g7 ⊢
                clear hev hG hk
                obtain ⟨c1, c2, c3⟩ := cW X hB
                exact .inr ⟨rfl, .inl ⟨.int .i64 t0, X, by clear hs; go_simp, Below.refl _ _, rfl⟩⟩
              | 5, ho =>
                obtain rfl : _ = o := Option.some.inj ho
                obtain rfl : 53 = d := Option.some.inj hd
                have g9 : a'.eval (.tmp 9) = .int .i64 yc := hk 9 (by kernel_rfl)
                obtain ⟨ev, hev⟩ : ∃ ev, a'.eval = ev := ⟨_, rfl⟩
                rw [hev] at g9 ⊢
                clear hev hG hk
                obtain ⟨c1, c2, c3⟩ := cW X hB
                exact .inr ⟨rfl, .inl ⟨.int .i64 yc, X, by clear hs; go_simp, Below.refl _ _, rfl⟩⟩
              | j + 6, ho => simp at ho
            · intro a' X hB hs hdf hk hG
              obtain ⟨tm, df⟩ := a'
              obtain rfl : df = [] := hdf
              have e0 : tm.getD 0 undef = pv R.rb := hk 0 (by kernel_rfl)
              have e1 : tm.getD 1 undef = undef := hk 1 (by kernel_rfl)
              have e2 : tm.getD 2 undef = .pointer none := hk 2 (by kernel_rfl)
              have e3 : tm.getD 3 undef = .pointer (some ⟨b3, 0, none⟩) := hk 3 (by kernel_rfl)
              have e4 : tm.getD 4 undef = undef := hk 4 (by kernel_rfl)
              have e5 : tm.getD 5 undef = u5 := hk 5 (by kernel_rfl)
              have e6 : tm.getD 6 undef = undef := hk 6 (by kernel_rfl)
              have e7 : tm.getD 7 undef = .pointer (some ⟨W'.heap.size, 0, none⟩) := hk 7 (by kernel_rfl)
              have e8 : tm.getD 8 undef = pv B := hk 8 (by kernel_rfl)
              have e9 : tm.getD 9 undef = .int .i64 yc := hk 9 (by kernel_rfl)
              have e10 : tm.getD 10 undef = pv R.rb := hk 10 (by kernel_rfl)
              have e11 : tm.getD 11 undef = .bool false := hk 11 (by kernel_rfl)
              have e12 : tm.getD 12 undef = pv R0.rb := hk 12 (by kernel_rfl)
              have e13 : tm.getD 13 undef = pv R.rb := hk 13 (by kernel_rfl)
              have e14 : tm.getD 14 undef = .pointer (some ⟨R.rb, 0, none⟩) := hk 14 (by kernel_rfl)
              have e15 : tm.getD 15 undef = .pointer (some ⟨R.rb, 2, none⟩) := hk 15 (by kernel_rfl)
              have e16 : tm.getD 16 undef = .map (some R.m2) := hk 16 (by kernel_rfl)
              have e17 : tm.getD 17 undef = pv rit := hk 17 (by kernel_rfl)
              have e18 : tm.getD 18 undef = .tuple #[.bool false] := hk 18 (by kernel_rfl)
              have e19 : tm.getD 19 undef = .bool false := hk 19 (by kernel_rfl)
              have e20 : tm.getD 20 undef = u20 := hk 20 (by kernel_rfl)
              have e21 : tm.getD 21 undef = u21 := hk 21 (by kernel_rfl)
              have e22 : tm.getD 22 undef = u22 := hk 22 (by kernel_rfl)
              have e23 : tm.getD 23 undef = u23 := hk 23 (by kernel_rfl)
              have e24 : tm.getD 24 undef = undef := hk 24 (by kernel_rfl)
              have e25 : tm.getD 25 undef = undef := hk 25 (by kernel_rfl)
              have e26 : tm.getD 26 undef = undef := hk 26 (by kernel_rfl)
              have e27 : tm.getD 27 undef = undef := hk 27 (by kernel_rfl)
              have e28 : tm.getD 28 undef = undef := hk 28 (by kernel_rfl)
              have e29 : tm.getD 29 undef = undef := hk 29 (by kernel_rfl)
              have e30 : tm.getD 30 undef = undef := hk 30 (by kernel_rfl)
              have e31 : tm.getD 31 undef = undef := hk 31 (by kernel_rfl)
              have e32 : tm.getD 32 undef = undef := hk 32 (by kernel_rfl)
              have e33 : tm.getD 33 undef = undef := hk 33 (by kernel_rfl)
              have e34 : tm.getD 34 undef = undef := hk 34 (by kernel_rfl)
              have e35 : tm.getD 35 undef = pv R.rb := hk 35 (by kernel_rfl)
              have e36 : tm.getD 36 undef = .pointer (some ⟨R.rb, 0, none⟩) := hk 36 (by kernel_rfl)
              have e37 : tm.getD 37 undef = .pointer (some ⟨R.rb, 3, none⟩) := hk 37 (by kernel_rfl)
              have e38 : tm.getD 38 undef = .map (some R.m3) := hk 38 (by kernel_rfl)
              have e39 : tm.getD 39 undef = pv rit2 := hk 39 (by kernel_rfl)
              have e40 : tm.getD 40 undef = .tuple #[.bool true, .int .i64 t0, pv B] := hk 40 (by kernel_rfl)
              have e41 : tm.getD 41 undef = .bool true := hk 41 (by kernel_rfl)
              have e42 : tm.getD 42 undef = .tuple #[.int .i64 t0, pv B] := hk 42 (by kernel_rfl)
              have e43 : tm.getD 43 undef = .int .i64 t0 := hk 43 (by kernel_rfl)
              have e44 : tm.getD 44 undef = pv B := hk 44 (by kernel_rfl)
              have e45 : tm.getD 45 undef = pv B := hk 45 (by kernel_rfl)
              have e46 : tm.getD 46 undef = .func (.func 50) #[] #[.pointer (some ⟨W'.heap.size + 1, 0, none⟩)] := hk 46 (by kernel_rfl)
              have e47 : tm.getD 47 undef = .int .i64 yc := hk 47 (by kernel_rfl)
              have e54 : tm.getD 54 undef = undef := hk 54 (by kernel_rfl)
              have e55 : tm.getD 55 undef = undef := hk 55 (by kernel_rfl)
              have g48 : (tm.getD 48 undef) = pv R0.rb := hG 0 48 (by decide) rfl
              have g49 : (tm.getD 49 undef) = .pointer (some ⟨R0.rb, 0, none⟩) := hG 1 49 (by decide) rfl
              have g50 : (tm.getD 50 undef) = .pointer (some ⟨R0.rb, 3, none⟩) := hG 2 50 (by decide) rfl
              have g51 : (tm.getD 51 undef) = .map (some R0.m3) := hG 3 51 (by decide) rfl
              have g52 : (tm.getD 52 undef) = .int .i64 t0 := hG 4 52 (by decide) rfl
              have g53 : (tm.getD 53 undef) = .int .i64 yc := hG 5 53 (by decide) rfl
              have htm := arr_of tm ((pv R.rb : Value) :: (undef : Value) :: (.pointer none : Value) :: (.pointer (some ⟨b3, 0, none⟩) : Value) :: (undef : Value) :: (u5 : Value) :: (undef : Value) :: (.pointer (some ⟨W'.heap.size, 0, none⟩) : Value) :: (pv B : Value) :: (.int .i64 yc : Value) :: (pv R.rb : Value) :: (.bool false : Value) :: (pv R0.rb : Value) :: (pv R.rb : Value) :: (.pointer (some ⟨R.rb, 0, none⟩) : Value) :: (.pointer (some ⟨R.rb, 2, none⟩) : Value) :: (.map (some R.m2) : Value) :: (pv rit : Value) :: (.tuple #[.bool false] : Value) :: (.bool false : Value) :: (u20 : Value) :: (u21 : Value) :: (u22 : Value) :: (u23 : Value) :: (undef : Value) :: (undef : Value) :: (undef : Value) :: (undef : Value) :: (undef : Value) :: (undef : Value) :: (undef : Value) :: (undef : Value) :: (undef : Value) :: (undef : Value) :: (undef : Value) :: (pv R.rb : Value) :: (.pointer (some ⟨R.rb, 0, none⟩) : Value) :: (.pointer (some ⟨R.rb, 3, none⟩) : Value) :: (.map (some R.m3) : Value) :: (pv rit2 : Value) :: (.tuple #[.bool true, .int .i64 t0, pv B] : Value) :: (.bool true : Value) :: (.tuple #[.int .i64 t0, pv B] : Value) :: (.int .i64 t0 : Value) :: (pv B : Value) :: (pv B : Value) :: (.func (.func 50) #[] #[.pointer (some ⟨W'.heap.size + 1, 0, none⟩)] : Value) :: (.int .i64 yc : Value) :: (tm.getD 48 undef : Value) :: (tm.getD 49 undef : Value) :: (tm.getD 50 undef : Value) :: (tm.getD 51 undef : Value) :: (tm.getD 52 undef : Value) :: (tm.getD 53 undef : Value) :: (undef : Value) :: (undef : Value) :: []) hs (by show (tm.getD 0 undef :: tm.getD 1 undef :: tm.getD 2 undef :: tm.getD 3 undef :: tm.getD 4 undef :: tm.getD 5 undef :: tm.getD 6 undef :: tm.getD 7 undef :: tm.getD 8 undef :: tm.getD 9 undef :: tm.getD 10 undef :: tm.getD 11 undef :: tm.getD 12 undef :: tm.getD 13 undef :: tm.getD 14 undef :: tm.getD 15 undef :: tm.getD 16 undef :: tm.getD 17 undef :: tm.getD 18 undef :: tm.getD 19 undef :: tm.getD 20 undef :: tm.getD 21 undef :: tm.getD 22 undef :: tm.getD 23 undef :: tm.getD 24 undef :: tm.getD 25 undef :: tm.getD 26 undef :: tm.getD 27 undef :: tm.getD 28 undef :: tm.getD 29 undef :: tm.getD 30 undef :: tm.getD 31 undef :: tm.getD 32 undef :: tm.getD 33 undef :: tm.getD 34 undef :: tm.getD 35 undef :: tm.getD 36 undef :: tm.getD 37 undef :: tm.getD 38 undef :: tm.getD 39 undef :: tm.getD 40 undef :: tm.getD 41 undef :: tm.getD 42 undef :: tm.getD 43 undef :: tm.getD 44 undef :: tm.getD 45 undef :: tm.getD 46 undef :: tm.getD 47 undef :: tm.getD 48 undef :: tm.getD 49 undef :: tm.getD 50 undef :: tm.getD 51 undef :: tm.getD 52 undef :: tm.getD 53 undef :: tm.getD 54 undef :: tm.getD 55 undef :: []) = _; rw [e0, e1, e2, e3, e4, e5, e6, e7, e8, e9, e10, e11, e12, e13, e14, e15, e16, e17, e18, e19, e20, e21, e22, e23, e24, e25, e26, e27, e28, e29, e30, e31, e32, e33, e34, e35, e36, e37, e38, e39, e40, e41, e42, e43, e44, e45, e46, e47, e54, e55]; try rfl)
              clear hs hk hG e0 e1 e2 e3 e4 e5 e6 e7 e8 e9 e10 e11 e12 e13 e14 e15 e16 e17 e18 e19 e20 e21 e22 e23 e24 e25 e26 e27 e28 e29 e30 e31 e32 e33 e34 e35 e36 e37 e38 e39 e40 e41 e42 e43 e44 e45 e46 e47 e54 e55
              generalize tm.getD 48 undef = t48 at htm g48
              generalize tm.getD 49 undef = t49 at htm g49
              generalize tm.getD 50 undef = t50 at htm g50
              generalize tm.getD 51 undef = t51 at htm g51
              generalize tm.getD 52 undef = t52 at htm g52
              generalize tm.getD 53 undef = t53 at htm g53
              subst htm
              subst g48
              subst g49
              subst g50
              subst g51
              subst g52
              subst g53
              simp only [List.drop_succ_cons, List.drop_zero]
              have hciX := HCI.out.turn HCB5.out.rm (grown_below hB none) (fun r e => by cases e)
              obtain ⟨n1, hn1, hm1⟩ := hciX.rm.ma
              have hlA := hciX.rm.lenA t0
              have hNX := hciX.N
              have hPu := pushA_any X R1.m3 n1 R1.fa (itA (R1.al t0)) t0 yc hm1 hi0 (by omega) (by unfold itA; rw [List.length_map]; omega) (by
                rw [hciX.rm.fa t0]
                by_cases he : R1.al t0 = []
                · exact .inl ⟨if_pos he, by rw [he]; rfl⟩
                · exact .inr ⟨_, if_neg he, by unfold itA; simpa using he, hciX.rm.qa t0 he⟩)
              rw [show R1.m3 = R0.m3 from hciX.ms.2.2.2] at hPu
              have HPu := Lib.hid hPu
              clear hciX hPu hm1 hlA
              gi_wp2_with (gi_at_call 29; refine (callsIn_wide.2 HPu.out).mono ?_; rintro e W7 ⟨Q7, I7, n7, rfl, g1, g2, g3, g4, g5, g6⟩)
              have hciX := HCI.out.turn HCB5.out.rm (grown_below hB none) (fun r e => by cases e)
              have hput : putL (fun t => if t = t0 then ((R.al t0).map (·.c)).take pre.length else (R0.al t).map (·.c)) t0 yc = fun t => if t = t0 then ((R.al t0).map (·.c)).take (pre.length + 1) else (R0.al t).map (·.c) := by
                funext s
                unfold putL
                dsimp only
                by_cases e : s = t0
                · rw [if_pos e, if_pos e, if_pos rfl, List.take_add_one, HAB.out]; rfl
                · rw [if_neg e, if_neg e, if_neg e]
              rw [← hciX.ms.2.2.2] at g1 g4
              obtain ⟨hnx, hfx⟩ := hciX.push HH.out hi0 hgc hn1 g1 g2 g3 g4 g5 g6 (fun s hs => by
                  rw [hput] at hs
                  dsimp only at hs
                  by_cases e : s = t0
                  · rw [e]; exact HNE.out
                  · rw [if_neg e, HA.out s] at hs
                    intro hh
                    rw [hh] at hs
                    cases hl : left s <;> simp [hl] at hs)
                (fun s => by
                  rw [hput]
                  dsimp only
                  by_cases e : s = t0
                  · rw [if_pos e]; have := HH.out.lenA t0; simp; omega
                  · rw [if_neg e]; have h1 := HCB5.out.rm.lenA s; have h2 := HCB5.out.N; simp; omega)
                (by rw [List.length_map]; have h1 := HCB5.out.rm.len; have h2 := HCB5.out.N; omega)
              rw [hput] at hnx
              obtain ⟨hk1, hk2⟩ := hciX.keeps HCB5.out.rm hfx
              rw [← z5]
              refine ⟨((keeps_below hB).from _).trans hk1, fun k hk => ?_, hnx⟩
              obtain ⟨l1, l2⟩ := HLW.out k hk
              rw [hk2 k l1 l2]; exact hB.block k (by have := HCI.out.fm.size; omega)
          case done2 =>
            rintro W6 ⟨R1, hci⟩ hD
            rw [HLL.out, List.take_length] at hci
            have hcb6 := HCB5.out.loop hci hD
            refine ⟨cnt', hlt, _, _, _, _, _, _, _, _, _, _, R1, _, rfl, HCB5.out.mr hci (HMR'.out.same (b45.block _ HMR'.out.map) (b45.block _ (by obtain ⟨a, b, c, d, h⟩ := HMR'.out.iter; exact heap_lt h))) HM3.out.lt, hcb6, fun s => ?_, fun t => ?_, hci.rb⟩
            · rw [hci.alls]; exact HSG.out s
            · rw [hci.als]
              by_cases e : t = t0
              · rw [if_pos e, e]; simp
              · rw [if_neg e, HA.out t]
                have e' : (t == t0) = false := by simpa using e
                rw [e']; simp
    · have HMR := Lib.hid hmr
      obtain ⟨i1, i2, i3, i4, hit⟩ := hmr.iter
      have hcb' := hcb.turn hit rfl (fun _ _ e => by cases e) (fun _ e => by cases e) hwr hF
      have HCB := Lib.hid hcb'
      have HSG := Lib.hid hseg
      have HA := Lib.hid hal
      have HMR' := Lib.hid hmr'
      have HBQ := Lib.hid hBq
      have HLS := Lib.hid hls
      clear hcb hseg hal hmr hcb' hmr' hBq hF hit hls
      have HZ := Lib.hid hz
      clear hz
      gi_wp2_with (gi_at_call 26; refine (callsIn_wide.2 (allW_any _ _)).mono ?_; rintro e w' ⟨rfl, rfl⟩)
      obtain ⟨W4, hW4⟩ : ∃ W4, W'.alloc (.cells #[.pointer (some ⟨B, 0, none⟩)] 65) = W4 := ⟨_, rfl⟩
      rw [hW4]
      have b4 : Below W'.heap.size W' W4 := by rw [← hW4]; exact (Below.refl _ _).alloc (Nat.le_refl _) _
      have z4 : W4.heap.size = W'.heap.size + 1 := by rw [← hW4]; simp
      have hbq : Boxed W4 W'.heap.size 65 (pv B) := by rw [← hW4]; exact heap_new _ _
      have hcb4 := HCB.out.grow b4
      have hne : inS s0 R.all ≠ [] := fun e => by have := HBQ.out; rw [HH.out.fs s0, if_pos e] at this; cases this
      have hBe : R.sq s0 = B := by have := HBQ.out; rw [HH.out.fs s0, if_neg hne] at this; exact Option.some.inj this
      have hq0 : QAW w B (itS (inS s0 R.all)) := by rw [← hBe]; exact HH.out.qs s0 hne
      have hzw := hcb4.bel.size
      have hq4 : QAW W4 B (itS (inS s0 R.all)) := hq0.same (fun k hk => hcb4.bel.block k (hq0.lt hk))
      have hvs : ∀ x ∈ itS (inS s0 R.all), ∃ B, x.v = pv B := fun x hx => by unfold itS at hx; obtain ⟨y, _, rfl⟩ := List.mem_map.1 hx; exact ⟨_, rfl⟩
      have hlow : ∀ k, k = W'.heap.size ∨ qf B (itS (inS s0 R.all)) k → k < W4.heap.size ∧ R0.own k = none := fun k hk => by
        rcases hk with rfl | hk
        · refine ⟨by omega, ?_⟩
          cases e : R0.own W'.heap.size with
          | none => rfl
          | some g => exact absurd (HCB.out.rm.lt W'.heap.size (by rw [e]; simp)) (by omega)
        · have hl := hq0.lt hk
          refine ⟨by omega, ?_⟩
          cases e : R0.own k with
          | none => rfl
          | some g => exact absurd (hcb4.lo k (by rw [e]; simp)) (by omega)
      have HCB4 := Lib.hid hcb4
      have HNE := Lib.hid hne
      have HLW := Lib.hid hlow
      have hll : (itS (inS s0 R.all)).attach.length = (fsg s0 (R.all.map ab)).length := by rw [List.length_attach, ← inS_ab]; unfold itS; simp
      have HLL := Lib.hid hll
      clear hW4 hen hrun hll hBe
      refine wpIn_range_told hro (by decide) (gf := 47) (lb := #[.pointer (some ⟨W'.heap.size, 0, none⟩)]) rfl h3 (enters_of Try.func47 (by kernel_rfl) rfl)
        (allW_tells 2 (by decide) W'.heap.size B (itS (inS s0 R.all)) W4 hvs hbq hq4) (fun _ => rfl) (fun h1 h2 k hk => (h2 k hk).trans (h1 k hk)) (fun W lq o o' hl h0 _ k hk => by
          have := (hlow k hk).1
          exact putObj_ne W lq o' (by omega))
        (fun pre W => ∃ R1, CI W4 R0 W R1 (R0.all.map ab ++ (fsg s0 (R.all.map ab)).take pre.length) (fun _ => []) (R0.all.length + pre.length))
        (CI.ownFrom hcb4.rm _ _ _) ⟨R0, by
          have := CI.start hcb4.rm hcb4.neat (al := fun _ => []) (fun t => by rw [HA.out t]; rfl) hcb4.N
          simpa using this⟩
        (fun x => { tmps := #[pv R.rb, undef, .pointer none, .pointer (some ⟨b3, 0, none⟩), undef, pv B, x.1.v, undef, undef, undef, pv R.rb, .bool false, pv R0.rb, pv R.rb, .pointer (some ⟨R.rb, 0, none⟩), .pointer (some ⟨R.rb, 2, none⟩), .map (some R.m2), pv rit, .tuple #[.bool true, .int .i64 s0, pv B], .bool true, .tuple #[.int .i64 s0, pv B], pv B, pv B, .func (.func 47) #[] #[.pointer (some ⟨W'.heap.size, 0, none⟩)], x.1.v, undef, undef, undef, undef, undef, undef, undef, undef, undef, undef, undef, undef, undef, undef, undef, undef, undef, undef, undef, undef, undef, undef, undef, undef, undef, undef, undef, undef, undef, undef, undef], defers := [] }) ?assign ?body ?done
      case assign =>
        rintro lp x W K hK
        simp only [encI]
        gi_wp2
        exact hK
      case body =>
        rintro lp pre x W ⟨R1, hci⟩ hp
        have hx := attach_next hp
        obtain ⟨y, hy, hxy⟩ := itS_at hx
        have hyS : y ∈ inS s0 R.all := List.mem_of_getElem? hy
        have hyR := (mem_inS.1 hyS).1
        have hwt := HH.out.wts y hyR
        have hyl := heap_lt hwt
        have hyW : W.heap[y.B]? = some (.cells (wtC y) 75 (0, 0)) := by
          rw [hci.fm.same y.B (by omega) (fun e => by have := HCB4.out.lo _ e; omega), HCB4.out.bel.block _ hyl]; exact hwt
        have hbW : Boxed W b3 24 (pv R0.rb) := (hci.fm.same b3 HCB4.out.box.lt (fun e => e HCB4.out.nb)).trans HCB4.out.box
        obtain ⟨yt, hyt⟩ : ∃ yt, y.th = yt := ⟨_, rfl⟩
        obtain ⟨ys, hys⟩ : ∃ ys, y.seg = ys := ⟨_, rfl⟩
        obtain ⟨yo, hyo⟩ : ∃ yo, y.off = yo := ⟨_, rfl⟩
        obtain ⟨yB, hyB⟩ : ∃ yB, y.B = yB := ⟨_, rfl⟩
        rw [hyB] at hyW hxy
        have d0 : W.cell? ⟨yB, 0, none⟩ = some (.int .i64 ys) := by rw [cell_of_row _ _ _ _ _ _ hyW, ← hys]; rfl
        have d1 : W.cell? ⟨yB, 1, none⟩ = some (.int .i64 yo) := by rw [cell_of_row _ _ _ _ _ _ hyW, ← hyo]; rfl
        have d2 : W.cell? ⟨yB, 2, none⟩ = some (.int .i64 yt) := by rw [cell_of_row _ _ _ _ _ _ hyW, ← hyt]; rfl
        have cW : ∀ X, Below W.heap.size W X → X.cell? ⟨yB, 0, none⟩ = some (.int .i64 ys) ∧ X.cell? ⟨yB, 1, none⟩ = some (.int .i64 yo) ∧ X.cell? ⟨yB, 2, none⟩ = some (.int .i64 yt) ∧ X.cell? ⟨b3, 0, none⟩ = some (pv R0.rb) := fun X hX =>
          ⟨(hX.cell (p := ⟨yB, 0, none⟩) (heap_lt hyW)).trans d0, (hX.cell (p := ⟨yB, 1, none⟩) (heap_lt hyW)).trans d1, (hX.cell (p := ⟨yB, 2, none⟩) (heap_lt hyW)).trans d2, (hX.cell (p := ⟨b3, 0, none⟩) hbW.lt).trans hbW.cell⟩
        have hgd := HH.out.good y hyR
        rw [hyt, hys, hyo] at hgd
        have hab : (fsg s0 (R.all.map ab))[pre.length]? = some (yt, ys, yo) := by rw [← inS_ab, List.getElem?_map, hy]; simp [ab, hyt, hys, hyo]
        have hno := seg_no (i := pre.length) HH.out.ndw HSG.out HLS.out (List.getElem?_eq_some_iff.1 hab).1
        rw [(List.getElem?_eq_some_iff.1 hab).2] at hno
        have hno1 : ∀ z ∈ R1.all, z.th ≠ yt := fun z hz => hno (ab z) (by rw [← hci.alls]; exact List.mem_map_of_mem hz)
        have hln := seg_len (s0 := s0) (i := pre.length) HSG.out (by rw [← hci.alls]; exact hci.rm.ndw)
        have hN1 : R1.N < 900000 := by
          have h1 := hci.N
          have h2 := congrArg List.length hci.alls
          have h3 := HH.out.len
          have h4 : pre.length ≤ (fsg s0 (R.all.map ab)).length := Nat.le_of_lt (List.getElem?_eq_some_iff.1 hab).1
          simp at h2 hln
          omega
        have HCI := Lib.hid hci
        have HAB := Lib.hid hab
        simp only [hxy]
        clear hci hab hno hln hx hy hxy hyS hyR hwt hyl hyW hbW hyt hys hyo hyB d0 d1 d2 hp HLS HSG HBQ HMR HMR'
        gi_wp2_with fail
        refine wpIn_region_monoT 6 9 (fun kq v X => match kq with | 25 => v = pv R0.rb | 26 => v = pv yB | 27 => v = .pointer (some ⟨yB, 0, none⟩) | 28 => v = .pointer (some ⟨yB, 2, none⟩) | 29 => v = .int .i64 yt | 30 => v = pv yB | 31 => v = .pointer (some ⟨yB, 0, none⟩) | 32 => v = .pointer (some ⟨yB, 0, none⟩) | 33 => v = .agg #[.int .i64 ys, .int .i64 yo] | _ => True) (by kernel_rfl) (by kernel_rfl) (by kernel_rfl) (by kernel_rfl) (by kernel_rfl) (by simp) (by kernel_rfl) ?_ ?_ ?_
        · intro kq v W W' h hb
          revert h
          try dsimp only
          split
          · intro h; exact h
          · intro h; exact h
          · intro h; exact h
          · intro h; exact h
          · intro h; exact h
          · intro h; exact h
          · intro h; exact h
          · intro h; exact h
          · intro h; exact h
          · intro h; trivial
        · intro a' X hB hs hk i o d ho hd hG
          match i, ho with
          | 0, ho =>
            obtain rfl : _ = o := Option.some.inj ho
            obtain rfl : 25 = d := Option.some.inj hd
            have g3 : a'.eval (.tmp 3) = .pointer (some ⟨b3, 0, none⟩) := hk 3 (by kernel_rfl)
            obtain ⟨ev, hev⟩ : ∃ ev, a'.eval = ev := ⟨_, rfl⟩
            rw [hev] at g3 ⊢
            clear hev hG hk
            obtain ⟨c1, c2, c3, c4⟩ := cW X hB
            exact .inr ⟨rfl, .inl ⟨pv R0.rb, X, by clear hs; go_simp, Below.refl _ _, rfl⟩⟩
          | 1, ho =>
            obtain rfl : _ = o := Option.some.inj ho
            obtain rfl : 26 = d := Option.some.inj hd
            have g6 : a'.eval (.tmp 6) = pv yB := hk 6 (by kernel_rfl)
            obtain ⟨ev, hev⟩ : ∃ ev, a'.eval = ev := ⟨_, rfl⟩
            rw [hev] at g6 ⊢
            clear hev hG hk
            obtain ⟨c1, c2, c3, c4⟩ := cW X hB
            exact .inr ⟨rfl, .inl ⟨pv yB, X, by clear hs; go_simp, Below.refl _ _, rfl⟩⟩
          | 2, ho =>
            obtain rfl : _ = o := Option.some.inj ho
            obtain rfl : 27 = d := Option.some.inj hd
            have g26 : a'.eval (.tmp 26) = pv yB := hG ⟨1, .data⟩ (by simp) rfl 26 rfl
            obtain ⟨ev, hev⟩ : ∃ ev, a'.eval = ev := ⟨_, rfl⟩
            rw [hev] at g26 ⊢
            clear hev hG hk
            obtain ⟨c1, c2, c3, c4⟩ := cW X hB
            exact .inr ⟨rfl, .inl ⟨.pointer (some ⟨yB, 0, none⟩), X, by clear hs; go_simp, Below.refl _ _, rfl⟩⟩
          | 3, ho =>
            obtain rfl : _ = o := Option.some.inj ho
            obtain rfl : 28 = d := Option.some.inj hd
            have g27 : a'.eval (.tmp 27) = .pointer (some ⟨yB, 0, none⟩) := hG ⟨2, .data⟩ (by simp) rfl 27 rfl
            obtain ⟨ev, hev⟩ : ∃ ev, a'.eval = ev := ⟨_, rfl⟩
            rw [hev] at g27 ⊢
            clear hev hG hk
            obtain ⟨c1, c2, c3, c4⟩ := cW X hB
            exact .inr ⟨rfl, .inl ⟨.pointer (some ⟨yB, 2, none⟩), X, by clear hs; go_simp, Below.refl _ _, rfl⟩⟩
          | 4, ho =>
            obtain rfl : _ = o := Option.some.inj ho
            obtain rfl : 29 = d := Option.some.inj hd
            have g28 : a'.eval (.tmp 28) = .pointer (some ⟨yB, 2, none⟩) := hG ⟨3, .data⟩ (by simp) rfl 28 rfl
            obtain ⟨ev, hev⟩ : ∃ ev, a'.eval = ev := ⟨_, rfl⟩
            rw [hev] at g28 ⊢
            clear hev hG hk
            obtain ⟨c1, c2, c3, c4⟩ := cW X hB
            exact .inr ⟨rfl, .inl ⟨.int .i64 yt, X, by clear hs; go_simp, Below.refl _ _, rfl⟩⟩
          | 5, ho =>
            obtain rfl : _ = o := Option.some.inj ho
            obtain rfl : 30 = d := Option.some.inj hd
            have g6 : a'.eval (.tmp 6) = pv yB := hk 6 (by kernel_rfl)
            obtain ⟨ev, hev⟩ : ∃ ev, a'.eval = ev := ⟨_, rfl⟩
            rw [hev] at g6 ⊢
            clear hev hG hk
            obtain ⟨c1, c2, c3, c4⟩ := cW X hB
            exact .inr ⟨rfl, .inl ⟨pv yB, X, by clear hs; go_simp, Below.refl _ _, rfl⟩⟩
          | 6, ho =>
            obtain rfl : _ = o := Option.some.inj ho
            obtain rfl : 31 = d := Option.some.inj hd
            have g30 : a'.eval (.tmp 30) = pv yB := hG ⟨5, .data⟩ (by simp) rfl 30 rfl
            obtain ⟨ev, hev⟩ : ∃ ev, a'.eval = ev := ⟨_, rfl⟩
            rw [hev] at g30 ⊢
            clear hev hG hk
            obtain ⟨c1, c2, c3, c4⟩ := cW X hB
            exact .inr ⟨rfl, .inl ⟨.pointer (some ⟨yB, 0, none⟩), X, by clear hs; go_simp, Below.refl _ _, rfl⟩⟩
          | 7, ho =>
            obtain rfl : _ = o := Option.some.inj ho
            obtain rfl : 32 = d := Option.some.inj hd
            have g31 : a'.eval (.tmp 31) = .pointer (some ⟨yB, 0, none⟩) := hG ⟨6, .data⟩ (by simp) rfl 31 rfl
            obtain ⟨ev, hev⟩ : ∃ ev, a'.eval = ev := ⟨_, rfl⟩
            rw [hev] at g31 ⊢
            clear hev hG hk
            obtain ⟨c1, c2, c3, c4⟩ := cW X hB
            exact .inr ⟨rfl, .inl ⟨.pointer (some ⟨yB, 0, none⟩), X, by clear hs; go_simp, Below.refl _ _, rfl⟩⟩
          | 8, ho =>
            obtain rfl : _ = o := Option.some.inj ho
            obtain rfl : 33 = d := Option.some.inj hd
            have g32 : a'.eval (.tmp 32) = .pointer (some ⟨yB, 0, none⟩) := hG ⟨7, .data⟩ (by simp) rfl 32 rfl
            obtain ⟨ev, hev⟩ : ∃ ev, a'.eval = ev := ⟨_, rfl⟩
            rw [hev] at g32 ⊢
            clear hev hG hk
            obtain ⟨c1, c2, c3, c4⟩ := cW X hB
            exact .inr ⟨rfl, .inl ⟨.agg #[.int .i64 ys, .int .i64 yo], X, by clear hs; go_simp, Below.refl _ _, rfl⟩⟩
          | j + 9, ho => simp at ho
        · intro a' X hB hs hdf hk hG
          obtain ⟨tm, df⟩ := a'
          obtain rfl : df = [] := hdf
          have e0 : tm.getD 0 undef = pv R.rb := hk 0 (by kernel_rfl)
          have e1 : tm.getD 1 undef = undef := hk 1 (by kernel_rfl)
          have e2 : tm.getD 2 undef = .pointer none := hk 2 (by kernel_rfl)
          have e3 : tm.getD 3 undef = .pointer (some ⟨b3, 0, none⟩) := hk 3 (by kernel_rfl)
          have e4 : tm.getD 4 undef = undef := hk 4 (by kernel_rfl)
          have e5 : tm.getD 5 undef = pv B := hk 5 (by kernel_rfl)
          have e6 : tm.getD 6 undef = pv yB := hk 6 (by kernel_rfl)
          have e7 : tm.getD 7 undef = undef := hk 7 (by kernel_rfl)
          have e8 : tm.getD 8 undef = undef := hk 8 (by kernel_rfl)
          have e9 : tm.getD 9 undef = undef := hk 9 (by kernel_rfl)
          have e10 : tm.getD 10 undef = pv R.rb := hk 10 (by kernel_rfl)
          have e11 : tm.getD 11 undef = .bool false := hk 11 (by kernel_rfl)
          have e12 : tm.getD 12 undef = pv R0.rb := hk 12 (by kernel_rfl)
          have e13 : tm.getD 13 undef = pv R.rb := hk 13 (by kernel_rfl)
          have e14 : tm.getD 14 undef = .pointer (some ⟨R.rb, 0, none⟩) := hk 14 (by kernel_rfl)
          have e15 : tm.getD 15 undef = .pointer (some ⟨R.rb, 2, none⟩) := hk 15 (by kernel_rfl)
          have e16 : tm.getD 16 undef = .map (some R.m2) := hk 16 (by kernel_rfl)
          have e17 : tm.getD 17 undef = pv rit := hk 17 (by kernel_rfl)
          have e18 : tm.getD 18 undef = .tuple #[.bool true, .int .i64 s0, pv B] := hk 18 (by kernel_rfl)
          have e19 : tm.getD 19 undef = .bool true := hk 19 (by kernel_rfl)
          have e20 : tm.getD 20 undef = .tuple #[.int .i64 s0, pv B] := hk 20 (by kernel_rfl)
          have e21 : tm.getD 21 undef = pv B := hk 21 (by kernel_rfl)
          have e22 : tm.getD 22 undef = pv B := hk 22 (by kernel_rfl)
          have e23 : tm.getD 23 undef = .func (.func 47) #[] #[.pointer (some ⟨W'.heap.size, 0, none⟩)] := hk 23 (by kernel_rfl)
          have e24 : tm.getD 24 undef = pv yB := hk 24 (by kernel_rfl)
          have e34 : tm.getD 34 undef = undef := hk 34 (by kernel_rfl)
          have e35 : tm.getD 35 undef = undef := hk 35 (by kernel_rfl)
          have e36 : tm.getD 36 undef = undef := hk 36 (by kernel_rfl)
          have e37 : tm.getD 37 undef = undef := hk 37 (by kernel_rfl)
          have e38 : tm.getD 38 undef = undef := hk 38 (by kernel_rfl)
          have e39 : tm.getD 39 undef = undef := hk 39 (by kernel_rfl)
          have e40 : tm.getD 40 undef = undef := hk 40 (by kernel_rfl)
          have e41 : tm.getD 41 undef = undef := hk 41 (by kernel_rfl)
          have e42 : tm.getD 42 undef = undef := hk 42 (by kernel_rfl)
          have e43 : tm.getD 43 undef = undef := hk 43 (by kernel_rfl)
          have e44 : tm.getD 44 undef = undef := hk 44 (by kernel_rfl)
          have e45 : tm.getD 45 undef = undef := hk 45 (by kernel_rfl)
          have e46 : tm.getD 46 undef = undef := hk 46 (by kernel_rfl)
          have e47 : tm.getD 47 undef = undef := hk 47 (by kernel_rfl)
          have e48 : tm.getD 48 undef = undef := hk 48 (by kernel_rfl)
          have e49 : tm.getD 49 undef = undef := hk 49 (by kernel_rfl)
          have e50 : tm.getD 50 undef = undef := hk 50 (by kernel_rfl)
          have e51 : tm.getD 51 undef = undef := hk 51 (by kernel_rfl)
          have e52 : tm.getD 52 undef = undef := hk 52 (by kernel_rfl)
          have e53 : tm.getD 53 undef = undef := hk 53 (by kernel_rfl)
          have e54 : tm.getD 54 undef = undef := hk 54 (by kernel_rfl)
          have e55 : tm.getD 55 undef = undef := hk 55 (by kernel_rfl)
          have g25 : (tm.getD 25 undef) = pv R0.rb := hG 0 25 (by decide) rfl
          have g26 : (tm.getD 26 undef) = pv yB := hG 1 26 (by decide) rfl
          have g27 : (tm.getD 27 undef) = .pointer (some ⟨yB, 0, none⟩) := hG 2 27 (by decide) rfl
          have g28 : (tm.getD 28 undef) = .pointer (some ⟨yB, 2, none⟩) := hG 3 28 (by decide) rfl
          have g29 : (tm.getD 29 undef) = .int .i64 yt := hG 4 29 (by decide) rfl
          have g30 : (tm.getD 30 undef) = pv yB := hG 5 30 (by decide) rfl
          have g31 : (tm.getD 31 undef) = .pointer (some ⟨yB, 0, none⟩) := hG 6 31 (by decide) rfl
          have g32 : (tm.getD 32 undef) = .pointer (some ⟨yB, 0, none⟩) := hG 7 32 (by decide) rfl
          have g33 : (tm.getD 33 undef) = .agg #[.int .i64 ys, .int .i64 yo] := hG 8 33 (by decide) rfl
          have htm := arr_of tm ((pv R.rb : Value) :: (undef : Value) :: (.pointer none : Value) :: (.pointer (some ⟨b3, 0, none⟩) : Value) :: (undef : Value) :: (pv B : Value) :: (pv yB : Value) :: (undef : Value) :: (undef : Value) :: (undef : Value) :: (pv R.rb : Value) :: (.bool false : Value) :: (pv R0.rb : Value) :: (pv R.rb : Value) :: (.pointer (some ⟨R.rb, 0, none⟩) : Value) :: (.pointer (some ⟨R.rb, 2, none⟩) : Value) :: (.map (some R.m2) : Value) :: (pv rit : Value) :: (.tuple #[.bool true, .int .i64 s0, pv B] : Value) :: (.bool true : Value) :: (.tuple #[.int .i64 s0, pv B] : Value) :: (pv B : Value) :: (pv B : Value) :: (.func (.func 47) #[] #[.pointer (some ⟨W'.heap.size, 0, none⟩)] : Value) :: (pv yB : Value) :: (tm.getD 25 undef : Value) :: (tm.getD 26 undef : Value) :: (tm.getD 27 undef : Value) :: (tm.getD 28 undef : Value) :: (tm.getD 29 undef : Value) :: (tm.getD 30 undef : Value) :: (tm.getD 31 undef : Value) :: (tm.getD 32 undef : Value) :: (tm.getD 33 undef : Value) :: (undef : Value) :: (undef : Value) :: (undef : Value) :: (undef : Value) :: (undef : Value) :: (undef : Value) :: (undef : Value) :: (undef : Value) :: (undef : Value) :: (undef : Value) :: (undef : Value) :: (undef : Value) :: (undef : Value) :: (undef : Value) :: (undef : Value) :: (undef : Value) :: (undef : Value) :: (undef : Value) :: (undef : Value) :: (undef : Value) :: (undef : Value) :: (undef : Value) :: []) hs (by show (tm.getD 0 undef :: tm.getD 1 undef :: tm.getD 2 undef :: tm.getD 3 undef :: tm.getD 4 undef :: tm.getD 5 undef :: tm.getD 6 undef :: tm.getD 7 undef :: tm.getD 8 undef :: tm.getD 9 undef :: tm.getD 10 undef :: tm.getD 11 undef :: tm.getD 12 undef :: tm.getD 13 undef :: tm.getD 14 undef :: tm.getD 15 undef :: tm.getD 16 undef :: tm.getD 17 undef :: tm.getD 18 undef :: tm.getD 19 undef :: tm.getD 20 undef :: tm.getD 21 undef :: tm.getD 22 undef :: tm.getD 23 undef :: tm.getD 24 undef :: tm.getD 25 undef :: tm.getD 26 undef :: tm.getD 27 undef :: tm.getD 28 undef :: tm.getD 29 undef :: tm.getD 30 undef :: tm.getD 31 undef :: tm.getD 32 undef :: tm.getD 33 undef :: tm.getD 34 undef :: tm.getD 35 undef :: tm.getD 36 undef :: tm.getD 37 undef :: tm.getD 38 undef :: tm.getD 39 undef :: tm.getD 40 undef :: tm.getD 41 undef :: tm.getD 42 undef :: tm.getD 43 undef :: tm.getD 44 undef :: tm.getD 45 undef :: tm.getD 46 undef :: tm.getD 47 undef :: tm.getD 48 undef :: tm.getD 49 undef :: tm.getD 50 undef :: tm.getD 51 undef :: tm.getD 52 undef :: tm.getD 53 undef :: tm.getD 54 undef :: tm.getD 55 undef :: []) = _; rw [e0, e1, e2, e3, e4, e5, e6, e7, e8, e9, e10, e11, e12, e13, e14, e15, e16, e17, e18, e19, e20, e21, e22, e23, e24, e34, e35, e36, e37, e38, e39, e40, e41, e42, e43, e44, e45, e46, e47, e48, e49, e50, e51, e52, e53, e54, e55]; try rfl)
          clear hs hk hG e0 e1 e2 e3 e4 e5 e6 e7 e8 e9 e10 e11 e12 e13 e14 e15 e16 e17 e18 e19 e20 e21 e22 e23 e24 e34 e35 e36 e37 e38 e39 e40 e41 e42 e43 e44 e45 e46 e47 e48 e49 e50 e51 e52 e53 e54 e55
          generalize tm.getD 25 undef = t25 at htm g25
          generalize tm.getD 26 undef = t26 at htm g26
          generalize tm.getD 27 undef = t27 at htm g27
          generalize tm.getD 28 undef = t28 at htm g28
          generalize tm.getD 29 undef = t29 at htm g29
          generalize tm.getD 30 undef = t30 at htm g30
          generalize tm.getD 31 undef = t31 at htm g31
          generalize tm.getD 32 undef = t32 at htm g32
          generalize tm.getD 33 undef = t33 at htm g33
          subst htm
          subst g25
          subst g26
          subst g27
          subst g28
          subst g29
          subst g30
          subst g31
          subst g32
          subst g33
          simp only [List.drop_succ_cons, List.drop_zero]
          have hciX := HCI.out.turn HCB4.out.rm (grown_below hB none) (fun r e => by cases e)
          have HE := Lib.hid (enter_anyM X R1 yt ys yo hciX.rm hgd.1 hgd.2.1 hgd.2.2 hN1 hno1)
          rw [hciX.rb] at HE
          clear hciX
          gi_wp2_with (gi_at_call 27; refine (callsIn_wide.2 HE.out).mono ?_; rintro e W7 ⟨⟨v, rfl⟩, R', B', I', J', ms, g1, g2, g3, g4, g5, g6, g7⟩)
          have hciX := HCI.out.turn HCB4.out.rm (grown_below hB none) (fun r e => by cases e)
          obtain ⟨hk1, hk2⟩ := hciX.keeps HCB4.out.rm g6
          rw [← z4]
          refine ⟨((keeps_below hB).from _).trans hk1, fun k hk => ?_, ?_⟩
          · obtain ⟨l1, l2⟩ := HLW.out k hk
            rw [hk2 k l1 l2]; exact hB.block k (by have := HCI.out.fm.size; omega)
          · refine hciX.next g1 ms (g2.trans hciX.rb.symm) ?_ (fun t => by rw [g4]; exact hciX.als t) (by have := hciX.N; omega) g6 g7
            rw [g3, List.map_append, hciX.alls, List.append_assoc, List.take_add_one, HAB.out]; rfl
      case done =>
        rintro W5 ⟨R1, hci⟩ hD
        rw [HLL.out, List.take_length] at hci
        have hcb5 := HCB4.out.loop hci hD
        have hl5 := congrArg List.length hci.alls
        rw [List.length_append, List.length_map, List.length_map] at hl5
        refine ⟨cnt', hlt, _, _, _, _, _, _, _, _, R1, _, rfl, HCB4.out.mr hci (HMR'.out.same (b4.block _ HMR'.out.map) (b4.block _ (by obtain ⟨a, b, c, d, h⟩ := HMR'.out.iter; exact heap_lt h))) HM2.out.lt, ?_, fun s => ?_, fun t => by have := hci.als t; simpa using this, hci.rb⟩
        · rw [hl5]; exact hcb5
        · rw [hci.alls]; exact seg_next HSG.out HLS.out s
theorem Copy_ra (w : World) (rb : Nat) (F : Nat → Prop) (all : List Who) (al : Int → List Int) (N : Nat) (h : RA w rb F all al N) (hN : N < 900000) :
    Calls Try.prog 10 #[pv rb] w fun e w' => ∃ rb' F' all', e = .returned (pv rb') ∧ RA w' rb' F' all' al N ∧ (∀ s, fsg s all' = fsg s all) ∧ Below w.heap.size w w' ∧ (∀ k, F' k → w.heap.size ≤ k) ∧ ∀ k, F' k → k < w'.heap.size := by
  obtain ⟨R, h1, rfl, rfl, h4, h5, h6⟩ := h
  refine (Copy_any w R h1 (by omega)).mono ?_
  rintro e w' ⟨R', rfl, g1, g2, g3, g4, g5, g6⟩
  exact ⟨R'.rb, fun k => R'.own k ≠ none, R'.all.map ab, rfl, ⟨R', g1, rfl, rfl, fun t => (g3 t).trans (h4 t), by omega, fun _ h => h⟩, g2, g5, g6, fun k hk => g1.lt k hk⟩
end Go.Proofs.Ythknnmllibdggaa
