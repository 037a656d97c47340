/- What enter of package wait does. -/
import Derived.Test.YthknnmllibdggaaEnterF
import Derived.Deep.Cut
namespace Go.Proofs.Ythknnmllibdggaa
open Go.RowKit Go.Sort
/-- R's tags, and one for all other blocks. -/
def own2 (R : Rm) (k : Nat) : Option Tag := (R.own k).or (some (.m 9))
theorem own2_x {R : Rm} : ∀ k g, R.own k = some g → own2 R k = some g := fun k g e => by unfold own2; rw [e]; rfl
theorem own2_n {R : Rm} {k : Nat} (h : R.own k = none) : own2 R k = some (.m 9) := by unfold own2; rw [h]; rfl
/-- What a push into the queue of a place turns. -/
theorem push_tagsP {W W' : World} {R : Rm} {s o : Int} {Q : Nat} (h : RmAt W R) (hs : i64 s) (ho : i64 o) (hF : Fm W W' (fun k => k = R.m1 ∨ (itP (atP s o R.all) ≠ [] ∧ qf Q (itP (atP s o R.all)) k)))
    (hQ : (itP (atP s o R.all) = [] ∧ W.heap.size ≤ Q) ∨ (itP (atP s o R.all) ≠ [] ∧ R.fp (kp s o) = some Q ∧ QAW W Q (itP (atP s o R.all)))) : Fm W W' (TF (own2 R) (fun g => g = .m 1 ∨ g = .pq s o ∨ (∃ t, g = .ip t) ∨ g = .m 9)) := hF.mono (fun k _ hk => by
  rcases hk with rfl | ⟨h1, hk⟩
  · exact ⟨_, own2_x _ _ h.om1, .inl rfl⟩
  · have hne : atP s o R.all ≠ [] := fun e => h1 (by rw [e]; rfl)
    have hQ' := (hQ.resolve_left (fun e => h1 e.1)).2.1
    rw [h.fp s o hs ho, if_neg hne] at hQ'
    have e := Option.some.inj hQ'
    rcases qfP.1 hk with rfl | ⟨x, hx, rfl⟩
    · exact ⟨_, own2_x _ _ (by rw [← e]; exact h.op s o hne), .inr (.inl rfl)⟩
    · exact ⟨_, own2_x _ _ (h.ow x (mem_atP.1 hx).1).2.1, .inr (.inr (.inl ⟨_, rfl⟩))⟩)
theorem push_tagsS {W W' : World} {R : Rm} {s : Int} {Q : Nat} (hm : R.own R.m2 = some (.m 2)) (hos : ∀ s, inS s R.all ≠ [] → R.own (R.sq s) = some (.sq s)) (how : ∀ x ∈ R.all, R.own x.is = some (.is x.th)) (hfs : ∀ s, R.fs (ky s) = if inS s R.all = [] then none else some (R.sq s)) (hF : Fm W W' (fun k => k = R.m2 ∨ (itS (inS s R.all) ≠ [] ∧ qf Q (itS (inS s R.all)) k)))
    (hQ : (itS (inS s R.all) = [] ∧ W.heap.size ≤ Q) ∨ (itS (inS s R.all) ≠ [] ∧ R.fs (ky s) = some Q ∧ QAW W Q (itS (inS s R.all)))) : Fm W W' (TF (own2 R) (fun g => g = .m 2 ∨ g = .sq s ∨ (∃ t, g = .is t) ∨ g = .m 9)) := hF.mono (fun k _ hk => by
  rcases hk with rfl | ⟨h1, hk⟩
  · exact ⟨_, own2_x _ _ hm, .inl rfl⟩
  · have hne : inS s R.all ≠ [] := fun e => h1 (by rw [e]; rfl)
    have hQ' := (hQ.resolve_left (fun e => h1 e.1)).2.1
    rw [hfs s, if_neg hne] at hQ'
    have e := Option.some.inj hQ'
    rcases qfS.1 hk with rfl | ⟨x, hx, rfl⟩
    · exact ⟨_, own2_x _ _ (by rw [← e]; exact hos s hne), .inr (.inl rfl)⟩
    · exact ⟨_, own2_x _ _ (how x (mem_inS.1 hx).1), .inr (.inr (.inl ⟨_, rfl⟩))⟩)
set_option maxRecDepth 100000 in
set_option maxHeartbeats 4000000 in
theorem enter_anyM (w : World) (R : Rm) (t s o : Int) (h : RmAt w R) (ht : i64 t) (hs : i64 s) (ho : i64 o) (hN : R.N < 900000) (hno : ∀ x ∈ R.all, x.th ≠ t) :
    Calls Try.prog 27 #[pv R.rb, .int .i64 t, .agg #[.int .i64 s, .int .i64 o]] w fun e w' => (∃ v, e = .returned v) ∧ ∃ R' B I J, (R'.m0 = R.m0 ∧ R'.m1 = R.m1 ∧ R'.m2 = R.m2 ∧ R'.m3 = R.m3) ∧ RmAt w' R' ∧ R'.rb = R.rb ∧ R'.all = R.all ++ [⟨B, t, s, o, I, J⟩] ∧ R'.al = R.al ∧ R'.N = R.N + 1 ∧ Fm w w' (fun k => R.own k ≠ none) ∧ ∀ k, R'.own k ≠ none → R.own k ≠ none ∨ w.heap.size ≤ k := by
  have hlen := h.len
  have hrb := heap_lt h.blk
  obtain ⟨W1, hW1⟩ : ∃ W1, w.alloc (.cells #[.int .i64 s, .int .i64 o] 72) = W1 := ⟨_, rfl⟩
  obtain ⟨W2, hW2⟩ : ∃ W2, W1.alloc (.cells #[.int .i64 s, .int .i64 o, .int .i64 t, np, np] 75) = W2 := ⟨_, rfl⟩
  have s1 : W1.heap.size = w.heap.size + 1 := by rw [← hW1]; simp
  have s2 : W2.heap.size = w.heap.size + 2 := by rw [← hW2]; simp; omega
  have b01 : Below w.heap.size w W1 := by rw [← hW1]; exact (Below.refl _ _).alloc (Nat.le_refl _) _
  have b12 : Below W1.heap.size W1 W2 := by rw [← hW2]; exact (Below.refl _ _).alloc (Nat.le_refl _) _
  have hp1 : W1.heap[w.heap.size]? = some (.cells #[.int .i64 s, .int .i64 o] 72 (0, 0)) := by rw [← hW1]; exact heap_new _ _
  have hp2 : W2.heap[w.heap.size]? = some (.cells #[.int .i64 s, .int .i64 o] 72 (0, 0)) := (b12.block _ (by omega)).trans hp1
  have hB2 : W2.heap[w.heap.size + 1]? = some (.cells #[.int .i64 s, .int .i64 o, .int .i64 t, np, np] 75 (0, 0)) := by rw [← hW2, ← s1]; exact heap_new _ _
  have h2 : RmAt W2 R := (h.below b01).below b12
  obtain ⟨n1, hn1, hm1⟩ := h2.mp
  have HP : Hid (Calls Try.prog 48 #[.map (some R.m1), .agg #[.int .i64 s, .int .i64 o], pv (w.heap.size + 1)] W2.drew _) := pushP_any W2.drew R.m1 n1 R.fp (itP (atP s o R.all)) s o (w.heap.size + 1) hm1 hs ho (by omega) (by
      have := List.length_filter_le (fun x : Wt => x.seg == s && x.off == o) R.all
      unfold itP atP; rw [List.length_map]; omega) (by
      rw [h2.fp s o hs ho]
      by_cases he : atP s o R.all = []
      · exact .inl ⟨if_pos he, by rw [he]; rfl⟩
      · exact .inr ⟨_, if_neg he, by unfold itP; simpa using he, (h2.qp s o he).same (fun _ _ => rfl)⟩)
  have p0 : W1.cell? ⟨w.heap.size, 0, none⟩ = some (.int .i64 s) := by simp [World.cell?, hp1]
  have p1 : W1.cell? ⟨w.heap.size, 1, none⟩ = some (.int .i64 o) := by simp [World.cell?, hp1]
  have q0 : W2.drew.cell? ⟨w.heap.size, 0, none⟩ = some (.int .i64 s) := show W2.cell? _ = _ by simp [World.cell?, hp2]
  have q1 : W2.drew.cell? ⟨w.heap.size, 1, none⟩ = some (.int .i64 o) := show W2.cell? _ = _ by simp [World.cell?, hp2]
  have q2 : W2.drew.cell? ⟨R.rb, 1, none⟩ = some (.map (some R.m1)) := show W2.cell? _ = _ by simp [World.cell?, h2.blk]
  have HS1 := Lib.hid s1
  have HB2 : Hid (W2.drew.heap[w.heap.size + 1]? = some (.cells #[.int .i64 s, .int .i64 o, .int .i64 t, np, np] 75 (0, 0))) := hB2
  have HM1 : Hid (MAt W2.drew 72 R.m1 n1 R.fp) := hm1
  have HH2 : Hid (RmAt W2.drew R) := h2.same (Nat.le_refl _) (fun _ _ => rfl)
  have HP2 : Hid (W2.drew.heap[w.heap.size]? = some (.cells #[.int .i64 s, .int .i64 o] 72 (0, 0))) := hp2
  have hsz2 : W2.heap.size = w.heap.size + 2 := s2
  have HSZ2 := Lib.hid hsz2
  have hBo : R.own (w.heap.size + 1) = none := by
    cases e : R.own (w.heap.size + 1) with
    | none => rfl
    | some g => exact absurd (h.lt _ (by rw [e]; simp)) (by omega)
  have HBO := Lib.hid hBo
  have HH := Lib.hid h
  clear h h2 hm1 s1 s2 hp1 hp2 hB2 hsz2 hBo
  have hWB : W1.heap.size = w.heap.size + 1 := HS1.out
  go_enter Try.func27, Try.ntmps27
  go_upto_region 2 with fail
  go_region_law (go_simp; go_at_call 48; refine Calls.mono HP.out ?_; rintro e W3 ⟨Q, I, n3, rfl, hm3, hn3, hq3, hF3, hQ3, hI3⟩; have hp3 := push_keep HM1.out (fun hh => (hQ3.resolve_left (fun e => hh e.1)).2.2) hF3 HP2.out (by decide) (by decide); have HP3 := Lib.hid hp3; clear hp3; have hB3 := push_keep HM1.out (fun hh => (hQ3.resolve_left (fun e => hh e.1)).2.2) hF3 HB2.out (by decide) (by decide); have y3 : W3.cell? ⟨w.heap.size + 1, 3, none⟩ = some np := (by simp [World.cell?, hB3]); have y4 : ∀ oo, W3.frozen? ⟨w.heap.size + 1, oo, none⟩ = false := (fun oo => by simp [World.frozen?, hB3]); have HB3 := Lib.hid hB3; have HM3 := Lib.hid hm3; have HF3 := Lib.hid hF3; have HQ3 := Lib.hid hQ3; have HQQ := Lib.hid hq3; clear hB3 hm3 hF3 hQ3 hq3)
  all_goals
    obtain ⟨W4, hW4⟩ : ∃ W4, W3.setCell ⟨w.heap.size + 1, 3, none⟩ (pv I) = W4 := ⟨_, rfl⟩
    rw [hW4]
    have G3 := push_tagsP HH2.out hs ho HF3.out HQ3.out
    have G4 : Fm W3 W4 (TF (own2 R) (fun g => g = .m 9)) := by rw [← hW4]; exact (Fm.setCell _ _ _).mono (fun k _ hk => ⟨_, by rw [hk]; exact own2_n HBO.out, rfl⟩)
    have G24 := G3.transT G4
    have hB4 : W4.heap[w.heap.size + 1]? = some (.cells #[.int .i64 s, .int .i64 o, .int .i64 t, pv I, np] 75 (0, 0)) := by rw [← hW4, heap_setCell_same _ _ _ _ _ _ HB3.out]; rfl
    have hp4 : W4.heap[w.heap.size]? = some (.cells #[.int .i64 s, .int .i64 o] 72 (0, 0)) := by rw [← hW4, heap_ne _ _ _ (by simp)]; exact HP3.out
    have hrb4 := (HH2.out.kBlk G24 own2_x (by simp)).trans HH2.out.blk
    obtain ⟨n2, hn2, hm2'⟩ := HH2.out.ms
    have hm2 := hm2'.kT G24 (own2_x _ _ HH2.out.om2) (by simp)
    have HM2 : Hid (MAt W4.drew 3 R.m2 n2 R.fs) := hm2
    have HS : Hid (Calls Try.prog 49 #[.map (some R.m2), .int .i64 s, pv (w.heap.size + 1)] W4.drew _) := pushS_any W4.drew R.m2 n2 R.fs (itS (inS s R.all)) s (w.heap.size + 1) hm2 hs (by omega) (by
        have := List.length_filter_le (fun x : Wt => x.seg == s) R.all
        unfold itS inS; rw [List.length_map]; omega) (by
        rw [HH2.out.fs s]
        by_cases he : inS s R.all = []
        · exact .inl ⟨if_pos he, by rw [he]; rfl⟩
        · exact .inr ⟨_, if_neg he, by unfold itS; simpa using he, (HH2.out.kS G24 own2_x he (by simp) (fun x _ => by simp)).same (fun _ _ => rfl)⟩)
    have r0 : W4.drew.cell? ⟨w.heap.size, 0, none⟩ = some (.int .i64 s) := show W4.cell? _ = _ by simp [World.cell?, hp4]
    have r2 : W4.drew.cell? ⟨R.rb, 2, none⟩ = some (.map (some R.m2)) := show W4.cell? _ = _ by simp [World.cell?, hrb4]
    have HB4 : Hid (W4.drew.heap[w.heap.size + 1]? = some (.cells #[.int .i64 s, .int .i64 o, .int .i64 t, pv I, np] 75 (0, 0))) := hB4
    have HG24 := Lib.hid G24
    have HW4 := Lib.hid hW4
    have hN2 : n2 ≤ R.N := hn2
    clear G3 G4 G24 hB4 hp4 hrb4 hm2 hm2' hW4 hn2 y3 y4
    go_upto_region 3 with fail
    go_region_law (go_simp; go_at_call 49; refine Calls.mono HS.out ?_; rintro e W5 ⟨Q2, J, n5, rfl, hm5, hn5, hq5, hF5, hQ5, hJ5⟩; have hB5 := push_keep HM2.out (fun hh => (hQ5.resolve_left (fun e => hh e.1)).2.2) hF5 HB4.out (by decide) (by decide); have y3 : W5.cell? ⟨w.heap.size + 1, 4, none⟩ = some np := (by simp [World.cell?, hB5]); have y4 : ∀ oo, W5.frozen? ⟨w.heap.size + 1, oo, none⟩ = false := (fun oo => by simp [World.frozen?, hB5]); have HB5 := Lib.hid hB5; have HM5 := Lib.hid hm5; have HF5 := Lib.hid hF5; have HQ5 := Lib.hid hQ5; have HQQ5 := Lib.hid hq5; clear hB5 hm5 hF5 hQ5 hq5)
  all_goals
    obtain ⟨W6, hW6⟩ : ∃ W6, W5.setCell ⟨w.heap.size + 1, 4, none⟩ (pv J) = W6 := ⟨_, rfl⟩
    rw [hW6]
    have G5 := push_tagsS HH.out.om2 HH.out.os (fun x hx => (HH.out.ow x hx).2.2) HH.out.fs HF5.out HQ5.out
    have G6 : Fm W5 W6 (TF (own2 R) (fun g => g = .m 9)) := by rw [← hW6]; exact (Fm.setCell _ _ _).mono (fun k _ hk => ⟨_, by rw [hk]; exact own2_n HBO.out, rfl⟩)
    have G24d : Fm W2.drew W4.drew _ := ⟨HG24.out.os, HG24.out.tape, HG24.out.output, HG24.out.size, HG24.out.same⟩
    have G26 := G24d.transT (G5.transT G6)
    have hrb6 := (HH2.out.kBlk G26 own2_x (by simp)).trans HH2.out.blk
    have hm0 := HH2.out.mw.kT G26 (own2_x _ _ HH2.out.om0) (by simp)
    obtain ⟨W7, hrun, hm7, hg7, s7⟩ := hm0.put (T := 56) (e := 69) keyedI (by kernel_rfl) (by omega) (keyI ht) (w.heap.size + 1)
    rw [HH.out.fw t, find_none hno] at hm7
    have r0' : W6.cell? ⟨R.rb, 0, none⟩ = some (.map (some R.m0)) := by simp [World.cell?, hrb6]
    have HM7 := Lib.hid hm7
    have HG7 := Lib.hid hg7
    have HW6 := Lib.hid hW6
    clear G5 G6 G26 hrb6 hm0 hm7 hg7 s7 hW6 y3 y4 r0 r2 G24d
    go_wp2_with fail
    go_end0
    have hbw : Below w.heap.size w W2.drew := (b01.trans (b12.mono b01.size)).drew
    obtain ⟨R', g0, g1, g2, g3, g4, g5, g6, g7⟩ := enter_finM (W4' := W4.drew) HH.out hbw ht hs ho hno (by omega) HB2.out HM3.out (by omega) HQQ.out HF3.out HQ3.out hI3 HB3.out HW4.out.symm ⟨rfl, rfl, rfl, rfl⟩ HM5.out (by omega) HQQ5.out HF5.out HQ5.out hJ5 HB5.out HW6.out.symm HM7.out rfl (Fm.of_grown HG7.out)
    exact ⟨⟨_, rfl⟩, R', _, _, _, g0, g1, g2, g3, g4, g5, g6, g7⟩
theorem enter_any (w : World) (R : Rm) (t s o : Int) (h : RmAt w R) (ht : i64 t) (hs : i64 s) (ho : i64 o) (hN : R.N < 900000) (hno : ∀ x ∈ R.all, x.th ≠ t) :
    Calls Try.prog 27 #[pv R.rb, .int .i64 t, .agg #[.int .i64 s, .int .i64 o]] w fun e w' => (∃ v, e = .returned v) ∧ ∃ R' B I J, RmAt w' R' ∧ R'.rb = R.rb ∧ R'.all = R.all ++ [⟨B, t, s, o, I, J⟩] ∧ R'.al = R.al ∧ R'.N = R.N + 1 ∧ Fm w w' (fun k => R.own k ≠ none) ∧ ∀ k, R'.own k ≠ none → R.own k ≠ none ∨ w.heap.size ≤ k :=
  (enter_anyM w R t s o h ht hs ho hN hno).mono fun _ _ ⟨h1, R', B, I, J, _, h2⟩ => ⟨h1, R', B, I, J, h2⟩
end Go.Proofs.Ythknnmllibdggaa
