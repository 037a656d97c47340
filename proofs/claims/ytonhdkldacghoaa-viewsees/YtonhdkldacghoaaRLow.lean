/- What Low and Owner of the reference answer, for every label and every object whose labels are not too long. -/
import Derived.Test.YtonhdkldacghoaaSemV
namespace Go.Proofs.Ytonhdkldacghoaa
open Go.RowKit Go.Sort

theorem any_step {α : Type} (p : α → Bool) (cs : List α) (k : Nat) (h : k < cs.length) : (cs.drop k).any p = (p cs[k] || (cs.drop (k + 1)).any p) := by
  rw [List.drop_eq_getElem_cons h, List.any_cons]

set_option maxRecDepth 100000 in
set_option maxHeartbeats 2000000 in
theorem rLow_any (A : Lab) (o : Ob) (w : World) (ha : CatsAt w A.p A.xs) (ho : ObOk w o) (hm : A.xs.length + o.L.xs.length ≤ 17592186044000) :
    Calls Try.prog 21 #[A.val, .agg o.cs] w fun e w' => e = .returned (.bool (rlowS A o.L)) ∧ Below w.heap.size w w' := by
  obtain ⟨cs, hcs⟩ : ∃ cs, o.cs = cs := ⟨_, rfl⟩
  obtain ⟨B, hBo⟩ : ∃ B, o.L = B := ⟨_, rfl⟩
  obtain ⟨kd, hkd⟩ : ∃ kd, o.kind = kd := ⟨_, rfl⟩
  have hb := ho.L
  rw [hBo] at hm hb ⊢
  have k1 : cs[1]? = some (.int .i64 kd) := by rw [← hcs, ← hkd, Ob.head _ _ (by decide)]; rfl
  have k5 : cs[5]? = some (.int .i64 B.d) := by rw [← hcs, ← hBo, Ob.head _ _ (by decide)]; rfl
  have k6 : cs[6]? = some (.slice B.p B.xs.length B.cap) := by rw [← hcs, ← hBo, Ob.head _ _ (by decide)]; rfl
  simp only [hcs]
  clear hcs hkd hBo ho
  obtain ⟨i0, hi, hz0, hz1, hz2⟩ := info_parts info3
  have ma : A.xs.length ≤ maxLen := by unfold maxLen; omega
  have mb : B.xs.length ≤ maxLen := by unfold maxLen; omega
  obtain ⟨W0, hW0⟩ : ∃ W0, (w.alloc (.cells #[.int .i64 A.d, .slice A.p A.xs.length A.cap] 25)).alloc (.cells cs 42) = W0 := ⟨_, rfl⟩
  have hB0 : Below w.heap.size w W0 := by rw [← hW0]; go_grown
  have hs0 : W0.heap.size = w.heap.size + 1 + 1 := by rw [← hW0]; simp
  have a0 : W0.cell? ⟨w.heap.size, 0, none⟩ = some (.int .i64 A.d) := by rw [← hW0]; simp [go_sem]
  have a1 : W0.cell? ⟨w.heap.size, 1, none⟩ = some (.slice A.p A.xs.length A.cap) := by rw [← hW0]; simp [go_sem]
  have hH : W0.heap[w.heap.size + 1]? = some (.cells cs 42) := by rw [← hW0]; simpa using heap_alloc_new (w.alloc (.cells #[.int .i64 A.d, .slice A.p A.xs.length A.cap] 25)) (.cells cs 42)
  have b1 := heap_cells hH k1
  have b5 := heap_cells hH k5
  have b6 := heap_cells hH k6
  clear hH k1 k5 k6
  have hbA : Below W0.heap.size W0 (W0.alloc (.cells #[.int .i64 A.d, .slice A.p A.xs.length A.cap, .int .i64 B.d, .slice B.p B.xs.length B.cap] 25)) := by go_grown
  have hbA' := hB0.trans (hbA.mono hB0.size)
  have hN := Named_any W0.heap.size [A, B] _ (by simp) (by simp) (by simp [total]; omega) (labs2 (World.alloc_heap_new W0 (.cells #[.int .i64 A.d, .slice A.p A.xs.length A.cap, .int .i64 B.d, .slice B.p B.xs.length B.cap] 25)) ⟨ha.below hbA', ma⟩ ⟨hb.below hbA', mb⟩)
  simp only [List.length_cons, List.length_nil, Nat.zero_add, Nat.reduceAdd] at hN
  have HN := Lib.hid hN
  have hlen : (namedS [A, B]).length ≤ 17592186044000 := by
    have := named_len [A, B] 2
    simp [total] at this; omega
  have hn0 : w.heap.size < W0.heap.size := by omega
  have hn1 : w.heap.size + 1 < W0.heap.size := by omega
  clear hN
  have HS := Lib.hid hs0
  clear hs0
  unfold Lab.val
  go_enter Try.func21, Try.ntmps21
  go_wp2_with (go_at_call 36; refine HN.out.mono ?_; rintro e w1 ⟨g, cap, rfl, hown, hb1⟩; refine Hid.out ?_)
  refine Lib.hid ?_
  obtain ⟨ns, hns⟩ : ∃ ns, ns = namedS [A, B] := ⟨_, rfl⟩
  have HD : Hid (rlowS A B = (ns ++ [0]).all (upLe A B)) := by rw [hns]; rfl
  rw [← hns] at hown hlen ⊢
  clear hns
  have hb01 : Below W0.heap.size W0 w1 := hbA.trans (hb1.mono hbA.size)
  have hg := hown.lt g rfl
  simp at hg
  have hownA := hown.alloc (.cells #[.int .i64 0] 3)
  have HO : Hid (∀ i u, [Value.int .i64 0][i]? = some u → (w1.alloc (.cells #[.int .i64 0] 3)).cell? ((⟨w1.heap.size, 0, none⟩ : Addr).add i) = some u) := cell_one_new' w1 _ 3
  have hbA1 : Below W0.heap.size W0 (w1.alloc (.cells #[.int .i64 0] 3)) := hb01.alloc hb01.size _
  have h63 : ns.length + 1 ≤ maxLen := by unfold maxLen; omega
  have hby : (ns.length + 1) * 8 ≤ 140737488355328 := by omega
  have hbs : (W0.alloc (.cells #[.int .i64 A.d, .slice A.p A.xs.length A.cap, .int .i64 B.d, .slice B.p B.xs.length B.cap] 25)).heap.size ≤ (w1.alloc (.cells #[.int .i64 0] 3)).heap.size := by have := hb1.size; simp at this ⊢; omega
  clear HN hbA hbA' hW0 hown
  go_wp2_with (at_builtin; refine wpList_append_own _ rfl _ _ 28 rfl _ 3 i0 (.int .i64 0) 1 8 Try.underlying28 hi hz0 hz1 hz2 rfl (by decide) _ _ _ rfl hownA ⟨w1.heap.size, 0, none⟩ 1 1 [.int .i64 0] rfl rfl HO.out (fun x hx => by simp at hx; subst hx; rfl) h63 hby hbs ?_; intro v2 w2 hown2 hgrow2 hnil2; refine Hid.out ?_)
  refine Lib.hid ?_
  have hb02 : Below W0.heap.size W0 w2 := Below.grown hbA1 hgrow2 (by have := hb01.size; simp; omega) (fun j hj => by have := (hownA.lt _ hj).1; simp at this; omega)
  obtain ⟨zs, hzs⟩ : ∃ zs, zs = ns ++ [0] := ⟨_, rfl⟩
  have hown2' : ∃ bs g2 cap2, v2 = .slice (some ⟨g2, 0, none⟩) zs.length cap2 ∧ w2.ownsRow bs 3 1 (.slice (some ⟨g2, 0, none⟩) zs.length cap2) zs.length (icells zs) := by
    have e1 : ns.length + 1 = zs.length := by rw [hzs]; simp
    have e2 : icells ns ++ [Value.int .i64 0] = icells zs := by rw [hzs]; simp [icells]
    rw [e1, e2] at hown2
    have h' := hown2
    obtain ⟨_, h2⟩ := hown2
    rcases h2 with ⟨_, hn⟩ | ⟨g, cap, cur, rfl, hr⟩
    · omega
    · exact ⟨_, g, cap, rfl, h'⟩
  have hzl : zs.length ≤ 17592186044001 := by rw [hzs]; simp; omega
  rw [← hzs] at HD
  clear hzs hown2 hgrow2 hnil2 hownA HO hbA1 hb1 hb01 hbs h63 hby hg
  obtain ⟨bs, g2, cap2, rfl, hown2⟩ := hown2'
  have hcell : ∀ k, (h : k < zs.length) → w2.cell? ⟨g2, k, none⟩ = some (.int .i64 zs[k]) := fun k h => by
    rw [hown2.cellAt k (by omega)]; simp [icells, h]
  have hg2 := (hown2.lt g2 rfl).2
  have hncap : zs.length ≤ cap2 := by
    rcases hown2.2 with ⟨h, _⟩ | ⟨_, _, _, h, _, _, h3, _⟩
    · cases h
    · cases h; exact h3
  have HCELL := Lib.hid hcell
  clear hcell hown2 hi hz0 hz1 hz2
  have hB2 : Below w.heap.size w w2 := hB0.trans (hb02.mono hB0.size)
  have hz2 : w.heap.size + 2 ≤ w2.heap.size := by have := hb02.size; have := HS.out; omega
  have a0 := (hb02.cell (p := ⟨w.heap.size, 0, none⟩) hn0).trans a0
  have a1 := (hb02.cell (p := ⟨w.heap.size, 1, none⟩) hn0).trans a1
  have b1 := (hb02.cell (p := ⟨w.heap.size + 1, 1, none⟩) hn1).trans b1
  have b5 := (hb02.cell (p := ⟨w.heap.size + 1, 5, none⟩) hn1).trans b5
  have b6 := (hb02.cell (p := ⟨w.heap.size + 1, 6, none⟩) hn1).trans b6
  clear hB0 hb02
  go_wp2
  go_loopw [18] (fun i wr => ∃ k : Nat, k ≤ zs.length ∧ i = .int .i64 k ∧ zs.all (upLe A B) = (zs.drop k).all (upLe A B) ∧ Below w2.heap.size w2 wr) (fun i _ => zs.length - (intOf i).toNat)
  case atStart => exact ⟨0, Nat.zero_le _, rfl, by simp, Below.refl _ _⟩
  case round =>
    obtain ⟨k, hk, rfl, hr, hbw⟩ := hrel
    have HR := Lib.hid hr
    clear hr
    have hBw : Below w.heap.size w wr := hB2.trans (hbw.mono hB2.size)
    have hzw : w.heap.size + 2 ≤ wr.heap.size := by have := hbw.size; omega
    have p0 := (hbw.cell (p := ⟨w.heap.size, 0, none⟩) (by simp; omega)).trans a0
    have p1 := (hbw.cell (p := ⟨w.heap.size, 1, none⟩) (by simp; omega)).trans a1
    have q5 := (hbw.cell (p := ⟨w.heap.size + 1, 5, none⟩) (by simp; omega)).trans b5
    have q6 := (hbw.cell (p := ⟨w.heap.size + 1, 6, none⟩) (by simp; omega)).trans b6
    by_cases hlt : k < zs.length
    · have hx : wr.cell? ⟨g2, k, none⟩ = some (.int .i64 zs[k]) := (hbw.cell (p := ⟨g2, k, none⟩) hg2).trans (HCELL.out k hlt)
      have hgw : g2 < wr.heap.size := by have := hbw.size; omega
      have HT := Lib.hid (all_step (upLe A B) zs k hlt)
      have s0 : ∀ n os, (gx wr n os).cell? ⟨w.heap.size, 0, none⟩ = some (.int .i64 A.d) := fun n os => cell_gx (a := ⟨w.heap.size, 0, none⟩) (by simp; omega) p0 n os
      have s1 : ∀ n os, (gx wr n os).cell? ⟨w.heap.size, 1, none⟩ = some (.slice A.p A.xs.length A.cap) := fun n os => cell_gx (a := ⟨w.heap.size, 1, none⟩) (by simp; omega) p1 n os
      have t5 : ∀ n os, (gx wr n os).cell? ⟨w.heap.size + 1, 5, none⟩ = some (.int .i64 B.d) := fun n os => cell_gx (a := ⟨w.heap.size + 1, 5, none⟩) (by simp; omega) q5 n os
      have t6 : ∀ n os, (gx wr n os).cell? ⟨w.heap.size + 1, 6, none⟩ = some (.slice B.p B.xs.length B.cap) := fun n os => cell_gx (a := ⟨w.heap.size + 1, 6, none⟩) (by simp; omega) q6 n os
      have HA : Hid (∀ n os, CatsAt (gx wr n os) A.p A.xs) := fun n os => (ha.below hBw).below (gx_below wr n os)
      have HB : Hid (∀ n os, CatsAt (gx wr n os) B.p B.xs) := fun n os => (hb.below hBw).below (gx_below wr n os)
      have hki : (k : Int) < (zs.length : Int) := by omega
      clear ha hb p0 p1 q5 q6 a0 a1 b1 b5 b6
      have HU : Hid (upLe A B zs[k] = decide (upx (atS B.d B.xs zs[k]) ≤ atS A.d A.xs zs[k])) := Lib.hid rfl
      go_wp2
      refine wp_region_tail_gx 8 (by kernel_rfl) (by kernel_rfl) ?_
      simp only [List.take_succ_cons, List.take_zero, List.drop_succ_cons, List.drop_zero]
      repeat (quiet_step (first
        | (go_at_call 37; with_reducible exact calls_gx (refAt_any A.d zs[k] A.p A.cap A.xs _ ma (HA.out _ _)))
        | (go_at_call 37; with_reducible exact calls_gx (refAt_any B.d zs[k] B.p B.cap B.xs _ mb (HB.out _ _)))))
      refine wpQuiet_nil ?_
      intro _ hw'
      obtain ⟨⟨nq, osq⟩, hw''⟩ := hw'
      subst hw''
      obtain ⟨bx, hbx⟩ : ∃ bx, atS B.d B.xs zs[k] = bx := ⟨_, rfl⟩
      obtain ⟨ay, hay⟩ : ∃ ay, atS A.d A.xs zs[k] = ay := ⟨_, rfl⟩
      rw [hbx, hay] at HU ⊢
      clear hbx hay s0 s1 t5 t6 HA HB hx
      by_cases h0 : bx = 0
      · subst h0
        by_cases hle : (4 : Int) ≤ ay
        · have HV : Hid (upLe A B zs[k] = true) := by rw [HU.out]; exact decide_eq_true (by simp [upx, hle])
          go_wp2
          go_roundw
          case rel => exact ⟨k + 1, by omega, by go_num, by rw [HR.out, HT.out, HV.out]; rfl, hbw.trans ((gx_below wr _ _).mono hbw.size)⟩
          case measure => simp [intOf]; omega
        · have HV : Hid (upLe A B zs[k] = false) := by rw [HU.out]; exact decide_eq_false (by simpa [upx] using hle)
          go_wp2
          go_ret
          exact ⟨ret_bool (by rw [HD.out, HR.out, HT.out, HV.out]; rfl), hBw.trans ((gx_below wr _ _).mono hBw.size)⟩
      · by_cases hle : bx ≤ ay
        · have HV : Hid (upLe A B zs[k] = true) := by rw [HU.out]; exact decide_eq_true (by simp [upx, h0, hle])
          go_wp2
          go_roundw
          case rel => exact ⟨k + 1, by omega, by go_num, by rw [HR.out, HT.out, HV.out]; rfl, hbw.trans ((gx_below wr _ _).mono hbw.size)⟩
          case measure => simp [intOf]; omega
        · have HV : Hid (upLe A B zs[k] = false) := by rw [HU.out]; exact decide_eq_false (by simpa [upx, h0] using hle)
          go_wp2
          go_ret
          exact ⟨ret_bool (by rw [HD.out, HR.out, HT.out, HV.out]; rfl), hBw.trans ((gx_below wr _ _).mono hBw.size)⟩
    · go_wp2
      go_ret
      exact ⟨ret_bool (by rw [HD.out, HR.out, List.drop_of_length_le (by omega)]; rfl), hBw⟩
end Go.Proofs.Ytonhdkldacghoaa
