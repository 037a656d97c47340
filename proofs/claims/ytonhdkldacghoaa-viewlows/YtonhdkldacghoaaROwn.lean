/- What Owner of the reference answers. -/
import Derived.Test.YtonhdkldacghoaaRLow
namespace Go.Proofs.Ytonhdkldacghoaa
open Go.RowKit Go.Sort

set_option maxRecDepth 100000 in
set_option maxHeartbeats 2000000 in
theorem rOwn_any (A : Lab) (o : Ob) (w : World) (ha : CatsAt w A.p A.xs) (ho : ObOk w o) (hm : A.xs.length + o.L.xs.length ≤ 17592186044000) :
    Calls Try.prog 23 #[A.val, .agg o.cs] w fun e w' => e = .returned (.bool (rownS o.kind A o.L)) ∧ Below w.heap.size w w' := by
  obtain ⟨cs, hcs⟩ : ∃ cs, o.cs = cs := ⟨_, rfl⟩
  obtain ⟨B, hBo⟩ : ∃ B, o.L = B := ⟨_, rfl⟩
  obtain ⟨kd, hkd⟩ : ∃ kd, o.kind = kd := ⟨_, rfl⟩
  have hb := ho.L
  rw [hBo] at hm hb ⊢
  have k1 : cs[1]? = some (.int .i64 kd) := by rw [← hcs, ← hkd, Ob.head _ _ (by decide)]; rfl
  have k5 : cs[5]? = some (.int .i64 B.d) := by rw [← hcs, ← hBo, Ob.head _ _ (by decide)]; rfl
  have k6 : cs[6]? = some (.slice B.p B.xs.length B.cap) := by rw [← hcs, ← hBo, Ob.head _ _ (by decide)]; rfl
  simp only [hcs, hkd]
  clear hcs hkd hBo ho
  obtain ⟨i0, hi, hz0, hz1, hz2⟩ := info_parts info3
  have ma : A.xs.length ≤ maxLen := by unfold maxLen; omega
  have mb : B.xs.length ≤ maxLen := by unfold maxLen; omega
  obtain ⟨W0, hW0⟩ : ∃ W0, (w.alloc (.cells #[.int .i64 A.d, .slice A.p A.xs.length A.cap] 25)).alloc (.cells cs 42) = W0 := ⟨_, rfl⟩
  have hB0 : Below w.heap.size w W0 := by rw [← hW0]; go_grown
  have hs0 : W0.heap.size = w.heap.size + 1 + 1 := by rw [← hW0]; simp
  have a0 : W0.cell? ⟨w.heap.size, 0, none⟩ = some (.int .i64 A.d) := by rw [← hW0]; simp [go_sem]
  have a1 : W0.cell? ⟨w.heap.size, 1, none⟩ = some (.slice A.p A.xs.length A.cap) := by rw [← hW0]; simp [go_sem]
  have hH : W0.heap[w.heap.size + 1]? = some (.cells cs 42) := by rw [← hW0]; simpa using heap_alloc_new (w.alloc (.cells #[.int .i64 A.d, .slice A.p A.xs.length A.cap] 25)) (.cells cs 42)
  have b1 := heap_cells hH k1
  have b5 := heap_cells hH k5
  have b6 := heap_cells hH k6
  clear hH k1 k5 k6
  have hbA : Below W0.heap.size W0 (W0.alloc (.cells #[.int .i64 A.d, .slice A.p A.xs.length A.cap, .int .i64 B.d, .slice B.p B.xs.length B.cap] 25)) := by go_grown
  have hbA' := hB0.trans (hbA.mono hB0.size)
  have hN := Named_any W0.heap.size [A, B] _ (by simp) (by simp) (by simp [total]; omega) (labs2 (World.alloc_heap_new W0 (.cells #[.int .i64 A.d, .slice A.p A.xs.length A.cap, .int .i64 B.d, .slice B.p B.xs.length B.cap] 25)) ⟨ha.below hbA', ma⟩ ⟨hb.below hbA', mb⟩)
  simp only [List.length_cons, List.length_nil, Nat.zero_add, Nat.reduceAdd] at hN
  have HN := Lib.hid hN
  have hlen : (namedS [A, B]).length ≤ 17592186044000 := by
    have := named_len [A, B] 2
    simp [total] at this; omega
  have hn0 : w.heap.size < W0.heap.size := by omega
  have hn1 : w.heap.size + 1 < W0.heap.size := by omega
  clear hN
  have HS := Lib.hid hs0
  clear hs0
  unfold Lab.val
  go_enter Try.func23, Try.ntmps23
  go_wp2_with (go_at_call 36; refine HN.out.mono ?_; rintro e w1 ⟨g, cap, rfl, hown, hb1⟩; refine Hid.out ?_)
  refine Lib.hid ?_
  obtain ⟨ns, hns⟩ : ∃ ns, ns = namedS [A, B] := ⟨_, rfl⟩
  have HD : Hid (rownS kd A B = (ns ++ [0]).any (rown1 A B kd)) := by rw [hns]; rfl
  rw [← hns] at hown hlen ⊢
  clear hns
  have hb01 : Below W0.heap.size W0 w1 := hbA.trans (hb1.mono hbA.size)
  have hg := hown.lt g rfl
  simp at hg
  have hownA := hown.alloc (.cells #[.int .i64 0] 3)
  have HO : Hid (∀ i u, [Value.int .i64 0][i]? = some u → (w1.alloc (.cells #[.int .i64 0] 3)).cell? ((⟨w1.heap.size, 0, none⟩ : Addr).add i) = some u) := cell_one_new' w1 _ 3
  have hbA1 : Below W0.heap.size W0 (w1.alloc (.cells #[.int .i64 0] 3)) := hb01.alloc hb01.size _
  have h63 : ns.length + 1 ≤ maxLen := by unfold maxLen; omega
  have hby : (ns.length + 1) * 8 ≤ 140737488355328 := by omega
  have hbs : (W0.alloc (.cells #[.int .i64 A.d, .slice A.p A.xs.length A.cap, .int .i64 B.d, .slice B.p B.xs.length B.cap] 25)).heap.size ≤ (w1.alloc (.cells #[.int .i64 0] 3)).heap.size := by have := hb1.size; simp at this ⊢; omega
  clear HN hbA hbA' hW0 hown
  go_wp2_with (at_builtin; refine wpList_append_own _ rfl _ _ 28 rfl _ 3 i0 (.int .i64 0) 1 8 Try.underlying28 hi hz0 hz1 hz2 rfl (by decide) _ _ _ rfl hownA ⟨w1.heap.size, 0, none⟩ 1 1 [.int .i64 0] rfl rfl HO.out (fun x hx => by simp at hx; subst hx; rfl) h63 hby hbs ?_; intro v2 w2 hown2 hgrow2 hnil2; refine Hid.out ?_)
  refine Lib.hid ?_
  have hb02 : Below W0.heap.size W0 w2 := Below.grown hbA1 hgrow2 (by have := hb01.size; simp; omega) (fun j hj => by have := (hownA.lt _ hj).1; simp at this; omega)
  obtain ⟨zs, hzs⟩ : ∃ zs, zs = ns ++ [0] := ⟨_, rfl⟩
  have hown2' : ∃ bs g2 cap2, v2 = .slice (some ⟨g2, 0, none⟩) zs.length cap2 ∧ w2.ownsRow bs 3 1 (.slice (some ⟨g2, 0, none⟩) zs.length cap2) zs.length (icells zs) := by
    have e1 : ns.length + 1 = zs.length := by rw [hzs]; simp
    have e2 : icells ns ++ [Value.int .i64 0] = icells zs := by rw [hzs]; simp [icells]
    rw [e1, e2] at hown2
    have h' := hown2
    obtain ⟨_, h2⟩ := hown2
    rcases h2 with ⟨_, hn⟩ | ⟨g, cap, cur, rfl, hr⟩
    · omega
    · exact ⟨_, g, cap, rfl, h'⟩
  have hzl : zs.length ≤ 17592186044001 := by rw [hzs]; simp; omega
  rw [← hzs] at HD
  clear hzs hown2 hgrow2 hnil2 hownA HO hbA1 hb1 hb01 hbs h63 hby hg
  obtain ⟨bs, g2, cap2, rfl, hown2⟩ := hown2'
  have hcell : ∀ k, (h : k < zs.length) → w2.cell? ⟨g2, k, none⟩ = some (.int .i64 zs[k]) := fun k h => by
    rw [hown2.cellAt k (by omega)]; simp [icells, h]
  have hg2 := (hown2.lt g2 rfl).2
  have hncap : zs.length ≤ cap2 := by
    rcases hown2.2 with ⟨h, _⟩ | ⟨_, _, _, h, _, _, h3, _⟩
    · cases h
    · cases h; exact h3
  have HCELL := Lib.hid hcell
  clear hcell hown2 hi hz0 hz1 hz2
  have hB2 : Below w.heap.size w w2 := hB0.trans (hb02.mono hB0.size)
  have hz2 : w.heap.size + 2 ≤ w2.heap.size := by have := hb02.size; have := HS.out; omega
  have a0 := (hb02.cell (p := ⟨w.heap.size, 0, none⟩) hn0).trans a0
  have a1 := (hb02.cell (p := ⟨w.heap.size, 1, none⟩) hn0).trans a1
  have b1 := (hb02.cell (p := ⟨w.heap.size + 1, 1, none⟩) hn1).trans b1
  have b5 := (hb02.cell (p := ⟨w.heap.size + 1, 5, none⟩) hn1).trans b5
  have b6 := (hb02.cell (p := ⟨w.heap.size + 1, 6, none⟩) hn1).trans b6
  clear hB0 hb02
  go_wp2
  go_loopw [16] (fun i wr => ∃ k : Nat, k ≤ zs.length ∧ i = .int .i64 k ∧ zs.any (rown1 A B kd) = (zs.drop k).any (rown1 A B kd) ∧ Below w2.heap.size w2 wr) (fun i _ => zs.length - (intOf i).toNat)
  case atStart => exact ⟨0, Nat.zero_le _, rfl, by simp, Below.refl _ _⟩
  case round =>
    obtain ⟨k, hk, rfl, hr, hbw⟩ := hrel
    have HR := Lib.hid hr
    clear hr
    have hBw : Below w.heap.size w wr := hB2.trans (hbw.mono hB2.size)
    have hzw : w.heap.size + 2 ≤ wr.heap.size := by have := hbw.size; omega
    have p0 := (hbw.cell (p := ⟨w.heap.size, 0, none⟩) (by simp; omega)).trans a0
    have p1 := (hbw.cell (p := ⟨w.heap.size, 1, none⟩) (by simp; omega)).trans a1
    have q1 := (hbw.cell (p := ⟨w.heap.size + 1, 1, none⟩) (by simp; omega)).trans b1
    have q5 := (hbw.cell (p := ⟨w.heap.size + 1, 5, none⟩) (by simp; omega)).trans b5
    have q6 := (hbw.cell (p := ⟨w.heap.size + 1, 6, none⟩) (by simp; omega)).trans b6
    by_cases hlt : k < zs.length
    · have hx : wr.cell? ⟨g2, k, none⟩ = some (.int .i64 zs[k]) := (hbw.cell (p := ⟨g2, k, none⟩) hg2).trans (HCELL.out k hlt)
      have hgw : g2 < wr.heap.size := by have := hbw.size; omega
      have HT := Lib.hid (any_step (rown1 A B kd) zs k hlt)
      have HA : Hid (∀ W, Below wr.heap.size wr W → CatsAt W A.p A.xs) := fun W hW => (ha.below hBw).below hW
      have hB' := refAt_any B.d zs[k] B.p B.cap B.xs wr mb (hb.below hBw)
      have HB' := Lib.hid hB'
      have hki : (k : Int) < (zs.length : Int) := by omega
      clear ha hb a0 a1 b1 b5 b6 hB'
      have HU : Hid (rown1 A B kd zs[k] = ((atS B.d B.xs zs[k] == 0) && (decide (atS A.d A.xs zs[k] < 4) && (kd == 4 || kd == 5)))) := Lib.hid rfl
      obtain ⟨bx, hbx⟩ : ∃ bx, atS B.d B.xs zs[k] = bx := ⟨_, rfl⟩
      obtain ⟨ay, hay⟩ : ∃ ay, atS A.d A.xs zs[k] = ay := ⟨_, rfl⟩
      have HC : Hid (∀ W, Below wr.heap.size wr W → Calls Try.prog 37 #[.agg #[.int .i64 A.d, .slice A.p A.xs.length A.cap], .int .i64 zs[k]] W fun e w' => e = .returned (.int .i64 ay) ∧ Below W.heap.size W w') := fun W hW => by rw [← hay]; exact refAt_any A.d zs[k] A.p A.cap A.xs W ma (HA.out W hW)
      rw [hbx, hay] at HU
      rw [hbx] at HB'
      clear hbx hay HA
      by_cases h0 : bx = 0
      · subst h0
        go_wp2_with (go_at_call 37; refine HB'.out.mono ?_; rintro e w3 ⟨rfl, hb3⟩; refine Hid.out ?_)
        refine Lib.hid ?_
        have p0' := (hb3.cell (p := ⟨w.heap.size, 0, none⟩) (by simp; omega)).trans p0
        have p1' := (hb3.cell (p := ⟨w.heap.size, 1, none⟩) (by simp; omega)).trans p1
        have q1' := (hb3.cell (p := ⟨w.heap.size + 1, 1, none⟩) (by simp; omega)).trans q1
        have hz3 : w.heap.size + 2 ≤ w3.heap.size := by have := hb3.size; omega
        clear p0 p1 q1 q5 q6 hx HB'
        by_cases h4 : ay < 4
        · go_wp2_with (go_at_call 37; refine (HC.out _ hb3).mono ?_; rintro e w4 ⟨rfl, hb4⟩; refine Hid.out ?_)
          refine Lib.hid ?_
          have q1'' := (hb4.cell (p := ⟨w.heap.size + 1, 1, none⟩) (by simp; omega)).trans q1'
          have hb34 : Below wr.heap.size wr w4 := hb3.trans (hb4.mono hb3.size)
          have hz4 : w.heap.size + 2 ≤ w4.heap.size := by have := hb4.size; omega
          clear p0' p1' q1' hb3 hb4 HC
          by_cases hk4 : kd = 4
          · subst hk4
            have HV : Hid (rown1 A B 4 zs[k] = true) := Lib.hid (by rw [HU.out]; simp [h4])
            go_wp2
            go_ret
            exact ⟨ret_bool (by rw [HD.out, HR.out, HT.out, HV.out]; rfl), hBw.trans (hb34.mono hBw.size)⟩
          · by_cases hk5 : kd = 5
            · subst hk5
              have HV : Hid (rown1 A B 5 zs[k] = true) := Lib.hid (by rw [HU.out]; simp [h4])
              go_wp2
              go_ret
              exact ⟨ret_bool (by rw [HD.out, HR.out, HT.out, HV.out]; rfl), hBw.trans (hb34.mono hBw.size)⟩
            · have HV : Hid (rown1 A B kd zs[k] = false) := Lib.hid (by rw [HU.out]; simp [hk4, hk5])
              have hk4' : (kd == 4) = false := by simp [hk4]
              have hk5' : (kd == 5) = false := by simp [hk5]
              go_wp2
              go_roundw
              case rel => exact ⟨k + 1, by omega, by go_num, by rw [HR.out, HT.out, HV.out]; rfl, hbw.trans (hb34.mono hbw.size)⟩
              case measure => simp [intOf]; omega
        · have HV : Hid (rown1 A B kd zs[k] = false) := Lib.hid (by rw [HU.out]; simp [h4])
          go_wp2_with (go_at_call 37; refine (HC.out _ hb3).mono ?_; rintro e w4 ⟨rfl, hb4⟩)
          go_roundw
          case rel => exact ⟨k + 1, by omega, by go_num, by rw [HR.out, HT.out, HV.out]; rfl, hbw.trans ((hb3.trans (hb4.mono hb3.size)).mono hbw.size)⟩
          case measure => simp [intOf]; omega
      · have HV : Hid (rown1 A B kd zs[k] = false) := Lib.hid (by rw [HU.out]; simp [h0])
        go_wp2_with (go_at_call 37; refine HB'.out.mono ?_; rintro e w3 ⟨rfl, hb3⟩)
        go_roundw
        case rel => exact ⟨k + 1, by omega, by go_num, by rw [HR.out, HT.out, HV.out]; rfl, hbw.trans (hb3.mono hbw.size)⟩
        case measure => simp [intOf]; omega
    · go_wp2
      go_ret
      exact ⟨ret_bool (by rw [HD.out, HR.out, List.drop_of_length_le (by omega)]; rfl), hBw⟩
end Go.Proofs.Ytonhdkldacghoaa
