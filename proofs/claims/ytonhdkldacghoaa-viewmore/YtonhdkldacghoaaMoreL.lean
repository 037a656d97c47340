/- ViewMore: the law's walk. -/
import Derived.Test.YtonhdkldacghoaaPartsL
import Derived.Test.YtonhdkldacghoaaAllL
import Derived.Test.YtonhdkldacghoaaMoreM
import Derived.Deep.DeepCutAuto
namespace Go.Proofs.Ytonhdkldacghoaa
open Go.RowKit Go.Sort Go.Shelf

/-- Two labels in their boxes, in every world behind W0. -/
structure Bm (A B : Lab) (x y : Nat) (W0 X : World) : Prop where
  bel : Below W0.heap.size W0 X
  c0 : X.cell? ⟨x, 0, none⟩ = some (.int .i64 A.d)
  c1 : X.cell? ⟨x, 1, none⟩ = some (.slice A.p A.xs.length A.cap)
  d0 : X.cell? ⟨y, 0, none⟩ = some (.int .i64 B.d)
  d1 : X.cell? ⟨y, 1, none⟩ = some (.slice B.p B.xs.length B.cap)
theorem Bm.next {A B : Lab} {x y : Nat} {W0 X Y : World} (h : Bm A B x y W0 X) (hb : Below X.heap.size X Y) (hx : x < W0.heap.size) (hy : y < W0.heap.size) : Bm A B x y W0 Y := by
  have hz := h.bel.size
  exact ⟨h.bel.trans (hb.mono hz), (hb.cell (p := ⟨x, 0, none⟩) (by simp; omega)).trans h.c0, (hb.cell (p := ⟨x, 1, none⟩) (by simp; omega)).trans h.c1, (hb.cell (p := ⟨y, 0, none⟩) (by simp; omega)).trans h.d0, (hb.cell (p := ⟨y, 1, none⟩) (by simp; omega)).trans h.d1⟩
set_option maxRecDepth 100000 in
set_option maxHeartbeats 4000000 in
theorem ViewMore_any (d : List Ob) (p : Option Addr) (cap : Nat) (root : Int) (A B : Lab) (w : World) (h : ObsAt w p d) (hm : d.length ≤ maxLen) (hF : ∀ o ∈ d, o.Fits) (hA : CatsAt w A.p A.xs) (hAm : A.xs.length ≤ maxLen) (hB : CatsAt w B.p B.xs) (hBm : B.xs.length ≤ maxLen) (hr : i64 root) :
    Calls Try.prog 7 #[.slice p d.length cap, .int .i64 root, .agg #[.int .i64 A.d, .slice A.p A.xs.length A.cap, .int .i64 B.d, .slice B.p B.xs.length B.cap]] w fun e w' => e = .returned (.bool true) ∧ Below w.heap.size w w' := by
  obtain ⟨W0, hW0⟩ : ∃ W0, w.alloc (.cells #[.int .i64 A.d, .slice A.p A.xs.length A.cap, .int .i64 B.d, .slice B.p B.xs.length B.cap] 51) = W0 := ⟨_, rfl⟩
  have hB0 : Below w.heap.size w W0 := by rw [← hW0]; go_grown
  have hz : W0.heap.size = w.heap.size + 1 := by rw [← hW0]; simp
  have a0 : W0.cell? ⟨w.heap.size, 0, none⟩ = some (.int .i64 A.d) := by rw [← hW0]; simp [go_sem]
  have a1 : W0.cell? ⟨w.heap.size, 1, none⟩ = some (.slice A.p A.xs.length A.cap) := by rw [← hW0]; simp [go_sem]
  have a2 : W0.cell? ⟨w.heap.size, 2, none⟩ = some (.int .i64 B.d) := by rw [← hW0]; simp [go_sem]
  have a3 : W0.cell? ⟨w.heap.size, 3, none⟩ = some (.slice B.p B.xs.length B.cap) := by rw [← hW0]; simp [go_sem]
  have hn0 : w.heap.size < W0.heap.size := by omega
  have HC0 : Hid (∀ X, Below W0.heap.size W0 X → CatsAt X A.p A.xs ∧ CatsAt X B.p B.xs ∧ ObsAt X p d) := Lib.hid (fun X h' => ⟨(hA.below hB0).below h', (hB.below hB0).below h', (h.below hB0).below h'⟩)
  have HL0 := Lib.hid (lives_any W0)
  have HM := Lib.hid hm
  have HFt := Lib.hid hF
  have HB0 := Lib.hid hB0
  clear hA hB h hz hB0 hm hF
  go_enter Try.func7, Try.ntmps7
  go_wp2_with (go_at_call 8; refine HL0.out.mono ?_; rintro e w1 ⟨rfl, hb1⟩; refine Hid.out ?_)
  refine Lib.hid ?_
  have e0 := (hb1.cell (p := ⟨w.heap.size, 0, none⟩) hn0).trans a0
  have e1 := (hb1.cell (p := ⟨w.heap.size, 1, none⟩) hn0).trans a1
  have e2 := (hb1.cell (p := ⟨w.heap.size, 2, none⟩) hn0).trans a2
  have e3 := (hb1.cell (p := ⟨w.heap.size, 3, none⟩) hn0).trans a3
  have hn1 : w.heap.size < w1.heap.size := by have := hb1.size; omega
  have HB1 := Lib.hid hb1
  clear hW0 HL0 hb1 a0 a1 a2 a3
  go_upto_region 3 with fail
  go_cut [7, 8] (fun v7 v8 wx => ∃ x y, v7 = .pointer (some ⟨x, 0, none⟩) ∧ v8 = .pointer (some ⟨y, 0, none⟩) ∧ x < wx.heap.size ∧ y < wx.heap.size ∧ wx.cell? ⟨x, 0, none⟩ = some (.int .i64 A.d) ∧ wx.cell? ⟨x, 1, none⟩ = some (.slice A.p A.xs.length A.cap) ∧ wx.cell? ⟨y, 0, none⟩ = some (.int .i64 B.d) ∧ wx.cell? ⟨y, 1, none⟩ = some (.slice B.p B.xs.length B.cap) ∧ Below w1.heap.size w1 wx)
  case first =>
    go_region_law (fail)
    all_goals (go_wp2_with fail; go_meet; refine ⟨_, _, rfl, rfl, (by simp <;> omega), (by simp <;> omega), by simp [go_sem], by simp [go_sem], by simp [go_sem], by simp [go_sem], by go_grown⟩)
  case rest =>
    obtain ⟨x, y, rfl, rfl, hx, hy, c0, c1, d0, d1, hbc⟩ := hcut
    obtain ⟨W2, hW2⟩ : ∃ W2, wc = W2 := ⟨_, rfl⟩
    rw [hW2] at hx hy c0 c1 d0 d1 hbc ⊢
    have HB2 : Hid (Below w.heap.size w W2) := Lib.hid (HB0.out.trans ((HB1.out.trans (hbc.mono HB1.out.size)).mono HB0.out.size))
    have hX2 : Bm A B x y W2 W2 := ⟨Below.refl _ _, c0, c1, d0, d1⟩
    have HN : Hid (∀ X Y, Bm A B x y W2 X → Below X.heap.size X Y → Bm A B x y W2 Y) := Lib.hid (fun X Y h hb => h.next hb hx hy)
    have HC : Hid (∀ X, Bm A B x y W2 X → CatsAt X A.p A.xs ∧ CatsAt X B.p B.xs ∧ ObsAt X p d) := Lib.hid (fun X h' => HC0.out X (HB1.out.trans ((hbc.trans (h'.bel.mono hbc.size)).mono HB1.out.size)))
    have HBe : Hid (∀ X, Bm A B x y W2 X → Below w.heap.size w X) := Lib.hid (fun X h' => HB2.out.trans (h'.bel.mono HB2.out.size))
    have HZ : Hid (∀ X, Bm A B x y W2 X → x < X.heap.size ∧ y < X.heap.size) := Lib.hid (fun X h' => by have := h'.bel.size; omega)
    have HFw := Lib.hid (few_any W2 p cap d (HC.out _ hX2).2.2 HM.out)
    clear hW2 hbc e0 e1 e2 e3 c0 c1 d0 d1 hx hy HC0 HB0 HB1 HB2 hn1 hn0
    by_cases hfw : fewB d = true
    · rw [hfw] at HFw
      go_wp2_with (go_at_call 9; refine HFw.out.mono ?_; rintro e w3 ⟨rfl, hb3⟩; refine Hid.out ?_)
      refine Lib.hid ?_
      have hX3 := HN.out _ _ hX2 hb3
      obtain ⟨hfe, hd100, hls, hxs⟩ := few_of hfw
      have HFew := Lib.hid hfe
      have c0 := hX3.c0
      have c1 := hX3.c1
      have hz3 := HZ.out _ hX3
      have hx3 := hz3.1
      have HFa := Lib.hid (refFree_any A.d A.p A.cap A.xs w3 hAm (HC.out _ hX3).1)
      clear HFw hX2 hb3 hfw hfe hz3 hls hxs
      by_cases hfa : freeS A.d A.xs = true
      · rw [hfa] at HFa
        go_wp2_with (go_at_call 14; refine HFa.out.mono ?_; rintro e w4 ⟨rfl, hb4⟩; refine Hid.out ?_)
        refine Lib.hid ?_
        have hX4 := HN.out _ _ hX3 hb4
        clear HFa c0 c1 hX3 hb4 hx3
        have d0 := hX4.d0
        have d1 := hX4.d1
        have hz4 := HZ.out _ hX4
        have hy4 := hz4.2
        have HFb := Lib.hid (refFree_any B.d B.p B.cap B.xs w4 hBm (HC.out _ hX4).2.1)
        clear hz4
        by_cases hfb : freeS B.d B.xs = true
        · rw [hfb] at HFb
          go_wp2_with (go_at_call 14; refine HFb.out.mono ?_; rintro e w5 ⟨rfl, hb5⟩; refine Hid.out ?_)
          refine Lib.hid ?_
          have hX5 := HN.out _ _ hX4 hb5
          clear HFb d0 d1 hX4 hb5 hy4
          have c0 := hX5.c0
          have c1 := hX5.c1
          have d0 := hX5.d0
          have d1 := hX5.d1
          obtain ⟨hx5, hy5⟩ := HZ.out _ hX5
          have rA := right_rise (free_right hfa)
          have rB := right_rise (free_right hfb)
          have HLq := Lib.hid (rLeq_any A B w5 (by have h1 := rA.2.2.1; have h2 := rB.2.2.1; omega) (HC.out _ hX5).1 (HC.out _ hX5).2.1)
          rw [rleq_eq rA.1 rB.1] at HLq
          clear rA rB
          by_cases hle : leqS A.d B.d A.xs B.xs = true
          · rw [hle] at HLq
            go_wp2_with (go_at_call 25; refine HLq.out.mono ?_; rintro e w6 ⟨rfl, hb6⟩; refine Hid.out ?_)
            refine Lib.hid ?_
            have hX6 := HN.out _ _ hX5 hb6
            clear HLq c0 c1 d0 d1 hX5 hb6 hx5 hy5
            have HLM : Hid (∀ o, lowB A o = true → lowB B o = true) := Lib.hid (fun o => low_mono hfa hfb hle)
            have HSa : Hid (∀ X, Below w6.heap.size w6 X → Calls Try.prog 16 #[.slice p d.length cap, .int .i64 root, .agg #[.int .i64 A.d, .slice A.p A.xs.length A.cap]] X fun e X' => ∃ (sa : Option Addr) (ca : Nat) (oa : List Ob), e = .returned (.slice sa oa.length ca) ∧ (∃ w wa v za, SeeOut d A root w wa v oa za) ∧ ObsAt X' sa oa ∧ Below X.heap.size X X' ∧ Below w6.heap.size w6 X') := Lib.hid (fun X hX => by
              have hY := HN.out _ _ hX6 hX
              refine (See_any d p cap root A X HFew.out HFt.out (HC.out _ hY).2.2 (HC.out _ hY).1 hAm hr).mono ?_
              rintro e X' ⟨v, os, zs, rfl, hS⟩
              obtain ⟨sp, c, rfl⟩ := row_form hS.row
              exact ⟨sp, c, os, rfl, ⟨_, _, _, zs, hS⟩, obs_row hS.row (fun o ho => (hS.new o ho).ok), hS.bel, hX.trans (hS.bel.mono hX.size)⟩)
            have HSb : Hid (∀ X, Below w6.heap.size w6 X → Calls Try.prog 16 #[.slice p d.length cap, .int .i64 root, .agg #[.int .i64 B.d, .slice B.p B.xs.length B.cap]] X fun e X' => ∃ (sb : Option Addr) (cb : Nat) (ob : List Ob), e = .returned (.slice sb ob.length cb) ∧ (∃ w wa v za, SeeOut d B root w wa v ob za) ∧ ObsAt X' sb ob ∧ Below X.heap.size X X' ∧ Below w6.heap.size w6 X') := Lib.hid (fun X hX => by
              have hY := HN.out _ _ hX6 hX
              refine (See_any d p cap root B X HFew.out HFt.out (HC.out _ hY).2.2 (HC.out _ hY).2.1 hBm hr).mono ?_
              rintro e X' ⟨v, os, zs, rfl, hS⟩
              obtain ⟨sp, c, rfl⟩ := row_form hS.row
              exact ⟨sp, c, os, rfl, ⟨_, _, _, zs, hS⟩, obs_row hS.row (fun o ho => (hS.new o ho).ok), hS.bel, hX.trans (hS.bel.mono hX.size)⟩)
            have HLen : Hid (∀ (l : Lab) (os : List Ob), (∃ w wa v za, SeeOut d l root w wa v os za) → os.length ≤ 1000) := Lib.hid (fun l os ⟨_, _, _, za, hS⟩ => by have := len_con hS.con; have := hS.len; omega)
            have HMo : Hid (∀ (oa ob : List Ob), (∃ w wa v za, SeeOut d A root w wa v oa za) → (∃ w wa v za, SeeOut d B root w wa v ob za) → More oa ob) := Lib.hid (fun oa ob ⟨_, _, _, _, h1⟩ ⟨_, _, _, _, h2⟩ => more_of h1 h2 HLM.out)
            have c0 := hX6.c0
            have c1 := hX6.c1
            have d0 := hX6.d0
            have d1 := hX6.d1
            obtain ⟨hx6, hy6⟩ := HZ.out _ hX6
            have HX6 := Lib.hid hX6
            clear hX6 hfa hfb hle hd100
            go_upto_region 6 with fail
            go_cut [9, 10] (fun va vb wx => ∃ (sa : Option Addr) (ca : Nat) (oa : List Ob) (sb : Option Addr) (cb : Nat) (ob : List Ob), va = .slice sa oa.length ca ∧ vb = .slice sb ob.length cb ∧ (∃ w wa v za, SeeOut d A root w wa v oa za) ∧ (∃ w wa v za, SeeOut d B root w wa v ob za) ∧ ObsAt wx sa oa ∧ ObsAt wx sb ob ∧ Below w6.heap.size w6 wx)
            case first =>
              go_region_law (go_simp; go_at_call 16; first | (with_reducible refine Calls.mono (HSa.out _ (by first | exact hbS | exact Below.refl _ _ | exact (Below.refl w6.heap.size w6).drew)) ?_; rintro e XA ⟨sa, ca, oa, rfl, hpA, hoA, hbA, hbS⟩; have fA := HN.out _ _ HX6.out hbS; have qA0 := fA.c0; have qA1 := fA.c1; have qA2 := fA.d0; have qA3 := fA.d1; have qA4 := (HZ.out _ fA).1; have qA5 := (HZ.out _ fA).2; have HoA := Lib.hid hoA; have HpA := Lib.hid hpA; have HbA := Lib.hid hbA; clear hoA hpA hbA fA) | (with_reducible refine Calls.mono (HSb.out _ (by first | exact hbS | exact Below.refl _ _ | exact (Below.refl w6.heap.size w6).drew)) ?_; rintro e XB ⟨sb, cb, ob, rfl, hpB, hoB, hbB, hbS⟩; have fB := HN.out _ _ HX6.out hbS; have qB0 := fB.c0; have qB1 := fB.c1; have qB2 := fB.d0; have qB3 := fB.d1; have qB4 := (HZ.out _ fB).1; have qB5 := (HZ.out _ fB).2; have HoB := Lib.hid hoB; have HpB := Lib.hid hpB; have HbB := Lib.hid hbB; clear hoB hpB hbB fB))
              all_goals (go_wp2_with fail; go_meet)
              all_goals first
                | exact ⟨sa, ca, oa, sb, cb, ob, rfl, rfl, HpA.out, HpB.out, HoA.out.below HbB.out, HoB.out, hbS⟩
                | exact ⟨sa, ca, oa, sb, cb, ob, rfl, rfl, HpA.out, HpB.out, HoA.out, HoB.out.below HbA.out, hbS⟩
            case rest =>
              obtain ⟨sa, ca, oa, sb, cb, ob, rfl, rfl, hpA, hpB, hoA, hoB, hb7⟩ := hcut
              rename World => wq
              obtain ⟨W7, hW7⟩ : ∃ W7, wq = W7 := ⟨_, rfl⟩
              rw [hW7] at hoA hoB hb7 ⊢
              have hla := HLen.out _ _ hpA
              have hlb := HLen.out _ _ hpB
              have hMo := HMo.out _ _ hpA hpB
              have hlen := hMo.len
              have HMO := Lib.hid hMo
              have HOA := Lib.hid hoA
              have HOB := Lib.hid hoB
              have HB7 : Hid (Below w.heap.size w W7) := Lib.hid (HBe.out _ (HN.out _ _ HX6.out hb7))
              clear hW7 hpA hpB hoA hoB hb7 c0 c1 d0 d1 hx6 hy6 HSa HSb HLen HMo HX6 HLM hMo
              go_wp2
              go_loopw [11, 48] (fun kv iv wr => ∃ k i : Nat, kv = .int .i64 k ∧ iv = .int .i64 i ∧ i ≤ oa.length ∧ k ≤ ob.length ∧ Gone oa ob i k ∧ Below W7.heap.size W7 wr) (fun _ iv _ => oa.length - (intOf iv).toNat)
              case atStart => exact ⟨0, 0, rfl, rfl, Nat.zero_le _, Nat.zero_le _, Gone.start oa ob, Below.refl _ _⟩
              case round =>
                obtain ⟨k0, i, rfl, rfl, hi, hk0, hg0, hBo⟩ := hrel
                by_cases hlt : i < oa.length
                · have hii : (i : Int) < (oa.length : Int) := by omega
                  obtain ⟨ba, fa, rfl, hba, hatA, hokA⟩ := (HOA.out.below hBo) i hlt
                  have hida := hatA 0 _ (by rw [Ob.head _ _ (by decide)]; rfl)
                  obtain ⟨wo, hwo⟩ : ∃ wo, wo = wr := ⟨_, rfl⟩
                  rw [← hwo] at hBo hba hatA hokA hida ⊢
                  have HG0 := Lib.hid hg0
                  have HBo := Lib.hid hBo
                  have HatA := Lib.hid hatA
                  have HokA := Lib.hid hokA
                  clear hwo wr hg0 hBo hatA hokA
                  go_wp2
                  go_loopw [11] (fun kv wr => ∃ k : Nat, kv = .int .i64 k ∧ k ≤ ob.length ∧ Gone oa ob i k ∧ Below wo.heap.size wo wr) (fun kv _ => ob.length - (intOf kv).toNat)
                  case atStart => exact ⟨k0, rfl, hk0, HG0.out, Below.refl _ _⟩
                  case round =>
                    obtain ⟨k, rfl, hk, hg, hB⟩ := hrel
                    have HG := Lib.hid hg
                    have hbar : ba < wr.heap.size := by have := hB.size; omega
                    have HBw : Hid (Below W7.heap.size W7 wr) := Lib.hid (HBo.out.trans (hB.mono HBo.out.size))
                    have ia : ∀ n, (wr.drewN n).cell? ⟨ba, fa + i * 38, none⟩ = some (.int .i64 oa[i].id) := fun n => show wr.cell? _ = _ from (hB.cell (p := ⟨ba, fa + i * 38, none⟩) hba).trans hida
                    have hkb : k < ob.length := by
                      by_cases e : k < ob.length
                      · exact e
                      · exfalso
                        obtain ⟨h1, _⟩ := hg.found HMO.out hlt (fun hk => absurd hk e)
                        exact e h1
                    have hkj : (k : Int) < (ob.length : Int) := by omega
                    obtain ⟨bb, fb, rfl, hbb, hatB, hokB⟩ := (HOB.out.below HBw.out) k hkb
                    have hidb := hatB 0 _ (by rw [Ob.head _ _ (by decide)]; rfl)
                    have ib : ∀ n, (wr.drewN n).cell? ⟨bb, fb + k * 38, none⟩ = some (.int .i64 ob[k].id) := fun n => show wr.cell? _ = _ from hidb
                    have HGs := Lib.hid (fun (hl : ob[k].id < oa[i].id) => HG.out.step HMO.out.ua hkb hlt hl)
                    have HGf := Lib.hid (fun (hs : ¬ ob[k].id < oa[i].id) => HG.out.found HMO.out hlt (fun _ => hs))
                    have hatA := HatA.out.below hB hba
                    have hokA := HokA.out.below hB
                    have HatA2 := Lib.hid hatA
                    have HokA2 := Lib.hid hokA
                    have HatB2 := Lib.hid hatB
                    have HokB2 := Lib.hid hokB
                    obtain ⟨xa, hxa⟩ : ∃ xa, oa[i].id = xa := ⟨_, rfl⟩
                    obtain ⟨xb, hxb⟩ : ∃ xb, ob[k].id = xb := ⟨_, rfl⟩
                    simp only [hxa] at ia HGs HGf
                    simp only [hxb] at ib HGs HGf
                    clear hidb hatA hokA hatB hokB hg hxa hxb
                    by_cases hl : xb < xa
                    · have HG2 := Lib.hid (HGs.out hl)
                      have HBr := Lib.hid hB
                      clear HGs HGf HatA2 HokA2 HatB2 HokB2 hB
                      go_wp2_with fail
                      go_quiet (fail)
                      go_wp2_with fail
                      go_roundw
                      case rel => exact ⟨k + 1, by go_num, by omega, HG2.out, bdnS HBr.out _⟩
                      case measure => simp [intOf]; omega
                    · obtain ⟨_, hob⟩ := HGf.out hl
                      have HOb := Lib.hid hob
                      have hkd : decide ((ob.length : Int) ≤ (k : Int)) = false := by simp only [decide_eq_false_iff_not]; omega
                      have hke : decide (ob.length ≤ k) = false := by simp only [decide_eq_false_iff_not]; omega
                      clear HGs HGf hob hB
                      go_wp2_with fail
                      go_quiet (fail)
                      go_upto_region 13 with fail
                      refine gen_world (P := fun W => Below wr.heap.size wr W) (Q := fun W => Code.wp _ _ _ _ W) (bdnS (Below.refl _ _) _) ?_
                      intro V hV
                      have hbaV : ba < V.heap.size := by have := hV.size; omega
                      have hbbV : bb < V.heap.size := by have := hV.size; omega
                      have HRS : Hid (∀ n os, Calls Try.prog 26 #[.agg oa[i].cs, .agg ob[k].cs] (gx V n os) fun e w'' => e = .returned (.bool true) ∧ ∃ p : GrownBy, w'' = gx V p.n p.os) := Lib.hid (fun n os => by
                        have := calls_gx (RSame_any oa[i] ob[k] (gx V n os) ((HokA2.out.below hV).below (gx_below V n os)) ((HokB2.out.below hV).below (gx_below V n os)))
                        rw [HOb.out] at this; exact this)
                      have HLA : Hid (∀ w', (∃ q : GrownBy, w' = gx V q.n q.os) → (loadVar 42 ⟨ba, fa + i * 38, none⟩).run Try.prog w' = .ok (.agg oa[i].cs) w') := Lib.hid (fun w' ⟨q, hq⟩ => by subst hq; exact load_ob ((HatA2.out.below hV hbar).below (gx_below V q.n q.os) hbaV) HokA2.out.st)
                      have HLB : Hid (∀ w', (∃ q : GrownBy, w' = gx V q.n q.os) → (loadVar 42 ⟨bb, fb + k * 38, none⟩).run Try.prog w' = .ok (.agg ob[k].cs) w') := Lib.hid (fun w' ⟨q, hq⟩ => by subst hq; exact load_ob ((HatB2.out.below hV hbb).below (gx_below V q.n q.os) hbbV) HokB2.out.st)
                      obtain ⟨za, hza⟩ : ∃ c, oa[i].cs = c := ⟨_, rfl⟩
                      obtain ⟨zb, hzb⟩ : ∃ c, ob[k].cs = c := ⟨_, rfl⟩
                      rw [hza] at HLA HRS
                      rw [hzb] at HLB HRS
                      have HV := Lib.hid (HBw.out.trans (hV.mono HBw.out.size))
                      clear hza hzb hV ia ib
                      refine wp_region_quiet_gx (by kernel_rfl) (by kernel_rfl) ?_
                      iterate 8 (go_big_quiet_step (fail))
                      go_big_quiet_want
                      refine quiet_load_at 42 _ ⟨ba, fa + i * 38, none⟩ (.agg za) rfl rfl HLA.out ?_
                      go_simp
                      go_big_quiet_on
                      iterate 3 (go_big_quiet_step (fail))
                      go_big_quiet_want
                      refine quiet_load_at 42 _ ⟨bb, fb + k * 38, none⟩ (.agg zb) rfl rfl HLB.out ?_
                      go_simp
                      go_big_quiet_on
                      repeat (go_big_quiet_step (first | (go_at_call 26; with_reducible exact HRS.out _ _)))
                      refine wpQuiet_nil ?_
                      intro _ hw'
                      obtain ⟨⟨nq, osq⟩, hw''⟩ := hw'
                      have hbg : Below V.heap.size V (gx V nq osq) := gx_below V nq osq
                      rw [hw'']
                      clear hw''
                      have HG2 := Lib.hid HG.out.next
                      go_wp2
                      go_roundw
                      case rel => exact ⟨k, i + 1, rfl, by go_num, by omega, hk, HG2.out, HV.out.trans (hbg.mono HV.out.size)⟩
                      case measure => simp [intOf]; omega
                · have hii : ¬ (i : Int) < (oa.length : Int) := by omega
                  have hll : decide ((oa.length : Int) ≤ (ob.length : Int)) = true := decide_eq_true (by omega)
                  have HBf := Lib.hid (HB7.out.trans (hBo.mono HB7.out.size))
                  clear hlt hBo hg0
                  go_wp2_with fail
                  go_ret
                  exact ⟨rfl, HBf.out⟩
          · have hle' : leqS A.d B.d A.xs B.xs = false := by simpa using hle
            rw [hle'] at HLq
            have HX := Lib.hid (fun Y hb => HBe.out _ (HN.out _ Y hX5 hb))
            clear hle
            go_wp2_with (go_at_call 25; refine HLq.out.mono ?_; rintro e w6 ⟨rfl, hb6⟩)
            go_ret
            exact ⟨rfl, HX.out _ hb6⟩
        · have hfb' : freeS B.d B.xs = false := by simpa using hfb
          rw [hfb'] at HFb
          have HX := Lib.hid (fun Y hb => HBe.out _ (HN.out _ Y hX4 hb))
          clear hfb
          go_wp2_with (go_at_call 14; refine HFb.out.mono ?_; rintro e w5 ⟨rfl, hb5⟩)
          go_ret
          exact ⟨rfl, HX.out _ hb5⟩
      · have hfa' : freeS A.d A.xs = false := by simpa using hfa
        rw [hfa'] at HFa
        have HX := Lib.hid (fun Y hb => HBe.out _ (HN.out _ Y hX3 hb))
        clear hfa
        go_wp2_with (go_at_call 14; refine HFa.out.mono ?_; rintro e w4 ⟨rfl, hb4⟩)
        go_ret
        exact ⟨rfl, HX.out _ hb4⟩
    · have hfw' : fewB d = false := by simpa using hfw
      rw [hfw'] at HFw
      have HX := Lib.hid (fun Y hb => HBe.out _ (HN.out _ Y hX2 hb))
      clear hfw
      go_wp2_with (go_at_call 9; refine HFw.out.mono ?_; rintro e w3 ⟨rfl, hb3⟩)
      go_ret
      exact ⟨rfl, HX.out _ hb3⟩
end Go.Proofs.Ytonhdkldacghoaa
