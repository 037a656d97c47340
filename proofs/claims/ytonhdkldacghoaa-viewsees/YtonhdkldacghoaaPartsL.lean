/- ViewParts: the law's walk. -/
import Derived.Test.YtonhdkldacghoaaLivesW
import Derived.Test.YtonhdkldacghoaaPartsM
namespace Go.Proofs.Ytonhdkldacghoaa
open Go.RowKit Go.Sort Go.Shelf

theorem few_of {d : List Ob} (h : fewB d = true) : Few d ∧ d.length ≤ 100 ∧ (∀ o ∈ d, o.ls.length ≤ 100) ∧ ∀ o ∈ d, o.L.xs.length ≤ 100 := by
  unfold fewB at h
  rw [Bool.and_eq_true, List.all_eq_true] at h
  have h2 := of_decide_eq_true h.2
  have h3 : ∀ o ∈ d, o.ls.length ≤ 100 ∧ o.L.xs.length ≤ 100 := fun o ho => by
    have := h.1 o ho
    unfold fewO at this
    simp at this; omega
  exact ⟨⟨by omega, fun o ho => (h3 o ho).1⟩, h2, fun o ho => (h3 o ho).1, fun o ho => (h3 o ho).2⟩
/-- What lies in the box, in every world behind W0. -/
structure Bl (l : Lab) (N : Nat) (W0 X : World) : Prop where
  bel : Below W0.heap.size W0 X
  c0 : X.cell? ⟨N, 0, none⟩ = some (.int .i64 l.d)
  c1 : X.cell? ⟨N, 1, none⟩ = some (.slice l.p l.xs.length l.cap)
theorem Bl.next {l : Lab} {N : Nat} {W0 X Y : World} (h : Bl l N W0 X) (hb : Below X.heap.size X Y) (hN : N < W0.heap.size) : Bl l N W0 Y := by
  have hz := h.bel.size
  exact ⟨h.bel.trans (hb.mono hz), (hb.cell (p := ⟨N, 0, none⟩) (by simp; omega)).trans h.c0, (hb.cell (p := ⟨N, 1, none⟩) (by simp; omega)).trans h.c1⟩
set_option maxRecDepth 100000 in
set_option maxHeartbeats 4000000 in
theorem ViewParts_any (d : List Ob) (p : Option Addr) (cap : Nat) (root : Int) (l : Lab) (w : World) (h : ObsAt w p d) (hm : d.length ≤ maxLen) (hl : CatsAt w l.p l.xs) (hlm : l.xs.length ≤ maxLen) (hr : i64 root) :
    Calls Try.prog 3 #[.slice p d.length cap, .int .i64 root, l.val] w fun e w' => e = .returned (.bool true) ∧ Below w.heap.size w w' := by
  obtain ⟨i0, hi, hz0, hz1, hz2⟩ := info_parts info3
  obtain ⟨W0, hW0⟩ : ∃ W0, w.alloc (.cells #[.int .i64 l.d, .slice l.p l.xs.length l.cap] 25) = W0 := ⟨_, rfl⟩
  have hB0 : Below w.heap.size w W0 := by rw [← hW0]; go_grown
  have hz : W0.heap.size = w.heap.size + 1 := by rw [← hW0]; simp
  have hX0 : Bl l w.heap.size W0 W0 := ⟨Below.refl _ _, by rw [← hW0]; simp [go_sem], by rw [← hW0]; simp [go_sem]⟩
  have hn0 : w.heap.size < W0.heap.size := by omega
  have HN : Hid (∀ X Y, Bl l w.heap.size W0 X → Below X.heap.size X Y → Bl l w.heap.size W0 Y) := Lib.hid (fun X Y h hb => h.next hb hn0)
  have HC : Hid (∀ X, Bl l w.heap.size W0 X → CatsAt X l.p l.xs ∧ ObsAt X p d) := Lib.hid (fun X h' => ⟨(hl.below hB0).below h'.bel, (h.below hB0).below h'.bel⟩)
  have HL0 := Lib.hid (lives_any W0)
  have HBe : Hid (∀ X, Bl l w.heap.size W0 X → Below w.heap.size w X) := Lib.hid (fun X h' => hB0.trans (h'.bel.mono hB0.size))
  have HLm := Lib.hid hlm
  have HM := Lib.hid hm
  clear hl h hz hB0 hlm hm
  unfold Lab.val
  go_enter Try.func3, Try.ntmps3
  go_wp2_with (go_at_call 8; refine HL0.out.mono ?_; rintro e w1 ⟨rfl, hb1⟩; refine Hid.out ?_)
  refine Lib.hid ?_
  have hX1 := HN.out _ _ hX0 hb1
  have HFw := Lib.hid (few_any w1 p cap d (HC.out _ hX1).2 HM.out)
  clear hW0 HL0 hb1 hX0
  by_cases hfw : fewB d = true
  · rw [hfw] at HFw
    go_wp2_with (go_at_call 9; refine HFw.out.mono ?_; rintro e w2 ⟨rfl, hb2⟩; refine Hid.out ?_)
    refine Lib.hid ?_
    have hX2 := HN.out _ _ hX1 hb2
    obtain ⟨hfe, hd100, hls, hxs⟩ := few_of hfw
    have HV := Lib.hid (Visible_any d p cap root l w2 hfe (HC.out _ hX2).2 (HC.out _ hX2).1 HLm.out hr)
    have c0 := hX2.c0
    have c1 := hX2.c1
    have hn2 : w.heap.size < w2.heap.size := by have := hX2.bel.size; omega
    have HFew := Lib.hid hfe
    unfold Lab.val at HV
    clear HFw hX1 hb2 hfw hfe
    go_wp2_with (go_at_call 10; refine HV.out.mono ?_; rintro e w3 ⟨v, vs, rfl, hvl, hvis, hrow, hb3⟩; obtain ⟨sp, cp, rfl⟩ := row_form hrow; refine Hid.out ?_)
    refine Lib.hid ?_
    have hX3 := HN.out _ _ hX2 hb3
    have HI := Lib.hid (row_ints hrow)
    have HVs := Lib.hid hvis
    have hn3 : w.heap.size < w3.heap.size := by have := hX3.bel.size; omega
    clear HV c0 c1 hX2 hb3 hrow hvis hn2
    have hA1 : (w3.alloc (.cells #[.int .i64 root] 3)).ownsRow w3.heap.size 3 1 (.slice (some ⟨w3.heap.size, 0, none⟩) 1 1) 1 (icells [root]) := World.ownsRow_lit (base := w3.heap.size) (e := 3) (size := 1) w3 #[.int .i64 root] 1 (by omega) (by decide) rfl
    go_wp2
    go_loopw [8, 31] (fun ev i wr => ∃ k : Nat, k ≤ vs.length ∧ i = .int .i64 k ∧ wr.ownsRow w3.heap.size 3 1 ev (entF d root (vs.take k)).length (icells (entF d root (vs.take k))) ∧ Below w3.heap.size w3 wr) (fun _ i _ => vs.length - (intOf i).toNat)
    case atStart => exact ⟨0, Nat.zero_le _, rfl, hA1, by go_grown⟩
    case round =>
      clear hA1
      obtain ⟨k, hk, rfl, hrow, hB⟩ := hrel
      have hXr := HN.out _ _ hX3 hB
      by_cases hlt : k < vs.length
      · obtain ⟨g, og, rfl, hg, cg⟩ := HI.out k hlt
        obtain ⟨kx, hkx, hfa, hlk, hlow⟩ := vis_at HVs.out (List.getElem_mem hlt)
        obtain ⟨b, off, rfl, hbl, hat, hok⟩ := (HC.out _ hXr).2 kx hkx
        have cg' : wr.cell? ⟨g, og + k, none⟩ = some (.int .i64 vs[k]) := (hB.cell (p := ⟨g, og + k, none⟩) hg).trans cg
        have HAt := Lib.hid (OAt_any wr _ cap d vs[k] (HC.out _ hXr).2 HM.out)
        rw [atI_some hfa] at HAt
        have HT := Lib.hid (entF_snoc d root vs k hlt)
        obtain ⟨x, hx⟩ : ∃ x, vs[k] = x := ⟨_, rfl⟩
        simp only [hx] at cg' HAt HT hlk
        have hgw : g < wr.heap.size := by have := hB.size; omega
        have hki : (k : Int) < (vs.length : Int) := by omega
        have hkxi : (kx : Int) < (d.length : Int) := by omega
        have hkx0 : decide ((kx : Int) < 0) = false := by simp only [decide_eq_false_iff_not]; omega
        obtain ⟨o, hoe⟩ : ∃ o, d[kx] = o := ⟨_, rfl⟩
        rw [hoe] at hok hat hlk hlow
        have hkd : o.ls.length ≤ 100 := by rw [← hoe]; exact hls _ (List.getElem_mem _)
        have hl3 := (HC.out _ hXr).1
        have g1 : ∀ n os, (gx wr n os).cell? ⟨w.heap.size, 0, none⟩ = some (.int .i64 l.d) := fun n os => (HN.out _ _ hXr (gx_below wr n os)).c0
        have g2 : ∀ n os, (gx wr n os).cell? ⟨w.heap.size, 1, none⟩ = some (.slice l.p l.xs.length l.cap) := fun n os => (HN.out _ _ hXr (gx_below wr n os)).c1
        have HLD : Hid (∀ w', (∃ q : GrownBy, w' = gx wr q.n q.os) → (loadVar 42 ⟨b, off + kx * 38, none⟩).run Try.prog w' = .ok (.agg o.cs) w') := Lib.hid (fun w' ⟨q, hq⟩ => by subst hq; exact load_ob (hat.below (gx_below wr q.n q.os) hbl) hok.st)
        have HLO : Hid (∀ n os, Calls Try.prog 12 #[.agg #[.int .i64 l.d, .slice l.p l.xs.length l.cap], .agg o.cs] (gx wr n os) fun e w'' => e = .returned (.bool true) ∧ ∃ p : GrownBy, w'' = gx wr p.n p.os) := Lib.hid (fun n os => by
          have := calls_gx (Low_any l o (gx wr n os) (hl3.below (gx_below wr n os)) HLm.out (hok.below (gx_below wr n os)))
          rw [show lowS l o.L = true from hlow] at this; exact this)
        have hsz := Ob.size hok.st
        have hone := Ob.one (o := o)
        have k1 : o.cs[1]? = some (.int .i64 o.kind) := by rw [Ob.head _ _ (by decide)]; rfl
        have k7 : o.cs[7]? = some (.slice o.lp o.ls.length o.lc) := by rw [Ob.head _ _ (by decide)]; rfl
        have HST := Lib.hid hok.st
        obtain ⟨ocs, hocs⟩ : ∃ c, o.cs = c := ⟨_, rfl⟩
        have HOC := Lib.hid hocs
        rw [hocs] at HLD HLO hsz hone k1 k7
        have HSZ := Lib.hid hsz
        have HIN : Hid ((Try.prog.info? 42).map (·.size) = some ocs.size) := Lib.hid (by rw [hsz]; exact infoOb)
        have HOK := Lib.hid hok
        have HAT := Lib.hid hat
        have HR := Lib.hid hrow
        have HBL := Lib.hid hbl
        have HLK := Lib.hid hlk
        have HB := Lib.hid hB
        have hn3r : w.heap.size < wr.heap.size := by have := hB.size; omega
        clear hok hat hl3 hocs cg hx hoe hfa hlow hrow hlk hsz hB
        go_upto_region 11 with (go_at_call 11; refine HAt.out.mono ?_; rintro e w' ⟨rfl, hw'⟩; rw [hw']; clear hw' w')
        refine wp_region_quiet_gx (by kernel_rfl) (by kernel_rfl) ?_
        iterate 7 (go_big_quiet_step (fail))
        go_big_quiet_want
        refine quiet_load_at 42 _ ⟨b, off + kx * 38, none⟩ (.agg ocs) rfl rfl HLD.out ?_
        go_simp
        go_big_quiet_on
        repeat (go_big_quiet_step (first | (go_at_call 12; with_reducible exact HLO.out _ _)))
        refine wpQuiet_nil ?_
        intro _ hw'
        obtain ⟨⟨nq, osq⟩, hw''⟩ := hw'
        obtain ⟨W4, hW4⟩ : ∃ W4, gx wr nq osq = W4 := ⟨_, rfl⟩
        have hb4 : Below wr.heap.size wr W4 := by rw [← hW4]; exact gx_below wr nq osq
        rw [hw'']
        simp only [hW4]
        clear hw'' hW4 g1 g2 HLD HLO HAt cg'
        obtain ⟨W5, hW5, hn5, hb5⟩ := ob_laid W4 ocs
        have hzr := ob_zero W4
        have HW5 := Lib.hid hW5
        have hld : (loadVar 42 ⟨b, off + kx * 38, none⟩).run Try.prog W4 = .ok (.agg ocs) W4 := by rw [← HOC.out]; exact load_ob (HAT.out.below hb4 HBL.out) HST.out
        have hB5 : Below wr.heap.size wr W5 := hb4.trans (hb5.mono hb4.size)
        have hbW4 : b < W4.heap.size := by have := hb4.size; have := HBL.out; omega
        have c1 : W5.cell? ⟨W4.heap.size, 1, none⟩ = some (.int .i64 o.kind) := heap_cells hn5 k1
        have c7 : W5.cell? ⟨W4.heap.size, 7, none⟩ = some (.slice o.lp o.ls.length o.lc) := heap_cells hn5 k7
        have hz5 : W4.heap.size < W5.heap.size := (Array.getElem?_eq_some_iff.1 hn5).1
        have hR5 : W5.ownsRow w3.heap.size 3 1 u8 (entF d root (vs.take k)).length (icells (entF d root (vs.take k))) := row_keep HR.out (fun j hj => hB5.block j (HR.out.lt j hj).2)
        have hBw5 : Below w3.heap.size w3 W5 := HB.out.trans (hB5.mono HB.out.size)
        have hz35 : w3.heap.size ≤ W5.heap.size := hBw5.size
        have hel : (entF d root (vs.take k)).length ≤ 100000 + 1 := by
          have h1 := entF_len (root := root) hls (vs.take k)
          have h2 : (vs.take k).length ≤ 1000 := by rw [List.length_take]; omega
          omega
        obtain ⟨ev, hev⟩ : ∃ ev, u8 = ev := ⟨_, rfl⟩
        have hlsi := HOK.out.ls.below hB5
        have HEE := Lib.hid (HT.out)
        obtain ⟨E, hE⟩ : ∃ E, entF d root (vs.take k) = E := ⟨_, rfl⟩
        rw [hE] at hR5 hel HEE
        obtain ⟨en, hen⟩ : ∃ en, E.length = en := ⟨_, rfl⟩
        rw [hen] at hR5 hel
        have HEN := Lib.hid hen
        clear hev hb4 hb5 hW5 hn5 hE HT HR hB5 hen
        by_cases hkind : o.kind = 1
        · have hkind' : (o.kind == 1) = true := by simp [hkind]
          have HX := Lib.hid (entX_yes HLK.out hkind)
          clear hkind
          cases hlp : o.lp with
          | none =>
            have hls0 : o.ls = [] := by
              cases hq : o.ls with
              | nil => rfl
              | cons a r =>
                obtain ⟨b2, off2, hp2, _⟩ := hlsi 0 (by rw [hq]; simp)
                rw [hlp] at hp2; cases hp2
            have hlc0 := HOK.out.nils.2.1 hlp
            rw [hlp, hls0, hlc0] at c7
            simp only [List.length_nil] at c7
            have HX0 := Lib.hid (HX.out.trans hls0)
            have HBw := Lib.hid hBw5
            clear hlsi hls0 hlc0 HX hlp hBw5
            go_wp2_with (first
              | (refine wpList_load_at rfl 42 _ rfl ⟨b, off + kx * 38, none⟩ rfl (.agg ocs) hld ?_)
              | (refine wpList_store_row rfl 42 _ _ rfl W4.heap.size ocs rfl rfl 42 _ hzr HIN.out (by rw [HSZ.out]; rfl) hone ?_; rw [HW5.out])
              | (at_builtin; refine wpList_append_own_none rfl _ _ 28 rfl w3.heap.size 3 i0 1 Try.underlying28 hi u8 _ _ rfl hR5 rfl ?_))
            go_roundw
            case rel => exact ⟨k + 1, by omega, by go_num, by rw [HEE.out, HX0.out, List.append_nil, HEN.out]; exact hR5, HBw.out⟩
            case measure => simp [intOf]; omega
          | some ad =>
            rw [hlp] at c7 hlsi
            have HNc : Hid (∀ j u, (icells o.ls)[j]? = some u → W5.cell? (ad.add j) = some u) := Lib.hid (fun j u hu => by
              obtain ⟨hj, rfl⟩ := icells_get hu
              obtain ⟨b2, off2, hp2, _, hc2⟩ := hlsi j hj
              cases hp2
              rw [addr_plus]; exact hc2)
            have h63 : en + o.ls.length ≤ maxLen := by unfold maxLen; omega
            have hby : (en + o.ls.length) * 8 ≤ 140737488355328 := by omega
            have hll : (icells o.ls).length = o.ls.length * 1 := by simp [icells]
            obtain ⟨q, hq⟩ : ∃ q, o.ls.length = q := ⟨_, rfl⟩
            rw [hq] at c7 h63 hby hll
            have HQ := Lib.hid hq
            have HBw := Lib.hid hBw5
            clear hq hlsi hlp hBw5
            go_wp2_with (first
              | (refine wpList_load_at rfl 42 _ rfl ⟨b, off + kx * 38, none⟩ rfl (.agg ocs) hld ?_)
              | (refine wpList_store_row rfl 42 _ _ rfl W4.heap.size ocs rfl rfl 42 _ hzr HIN.out (by rw [HSZ.out]; rfl) hone ?_; rw [HW5.out])
              | (at_builtin; refine wpList_append_own _ rfl _ _ 28 rfl w3.heap.size 3 i0 (.int .i64 0) 1 8 Try.underlying28 hi hz0 hz1 hz2 rfl (by decide) u8 _ _ rfl hR5 ad q o.lc (icells o.ls) rfl hll HNc.out (icells_one _) h63 hby hz35 ?_; intro v7 w7 hown7 hgrow7 hnil7; refine Hid.out ?_))
            refine Lib.hid ?_
            have hB7 : Below w3.heap.size w3 w7 := Below.grown HBw.out hgrow7 hz35 (fun j hj => (hR5.lt j hj).1)
            have HR7 : Hid (w7.ownsRow w3.heap.size 3 1 v7 (entF d root (vs.take (k + 1))).length (icells (entF d root (vs.take (k + 1))))) := Lib.hid (by rw [HEE.out, HX.out, List.length_append, icells_append, HEN.out, HQ.out]; exact hown7)
            clear hown7 hgrow7 hnil7 hR5
            go_wp2
            go_roundw
            case rel => exact ⟨k + 1, by omega, by go_num, HR7.out, hB7⟩
            case measure => simp [intOf]; omega
        · have hkind' : (o.kind == 1) = false := by simp [hkind]
          have HX := Lib.hid (entX_no HLK.out hkind)
          clear hkind
          go_wp2_with (first
            | (refine wpList_load_at rfl 42 _ rfl ⟨b, off + kx * 38, none⟩ rfl (.agg ocs) hld ?_)
            | (refine wpList_store_row rfl 42 _ _ rfl W4.heap.size ocs rfl rfl 42 _ hzr HIN.out (by rw [HSZ.out]; rfl) hone ?_; rw [HW5.out]))
          go_roundw
          case rel => exact ⟨k + 1, by omega, by go_num, by rw [HEE.out, HX.out, List.append_nil, HEN.out]; exact hR5, hBw5⟩
          case measure => simp [intOf]; omega
      · obtain rfl : k = vs.length := by omega
        have hkk : ¬ (vs.length : Int) < (vs.length : Int) := by omega
        rw [List.take_length] at hrow
        have hev : ∀ x ∈ vs, inB (entF d root vs) x = true := fun x hx => inB_iff.2 (vis_in HVs.out hx)
        have hel : (entF d root vs).length ≤ 100000 + 1 := by have h1 := entF_len (root := root) hls vs; omega
        have hEV : ∀ x ∈ entF d root vs, ∀ kx, firstAt d x = some kx → (∀ hk : kx < d.length, lowB l d[kx] = true) → (x = root → vs ≠ []) → inB vs x = true := fun x hx kx hf hl hn => inB_iff.2 (ent_vis HVs.out hx hf hl hn)
        have hE0 : ∀ k (hk : k < (entF d root vs).length), vs = [] → k = 0 := fun k hk hv => by subst hv; simp [entF] at hk; exact hk
        have hER : (entF d root vs)[0]? = some root := by simp [entF]
        obtain ⟨E, hE⟩ : ∃ E, entF d root vs = E := ⟨_, rfl⟩
        rw [hE] at hrow hel
        rw [hE] at hev hEV hE0 hER
        obtain ⟨ep, ec, rfl⟩ := row_form hrow
        have HE := Lib.hid (row_ints hrow)
        have HEV := Lib.hid hev
        have HEN := Lib.hid hEV
        have HE0 := Lib.hid hE0
        have HER := Lib.hid hER
        have hEm : E.length ≤ maxLen := by unfold maxLen; omega
        obtain ⟨wo, hwo⟩ : ∃ wo, wo = wr := ⟨_, rfl⟩
        rw [← hwo] at hXr HE hB ⊢
        have HW3 := Lib.hid hB
        clear hrow hB hev hEV hE0 hER hE hwo wr
        go_wp2
        go_loopw [64] (fun i wr => ∃ k : Nat, k ≤ vs.length ∧ i = .int .i64 k ∧ wr = wo) (fun i _ => vs.length - (intOf i).toNat)
        case atStart => exact ⟨0, Nat.zero_le _, rfl, rfl⟩
        case round =>
          obtain ⟨k, hk, rfl, hwr⟩ := hrel
          rw [hwr]
          clear hwr wr
          by_cases hlt : k < vs.length
          · obtain ⟨g, og, rfl, hg, cg⟩ := (HI.out.below (HW3.out)) k hlt
            have HIn := Lib.hid (In_any wo ep ec E vs[k] HE.out hEm)
            rw [HEV.out _ (List.getElem_mem hlt)] at HIn
            have hki : (k : Int) < (vs.length : Int) := by omega
            obtain ⟨x, hx⟩ : ∃ x, vs[k] = x := ⟨_, rfl⟩
            rw [hx] at cg HIn
            clear hx
            go_wp2_with (go_at_call 13; refine HIn.out.mono ?_; rintro e w' ⟨rfl, hw'⟩; rw [hw']; clear hw' w')
            go_roundw
            case rel => exact ⟨k + 1, by omega, by go_num, trivial⟩
            case measure => simp [intOf]; omega
          · obtain rfl : k = vs.length := by omega
            have hkk : ¬ (vs.length : Int) < (vs.length : Int) := by omega
            have c0 := hXr.c0
            have c1 := hXr.c1
            have hnw : w.heap.size < wo.heap.size := by have := hXr.bel.size; omega
            have HF := Lib.hid (refFree_any l.d l.p l.cap l.xs wo HLm.out (HC.out _ hXr).1)
            by_cases hf : freeS l.d l.xs = true
            · rw [hf] at HF
              go_wp2_with (go_at_call 14; refine HF.out.mono ?_; rintro e w6 ⟨rfl, hb6⟩; refine Hid.out ?_)
              refine Lib.hid ?_
              have hX6 := HN.out _ _ hXr hb6
              have HE6 := Lib.hid (HE.out.below hb6)
              have HI6 := Lib.hid ((HI.out.below HW3.out).below hb6)
              clear HF c0 c1 hnw hb6 HE HI HEV HW3 hXr hX3
              go_wp2
              go_loopw [81] (fun i wr => ∃ k : Nat, k ≤ E.length ∧ i = .int .i64 k ∧ Below w6.heap.size w6 wr) (fun i _ => E.length - (intOf i).toNat)
              case atStart => exact ⟨0, Nat.zero_le _, rfl, Below.refl _ _⟩
              case round =>
                obtain ⟨k, hk, rfl, hB⟩ := hrel
                have hXr := HN.out _ _ hX6 hB
                by_cases hlt : k < E.length
                · obtain ⟨g, og, rfl, hg, cg⟩ := (HE6.out.below hB) k hlt
                  have HAt := Lib.hid (OAt_any wr p cap d E[k] (HC.out _ hXr).2 HM.out)
                  have hki : (k : Int) < (E.length : Int) := by omega
                  have hvm : vs.length ≤ maxLen := by unfold maxLen; omega
                  have HXM := Lib.hid (List.getElem_mem hlt)
                  have hEk : E[k]? = some E[k] := List.getElem?_eq_getElem hlt
                  have HK0 := Lib.hid (fun hv => HE0.out k hlt hv)
                  obtain ⟨x, hx⟩ : ∃ x, E[k] = x := ⟨_, rfl⟩
                  rw [hx] at cg HAt hEk HXM
                  have HB := Lib.hid hB
                  have HEk := Lib.hid hEk
                  clear hx hB hEk
                  by_cases hbrk : k = 0 ∧ vs = []
                  · obtain ⟨hk0, hv0⟩ := hbrk
                    have b1 : ((k : Int) == 0) = true := by rw [hk0]; rfl
                    have b2 : ((vs.length : Int) == 0) = true := by rw [hv0]; rfl
                    have HX := Lib.hid (HBe.out _ hXr)
                    clear hk0 hv0
                    obtain ⟨ax, hax⟩ : ∃ ax, atI d x = ax := ⟨_, rfl⟩
                    rw [hax] at HAt
                    clear hax
                    go_wp2_with (go_at_call 11; refine HAt.out.mono ?_; rintro e w' ⟨rfl, hw'⟩; rw [hw']; clear hw' w')
                    go_ret
                    exact ⟨rfl, HX.out⟩
                  · by_cases hk0 : k = 0
                    · have hv0 : vs ≠ [] := fun e => hbrk ⟨hk0, e⟩
                      have HNE : Hid (x = root → vs ≠ []) := Lib.hid (fun _ => hv0)
                      have b1 : ((k : Int) == 0) = true := by rw [hk0]; rfl
                      have b2 : ((vs.length : Int) == 0) = false := by simpa using hv0
                      clear hbrk hk0 hv0
                      cases hfa : firstAt d x with
                      | none =>
                        rw [atI_none hfa] at HAt
                        have hm1 : decide ((-1 : Int) ≥ 0) = false := by decide
                        have HPl := Lib.hid True.intro
                        have HLo := Lib.hid True.intro
                        have HIn := Lib.hid True.intro
                        go_upto_region 30 with (go_at_call 11; refine HAt.out.mono ?_; rintro e w' ⟨rfl, hw'⟩; rw [hw']; clear hw' w')
                        refine wp_region_quiet_gx (by kernel_rfl) (by kernel_rfl) ?_
                        repeat (go_big_quiet_step (fail))
                        refine wpQuiet_nil ?_
                        intro _ hw'
                        obtain ⟨⟨nq, osq⟩, hw''⟩ := hw'
                        have hbg : Below wr.heap.size wr (gx wr nq osq) := gx_below wr nq osq
                        rw [hw'']
                        clear hw''
                        go_wp2
                        go_roundw
                        case rel => exact ⟨k + 1, by omega, by go_num, HB.out.trans (hbg.mono HB.out.size)⟩
                        case measure => simp [intOf]; omega
                      | some kx =>
                        rw [atI_some hfa] at HAt
                        obtain ⟨hkx, hlk, _⟩ := firstAt_lk hfa
                        obtain ⟨b, off, rfl, hbl, hat, hok⟩ := (HC.out _ hXr).2 kx hkx
                        have hkxi : (kx : Int) < (d.length : Int) := by omega
                        have hkx0 : decide ((kx : Int) ≥ 0) = true := by simp
                        have hIN : lowB l d[kx] = true → inB vs x = true := fun hlo => HEN.out x HXM.out kx hfa (fun _ => hlo) HNE.out
                        obtain ⟨o, hoe⟩ : ∃ o, d[kx] = o := ⟨_, rfl⟩
                        rw [hoe] at hok hat hIN
                        have hl3 := (HC.out _ hXr).1
                        have hn3r : w.heap.size < wr.heap.size := by have := hXr.bel.size; omega
                        have g1 : ∀ n os, (gx wr n os).cell? ⟨w.heap.size, 0, none⟩ = some (.int .i64 l.d) := fun n os => (HN.out _ _ hXr (gx_below wr n os)).c0
                        have g2 : ∀ n os, (gx wr n os).cell? ⟨w.heap.size, 1, none⟩ = some (.slice l.p l.xs.length l.cap) := fun n os => (HN.out _ _ hXr (gx_below wr n os)).c1
                        have g5 : ∀ n os, (gx wr n os).cell? ⟨b, off + kx * 38 + 5, none⟩ = some (.int .i64 o.L.d) := fun n os => (hat.below (gx_below wr n os) hbl) 5 _ (by rw [Ob.head _ _ (by decide)]; rfl)
                        have g6 : ∀ n os, (gx wr n os).cell? ⟨b, off + kx * 38 + 6, none⟩ = some (.slice o.L.p o.L.xs.length o.L.cap) := fun n os => (hat.below (gx_below wr n os) hbl) 6 _ (by rw [Ob.head _ _ (by decide)]; rfl)
                        have HLD : Hid (∀ w', (∃ q : GrownBy, w' = gx wr q.n q.os) → (loadVar 42 ⟨b, off + kx * 38, none⟩).run Try.prog w' = .ok (.agg o.cs) w') := Lib.hid (fun w' ⟨q, hq⟩ => by subst hq; exact load_ob (hat.below (gx_below wr q.n q.os) hbl) hok.st)
                        have HLo : Hid (∀ n os, Calls Try.prog 12 #[.agg #[.int .i64 l.d, .slice l.p l.xs.length l.cap], .agg o.cs] (gx wr n os) fun e w'' => e = .returned (.bool (lowB l o)) ∧ ∃ p : GrownBy, w'' = gx wr p.n p.os) := Lib.hid (fun n os => calls_gx (Low_any l o (gx wr n os) (hl3.below (gx_below wr n os)) HLm.out (hok.below (gx_below wr n os))))
                        have HPl : Hid (∀ n os, Calls Try.prog 15 #[.agg #[.int .i64 o.L.d, .slice o.L.p o.L.xs.length o.L.cap]] (gx wr n os) fun e w'' => e = .returned (.bool (plainS o.L.d o.L.xs)) ∧ ∃ p : GrownBy, w'' = gx wr p.n p.os) := Lib.hid (fun n os => calls_gx (refPlain_any o.L.d o.L.p o.L.cap o.L.xs (gx wr n os) hok.Lm (hok.L.below (gx_below wr n os))))
                        have HIn : Hid (∀ n os, Calls Try.prog 13 #[.slice sp vs.length cp, .int .i64 x] (gx wr n os) fun e w'' => e = .returned (.bool (inB vs x)) ∧ ∃ p : GrownBy, w'' = gx wr p.n p.os) := Lib.hid (fun n os => calls_gx ((In_any (gx wr n os) sp cp vs x ((HI6.out.below HB.out).below (gx_below wr n os)) hvm).mono fun e w'' hh => ⟨hh.1, by rw [hh.2]; exact Below.refl _ _⟩))
                        obtain ⟨ocs, hocs⟩ : ∃ c, o.cs = c := ⟨_, rfl⟩
                        rw [hocs] at HLD HLo
                        obtain ⟨bl, hbl'⟩ : ∃ bl, lowB l o = bl := ⟨_, rfl⟩
                        obtain ⟨bp, hbp⟩ : ∃ bp, plainS o.L.d o.L.xs = bp := ⟨_, rfl⟩
                        rw [hbl'] at HLo hIN
                        rw [hbp] at HPl
                        have HIN := Lib.hid hIN
                        clear hIN hbp hbl' hocs hok hat hl3 hlk hfa hoe
                        cases bp with
                        | false =>
                          go_upto_region 30 with (go_at_call 11; refine HAt.out.mono ?_; rintro e w' ⟨rfl, hw'⟩; rw [hw']; clear hw' w')
                          refine wp_region_quiet_gx (by kernel_rfl) (by kernel_rfl) ?_
                          repeat (go_big_quiet_step (first | (go_at_call 15; with_reducible exact HPl.out _ _) | (go_at_call 12; with_reducible exact HLo.out _ _) | (go_at_call 13; with_reducible exact HIn.out _ _)))
                          refine wpQuiet_nil ?_
                          intro _ hw'
                          obtain ⟨⟨nq, osq⟩, hw''⟩ := hw'
                          have hbg : Below wr.heap.size wr (gx wr nq osq) := gx_below wr nq osq
                          rw [hw'']
                          clear hw''
                          go_wp2
                          go_roundw
                          case rel => exact ⟨k + 1, by omega, by go_num, HB.out.trans (hbg.mono HB.out.size)⟩
                          case measure => simp [intOf]; omega
                        | true =>
                          cases bl with
                          | false =>
                            go_upto_region 30 with (go_at_call 11; refine HAt.out.mono ?_; rintro e w' ⟨rfl, hw'⟩; rw [hw']; clear hw' w')
                            refine wp_region_quiet_gx (by kernel_rfl) (by kernel_rfl) ?_
                            iterate 16 (go_big_quiet_step (first | (go_at_call 15; with_reducible exact HPl.out _ _) | (go_at_call 12; with_reducible exact HLo.out _ _) | (go_at_call 13; with_reducible exact HIn.out _ _)))
                            go_big_quiet_want
                            refine quiet_load_at 42 _ ⟨b, off + kx * 38, none⟩ (.agg ocs) rfl rfl HLD.out ?_
                            go_simp
                            go_big_quiet_on
                            repeat (go_big_quiet_step (first | (go_at_call 15; with_reducible exact HPl.out _ _) | (go_at_call 12; with_reducible exact HLo.out _ _) | (go_at_call 13; with_reducible exact HIn.out _ _)))
                            refine wpQuiet_nil ?_
                            intro _ hw'
                            obtain ⟨⟨nq, osq⟩, hw''⟩ := hw'
                            have hbg : Below wr.heap.size wr (gx wr nq osq) := gx_below wr nq osq
                            rw [hw'']
                            clear hw''
                            go_wp2
                            go_roundw
                            case rel => exact ⟨k + 1, by omega, by go_num, HB.out.trans (hbg.mono HB.out.size)⟩
                            case measure => simp [intOf]; omega
                          | true =>
                            rw [HIN.out rfl] at HIn
                            go_upto_region 30 with (go_at_call 11; refine HAt.out.mono ?_; rintro e w' ⟨rfl, hw'⟩; rw [hw']; clear hw' w')
                            refine wp_region_quiet_gx (by kernel_rfl) (by kernel_rfl) ?_
                            iterate 16 (go_big_quiet_step (first | (go_at_call 15; with_reducible exact HPl.out _ _) | (go_at_call 12; with_reducible exact HLo.out _ _) | (go_at_call 13; with_reducible exact HIn.out _ _)))
                            go_big_quiet_want
                            refine quiet_load_at 42 _ ⟨b, off + kx * 38, none⟩ (.agg ocs) rfl rfl HLD.out ?_
                            go_simp
                            go_big_quiet_on
                            repeat (go_big_quiet_step (first | (go_at_call 15; with_reducible exact HPl.out _ _) | (go_at_call 12; with_reducible exact HLo.out _ _) | (go_at_call 13; with_reducible exact HIn.out _ _)))
                            refine wpQuiet_nil ?_
                            intro _ hw'
                            obtain ⟨⟨nq, osq⟩, hw''⟩ := hw'
                            have hbg : Below wr.heap.size wr (gx wr nq osq) := gx_below wr nq osq
                            rw [hw'']
                            clear hw''
                            go_wp2
                            go_roundw
                            case rel => exact ⟨k + 1, by omega, by go_num, HB.out.trans (hbg.mono HB.out.size)⟩
                            case measure => simp [intOf]; omega
                    · have HNE : Hid (x = root → vs ≠ []) := Lib.hid (fun _ hv => hk0 (HK0.out hv))
                      have b1 : ((k : Int) == 0) = false := by simp; omega
                      clear hbrk hk0
                      cases hfa : firstAt d x with
                      | none =>
                        rw [atI_none hfa] at HAt
                        have hm1 : decide ((-1 : Int) ≥ 0) = false := by decide
                        have HPl := Lib.hid True.intro
                        have HLo := Lib.hid True.intro
                        have HIn := Lib.hid True.intro
                        go_upto_region 30 with (go_at_call 11; refine HAt.out.mono ?_; rintro e w' ⟨rfl, hw'⟩; rw [hw']; clear hw' w')
                        refine wp_region_quiet_gx (by kernel_rfl) (by kernel_rfl) ?_
                        repeat (go_big_quiet_step (fail))
                        refine wpQuiet_nil ?_
                        intro _ hw'
                        obtain ⟨⟨nq, osq⟩, hw''⟩ := hw'
                        have hbg : Below wr.heap.size wr (gx wr nq osq) := gx_below wr nq osq
                        rw [hw'']
                        clear hw''
                        go_wp2
                        go_roundw
                        case rel => exact ⟨k + 1, by omega, by go_num, HB.out.trans (hbg.mono HB.out.size)⟩
                        case measure => simp [intOf]; omega
                      | some kx =>
                        rw [atI_some hfa] at HAt
                        obtain ⟨hkx, hlk, _⟩ := firstAt_lk hfa
                        obtain ⟨b, off, rfl, hbl, hat, hok⟩ := (HC.out _ hXr).2 kx hkx
                        have hkxi : (kx : Int) < (d.length : Int) := by omega
                        have hkx0 : decide ((kx : Int) ≥ 0) = true := by simp
                        have hIN : lowB l d[kx] = true → inB vs x = true := fun hlo => HEN.out x HXM.out kx hfa (fun _ => hlo) HNE.out
                        obtain ⟨o, hoe⟩ : ∃ o, d[kx] = o := ⟨_, rfl⟩
                        rw [hoe] at hok hat hIN
                        have hl3 := (HC.out _ hXr).1
                        have hn3r : w.heap.size < wr.heap.size := by have := hXr.bel.size; omega
                        have g1 : ∀ n os, (gx wr n os).cell? ⟨w.heap.size, 0, none⟩ = some (.int .i64 l.d) := fun n os => (HN.out _ _ hXr (gx_below wr n os)).c0
                        have g2 : ∀ n os, (gx wr n os).cell? ⟨w.heap.size, 1, none⟩ = some (.slice l.p l.xs.length l.cap) := fun n os => (HN.out _ _ hXr (gx_below wr n os)).c1
                        have g5 : ∀ n os, (gx wr n os).cell? ⟨b, off + kx * 38 + 5, none⟩ = some (.int .i64 o.L.d) := fun n os => (hat.below (gx_below wr n os) hbl) 5 _ (by rw [Ob.head _ _ (by decide)]; rfl)
                        have g6 : ∀ n os, (gx wr n os).cell? ⟨b, off + kx * 38 + 6, none⟩ = some (.slice o.L.p o.L.xs.length o.L.cap) := fun n os => (hat.below (gx_below wr n os) hbl) 6 _ (by rw [Ob.head _ _ (by decide)]; rfl)
                        have HLD : Hid (∀ w', (∃ q : GrownBy, w' = gx wr q.n q.os) → (loadVar 42 ⟨b, off + kx * 38, none⟩).run Try.prog w' = .ok (.agg o.cs) w') := Lib.hid (fun w' ⟨q, hq⟩ => by subst hq; exact load_ob (hat.below (gx_below wr q.n q.os) hbl) hok.st)
                        have HLo : Hid (∀ n os, Calls Try.prog 12 #[.agg #[.int .i64 l.d, .slice l.p l.xs.length l.cap], .agg o.cs] (gx wr n os) fun e w'' => e = .returned (.bool (lowB l o)) ∧ ∃ p : GrownBy, w'' = gx wr p.n p.os) := Lib.hid (fun n os => calls_gx (Low_any l o (gx wr n os) (hl3.below (gx_below wr n os)) HLm.out (hok.below (gx_below wr n os))))
                        have HPl : Hid (∀ n os, Calls Try.prog 15 #[.agg #[.int .i64 o.L.d, .slice o.L.p o.L.xs.length o.L.cap]] (gx wr n os) fun e w'' => e = .returned (.bool (plainS o.L.d o.L.xs)) ∧ ∃ p : GrownBy, w'' = gx wr p.n p.os) := Lib.hid (fun n os => calls_gx (refPlain_any o.L.d o.L.p o.L.cap o.L.xs (gx wr n os) hok.Lm (hok.L.below (gx_below wr n os))))
                        have HIn : Hid (∀ n os, Calls Try.prog 13 #[.slice sp vs.length cp, .int .i64 x] (gx wr n os) fun e w'' => e = .returned (.bool (inB vs x)) ∧ ∃ p : GrownBy, w'' = gx wr p.n p.os) := Lib.hid (fun n os => calls_gx ((In_any (gx wr n os) sp cp vs x ((HI6.out.below HB.out).below (gx_below wr n os)) hvm).mono fun e w'' hh => ⟨hh.1, by rw [hh.2]; exact Below.refl _ _⟩))
                        obtain ⟨ocs, hocs⟩ : ∃ c, o.cs = c := ⟨_, rfl⟩
                        rw [hocs] at HLD HLo
                        obtain ⟨bl, hbl'⟩ : ∃ bl, lowB l o = bl := ⟨_, rfl⟩
                        obtain ⟨bp, hbp⟩ : ∃ bp, plainS o.L.d o.L.xs = bp := ⟨_, rfl⟩
                        rw [hbl'] at HLo hIN
                        rw [hbp] at HPl
                        have HIN := Lib.hid hIN
                        clear hIN hbp hbl' hocs hok hat hl3 hlk hfa hoe
                        cases bp with
                        | false =>
                          go_upto_region 30 with (go_at_call 11; refine HAt.out.mono ?_; rintro e w' ⟨rfl, hw'⟩; rw [hw']; clear hw' w')
                          refine wp_region_quiet_gx (by kernel_rfl) (by kernel_rfl) ?_
                          repeat (go_big_quiet_step (first | (go_at_call 15; with_reducible exact HPl.out _ _) | (go_at_call 12; with_reducible exact HLo.out _ _) | (go_at_call 13; with_reducible exact HIn.out _ _)))
                          refine wpQuiet_nil ?_
                          intro _ hw'
                          obtain ⟨⟨nq, osq⟩, hw''⟩ := hw'
                          have hbg : Below wr.heap.size wr (gx wr nq osq) := gx_below wr nq osq
                          rw [hw'']
                          clear hw''
                          go_wp2
                          go_roundw
                          case rel => exact ⟨k + 1, by omega, by go_num, HB.out.trans (hbg.mono HB.out.size)⟩
                          case measure => simp [intOf]; omega
                        | true =>
                          cases bl with
                          | false =>
                            go_upto_region 30 with (go_at_call 11; refine HAt.out.mono ?_; rintro e w' ⟨rfl, hw'⟩; rw [hw']; clear hw' w')
                            refine wp_region_quiet_gx (by kernel_rfl) (by kernel_rfl) ?_
                            iterate 16 (go_big_quiet_step (first | (go_at_call 15; with_reducible exact HPl.out _ _) | (go_at_call 12; with_reducible exact HLo.out _ _) | (go_at_call 13; with_reducible exact HIn.out _ _)))
                            go_big_quiet_want
                            refine quiet_load_at 42 _ ⟨b, off + kx * 38, none⟩ (.agg ocs) rfl rfl HLD.out ?_
                            go_simp
                            go_big_quiet_on
                            repeat (go_big_quiet_step (first | (go_at_call 15; with_reducible exact HPl.out _ _) | (go_at_call 12; with_reducible exact HLo.out _ _) | (go_at_call 13; with_reducible exact HIn.out _ _)))
                            refine wpQuiet_nil ?_
                            intro _ hw'
                            obtain ⟨⟨nq, osq⟩, hw''⟩ := hw'
                            have hbg : Below wr.heap.size wr (gx wr nq osq) := gx_below wr nq osq
                            rw [hw'']
                            clear hw''
                            go_wp2
                            go_roundw
                            case rel => exact ⟨k + 1, by omega, by go_num, HB.out.trans (hbg.mono HB.out.size)⟩
                            case measure => simp [intOf]; omega
                          | true =>
                            rw [HIN.out rfl] at HIn
                            go_upto_region 30 with (go_at_call 11; refine HAt.out.mono ?_; rintro e w' ⟨rfl, hw'⟩; rw [hw']; clear hw' w')
                            refine wp_region_quiet_gx (by kernel_rfl) (by kernel_rfl) ?_
                            iterate 16 (go_big_quiet_step (first | (go_at_call 15; with_reducible exact HPl.out _ _) | (go_at_call 12; with_reducible exact HLo.out _ _) | (go_at_call 13; with_reducible exact HIn.out _ _)))
                            go_big_quiet_want
                            refine quiet_load_at 42 _ ⟨b, off + kx * 38, none⟩ (.agg ocs) rfl rfl HLD.out ?_
                            go_simp
                            go_big_quiet_on
                            repeat (go_big_quiet_step (first | (go_at_call 15; with_reducible exact HPl.out _ _) | (go_at_call 12; with_reducible exact HLo.out _ _) | (go_at_call 13; with_reducible exact HIn.out _ _)))
                            refine wpQuiet_nil ?_
                            intro _ hw'
                            obtain ⟨⟨nq, osq⟩, hw''⟩ := hw'
                            have hbg : Below wr.heap.size wr (gx wr nq osq) := gx_below wr nq osq
                            rw [hw'']
                            clear hw''
                            go_wp2
                            go_roundw
                            case rel => exact ⟨k + 1, by omega, by go_num, HB.out.trans (hbg.mono HB.out.size)⟩
                            case measure => simp [intOf]; omega
                · obtain rfl : k = E.length := by omega
                  have hkk : ¬ (E.length : Int) < (E.length : Int) := by omega
                  go_wp2
                  go_ret
                  exact ⟨rfl, HBe.out _ hXr⟩
            · have hf' : freeS l.d l.xs = false := by simpa using hf
              rw [hf'] at HF
              have hv0 := vis_unfree HVs.out hf'
              have hv1 : ((vs.length : Int) == 0) = true := by rw [hv0]; rfl
              have HX := Lib.hid (fun Y hb => HBe.out _ (HN.out _ Y hXr hb))
              clear hv0 hf hf'
              go_wp2_with (go_at_call 14; refine HF.out.mono ?_; rintro e w6 ⟨rfl, hb6⟩)
              go_ret
              exact ⟨rfl, HX.out _ hb6⟩
  · have hfw' : fewB d = false := by simpa using hfw
    rw [hfw'] at HFw
    go_wp2_with (go_at_call 9; refine HFw.out.mono ?_; rintro e w2 ⟨rfl, hb2⟩)
    go_ret
    exact ⟨rfl, HBe.out _ (HN.out _ _ hX1 hb2)⟩
end Go.Proofs.Ytonhdkldacghoaa
