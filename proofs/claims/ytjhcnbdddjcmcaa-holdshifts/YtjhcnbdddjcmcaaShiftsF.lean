/- HoldShifts answers true, where the first quota is the lesser. -/
import Derived.Test.YtjhcnbdddjcmcaaShiftsBase
namespace Go.Proofs.Ytjhcnbdddjcmcaa
open Go.RowKit Go.Sort
set_option maxRecDepth 100000 in
set_option maxHeartbeats 8000000 in
theorem HoldShifts_first (n1 n2 : Int) (m1 m2 : Nat) (hm1 : m1 < 1000) (hm2 : m2 < 1000) (hv1' : wrap64 ((IntKind.u64.wrap n1).tmod 1000) = (m1 : Int)) (hv2' : wrap64 ((IntKind.u64.wrap n2).tmod 1000) = (m2 : Int)) (hfg0 : ¬ m2 < m1) (p : Option Addr) (cap : Nat) (xs : List Int) (w : World) (hp : IntsAt w p xs) (hr : ∀ x ∈ xs, i64 x) :
    Calls Try.prog 8 #[.int .i64 n1, .int .i64 n2, .slice p xs.length cap] w fun e w' => e = .returned (.bool true) ∧ Below w.heap.size w w' := by
  have HL := Lib.hid (lives_any w)
  have HP := Lib.hid plain_any
  have HN := Lib.hid (fun W => New_any 1 2 none 0 [] W (by simp) (cats0 W) (by decide) (by decide))
  go_enter Try.func8, Try.ntmps8
  go_wp2_with (first
    | (go_at_call 9; refine HL.out.mono ?_; rintro e w0 ⟨rfl, hb0⟩)
    | (go_at_call 29; refine (HP.out _).mono ?_; rintro e w1 ⟨rfl, hb1⟩)
    | (go_at_call 10; refine (HN.out _).mono ?_; rintro e w2 ⟨tb, mb, D, r, rfl, hA2, hr2, hz2, hb2⟩; refine Hid.out ?_))
  refine Lib.hid ?_
  have B1 := hb0.trans (hb1.mono hb0.size)
  have B2 : Below w.heap.size w w2 := B1.trans (hb2.mono B1.size)
  have hbase : w.heap.size ≤ w1.heap.size := B1.size
  clear hb1 hb2 HN B1 hb0 HL
  generalize w1.heap.size = base at hA2 hbase
  go_wp2_with (first
    | (go_at_call 29; refine (HP.out _).mono ?_; rintro e w3 ⟨rfl, hb3⟩; refine Hid.out ?_))
  refine Lib.hid ?_
  have B3 := B2.trans (hb3.mono B2.size)
  have hA3 := hA2.below hb3
  obtain ⟨f, hf⟩ : ∃ f : Int, 1 + (m1 : Int) = f := ⟨_, rfl⟩
  obtain ⟨g, hg⟩ : ∃ g : Int, 1 + (m2 : Int) = g := ⟨_, rfl⟩
  have hfb : 1 ≤ f ∧ f ≤ 1000 := by omega
  have hgb : 1 ≤ g ∧ g ≤ 1000 := by omega
  rw [hf, hg]
  have hfg : ¬ g < f := by omega
  clear hf hg hv1' hv2' hm1 hm2 hfg0
  have HM := Lib.hid (Make_ok hA3 1 5 1 f 2 none 0 [] r (by simp) (cats0 _) (by unfold i64; omega) (by unfold T0; rw [if_pos rfl]) (by rw [hr2]; rfl) (by omega) (by omega) (by decide) (by decide) (by unfold T0; rw [if_neg (by decide)]) (by omega) (by rw [hr2]; show f ≤ 1099511627776 - 0; omega) (by rw [hr2]; decide) (by rw [hr2]; decide) (by rw [hr2]; decide))
  go_wp2_with (first
    | (go_at_call 21; refine HM.out.mono ?_; rintro e w4 ⟨rfl, D4, r4, s4, hA4, hr4, hs4, hz4, hF4⟩; refine Hid.out ?_))
  refine Lib.hid ?_
  have B4 := B3.trans ((hA3.belowF hF4).mono hbase)
  rw [hr2] at hr4
  obtain ⟨T4, hT4⟩ : ∃ T4, upd (upd (T0 1 r) 1 r4) 5 s4 = T4 := ⟨_, rfl⟩
  rw [hT4] at hA4
  have t41 : T4 1 = some r4 := by rw [← hT4]; unfold upd; rw [if_neg (by decide), if_pos rfl]
  have t45 : T4 5 = some s4 := by rw [← hT4]; unfold upd; rw [if_pos rfl]
  have t47 : T4 7 = none := by rw [← hT4]; unfold upd; rw [if_neg (by decide), if_neg (by decide)]; unfold T0; rw [if_neg (by decide)]
  clear HM hA2 hA3 hF4 hT4 hb3
  have hcb : 1 ≤ f ∧ f ≤ f := by omega
  have hfg2 : f ≤ g := by omega
  go_wp2_with (first
    | (go_at_call 29; refine (HP.out _).mono ?_; rintro e w5 ⟨rfl, hb5⟩; refine Hid.out ?_))
  refine Lib.hid ?_
  have B5 := B4.trans (hb5.mono B4.size)
  have hA5 := hA4.below hb5
  have HM := Lib.hid (Make_ok hA5 5 7 1 f 2 none 0 [] s4 (by simp) (cats0 _) (by unfold i64; omega) t45 (by rw [hs4]; rfl) (by omega) (by omega) (by decide) (by decide) t47 (by omega) (by rw [hs4]; show f ≤ f - 0; omega) (by rw [hs4]; show (0 : Int) ≤ 0; omega) (by rw [hs4]; show f ≤ 1099511627776; omega) (by rw [hs4]; show (0 : Nat) < 1000000; omega))
  go_wp2_with (first
    | (go_at_call 21; refine HM.out.mono ?_; rintro e w6 ⟨rfl, D6, s6, u6, hA6, hs6, hu6, hz6, hF6⟩; refine Hid.out ?_))
  refine Lib.hid ?_
  have B6 := B5.trans ((hA5.belowF hF6).mono hbase)
  rw [hs4] at hs6
  obtain ⟨T6, hT6⟩ : ∃ T6, upd (upd T4 5 s6) 7 u6 = T6 := ⟨_, rfl⟩
  rw [hT6] at hA6
  have h3 : Three T6 f f r4 s6 u6 := by
    refine ⟨?_, ?_, ?_, ?_, ?_, ?_⟩
    · rw [← hT6]; unfold upd; rw [if_neg (by decide), if_neg (by decide)]; exact t41
    · rw [← hT6]; unfold upd; rw [if_neg (by decide), if_pos rfl]
    · rw [← hT6]; unfold upd; rw [if_pos rfl]
    · rw [hr4]; show (⟨1, 1, 1099511627776, 0 + f, 1, 2, [], [5]⟩ : Ob) = _; rw [Int.zero_add]
    · rw [hs6]; show (⟨5, 1, f, 0 + f, 1, 2, [], [7]⟩ : Ob) = _; rw [Int.zero_add]
    · rw [hu6]; rfl
  have hA6' : ∃ D T r1 r5 r7, TAt w6 base tb mb D T ∧ Three T f f r1 r5 r7 := ⟨D6, T6, r4, s6, u6, hA6, h3⟩
  have HI6 := Lib.hid (And.intro hA6' B6)
  clear HM hA4 hA5 hF6 hT6 t41 t45 t47 hb5 h3 hA6 hA6' hz6 hz4 hz2 hr4 hs6 hu6 hs4 hr2 B2 B3 B4 B5 B6 HP
  go_wp2_with fail
  go_loopw [9, 10, 54] (fun va vb vk wr => ∃ (k : Nat) (a b : Int) (D : DataW Unit) (T : Tab) (r1 r5 r7 : Rc), va = .int .i64 a ∧ vb = .int .i64 b ∧ vk = .int .i64 k ∧ k ≤ 60 ∧ k ≤ xs.length ∧ 1 ≤ b ∧ b ≤ a ∧ a ≤ 1000 + 2000 * k ∧ TAt wr base tb mb D T ∧ Three T a b r1 r5 r7 ∧ RowKit.Below w.heap.size w wr) (fun _ _ vk _ => (xs.length - (RowKit.intOf vk).toNat))
  case atStart => obtain ⟨⟨D, T, r1, r5, r7, h1, h2⟩, h4⟩ := HI6.out; exact ⟨0, f, f, D, T, r1, r5, r7, rfl, rfl, rfl, by omega, by omega, by omega, by omega, by omega, h1, h2, h4⟩
  case round =>
    obtain ⟨k, a, b, D, T, r1, r5, r7, rfl, rfl, rfl, hk60, hkl, hb1, hba, hab, hA, h3, hBw⟩ := hrel
    by_cases hlt : k < xs.length
    · have hki : (k : Int) < (xs.length : Int) := by omega
      obtain ⟨pb, off, rfl, hpl, c0⟩ := (hp.below hBw) k hlt
      obtain ⟨n, hn⟩ : ∃ n, xs[k] = n := ⟨_, rfl⟩
      have hnr : i64 n := hn ▸ hr _ (List.getElem_mem hlt)
      rw [hn] at c0
      clear hn
      by_cases h60 : k < 60
      · have h60' : ¬ (60 : Int) ≤ (k : Int) := by omega
        by_cases hev : k % 2 = 0
        · have hm2 : ((k : Int).tmod 2 == 0) = true := by rw [Int.tmod_eq_emod_of_nonneg (by omega)]; simp; omega
          by_cases harg : n < -1099511627776 ∨ 1099511627776 < n
          · by_cases hng : n < -1099511627776
            · have e1 : n ≤ a - b := by omega
              have e2 : ¬ 1 ≤ b + n := by omega
              have hnr1 := hnr.1
              have hnr2 := hnr.2
              have HS := Lib.hid (Shift_arg hA 5 7 n (by unfold i64; omega) (by unfold i64; omega) r5 r7 h3.t5 h3.t7 (by rw [h3.o5]) (by rw [h3.o7]) (by rw [h3.o5]; show (1 : Nat) < 1000000; omega) (by rw [h3.o5]; show ([7] : List Int).contains 7 = true; decide) harg)
              go_wp2_with (first | (go_at_call 24; refine HS.out.mono ?_; rintro e ws ⟨rfl, hws⟩; rw [hws]; clear hws ws))
              go_roundw
              case rel => exact ⟨k + 1, a, b, _, _, _, _, _, rfl, rfl, by go_num, by omega, by omega, by omega, by omega, by omega, hA, h3, hBw⟩
              case measure => simp [RowKit.intOf]; omega
            · have e1 : ¬ n ≤ a - b := by omega
              have hnp : 1099511627776 < n := by omega
              have HS := Lib.hid (Shift_arg hA 5 7 n (by unfold i64; omega) (by unfold i64; omega) r5 r7 h3.t5 h3.t7 (by rw [h3.o5]) (by rw [h3.o7]) (by rw [h3.o5]; show (1 : Nat) < 1000000; omega) (by rw [h3.o5]; show ([7] : List Int).contains 7 = true; decide) harg)
              go_wp2_with (first | (go_at_call 24; refine HS.out.mono ?_; rintro e ws ⟨rfl, hws⟩; rw [hws]; clear hws ws))
              go_roundw
              case rel => exact ⟨k + 1, a, b, _, _, _, _, _, rfl, rfl, by go_num, by omega, by omega, by omega, by omega, by omega, hA, h3, hBw⟩
              case measure => simp [RowKit.intOf]; omega
          · have hn1 : ¬ n < -1099511627776 := by omega
            have hn2 : ¬ 1099511627776 < n := by omega
            by_cases hok : n ≤ a - b ∧ 1 ≤ b + n ∧ -b ≤ n
            · have e1 := hok.1
              have e2 := hok.2.1
              have e3 := hok.2.2
              have HS := Lib.hid (Shift_ok hA 5 7 n (by unfold i64; omega) (by unfold i64; omega) r5 r7 h3.t5 h3.t7 (by rw [h3.o5]) (by rw [h3.o7]) (by rw [h3.o5]; show (1 : Nat) < 1000000; omega) (by rw [h3.o5]; show ([7] : List Int).contains 7 = true; decide) ⟨hn1, hn2⟩ (by rw [h3.o5]; show i64 (a - b); unfold i64; omega) (by rw [h3.o7]; show i64 (b - 0); unfold i64; omega) (by rw [h3.o7]; show i64 (b + n); unfold i64; omega) (by decide) (by rw [h3.o5, h3.o7]; show n ≤ a - b ∧ -n ≤ b - 0 ∧ 1 ≤ b + n; omega) (by rw [h3.o5]; show i64 (b + n); unfold i64; omega))
              go_wp2_with (first | (go_at_call 24; refine HS.out.mono ?_; rintro e ws ⟨rfl, hAs, hFs⟩; refine Hid.out ?_))
              refine Lib.hid ?_
              have hBs := hBw.trans ((hA.belowF hFs).mono hbase)
              have h3s := h3.upd_in (n := n)
              clear hA h3 HS hFs
              have HI1 := Lib.hid (info_of hAs 1 (by unfold i64; omega) _ h3s.t1 h3s.o1)
              have HI5 := Lib.hid (info_of hAs 5 (by unfold i64; omega) _ h3s.t5 h3s.o5)
              have HI7 := Lib.hid (info_of hAs 7 (by unfold i64; omega) _ h3s.t7 h3s.o7)
              have HFin := Lib.hid (And.intro hAs (And.intro h3s hBs))
              clear hAs h3s
              go_wp2_with (first | (go_at_call 17; refine (HI1.out _ (Below.refl _ _)).mono ?_; rintro e wa ⟨sp1, cc1, rfl, hba⟩; refine Hid.out ?_))
              refine Lib.hid ?_
              go_wp2_with (first | (go_at_call 17; refine (HI5.out _ (hba.alloc hba.size _)).mono ?_; rintro e wb ⟨sp2, cc2, rfl, hbb⟩; refine Hid.out ?_))
              refine Lib.hid ?_
              have zb := hbb.size
              simp at zb
              have bx : wb.heap[wa.heap.size]? = some (.cells #[.int .i64 1, .int .i64 1, .int .i64 1099511627776, .int .i64 (a), .int .i64 1, .int .i64 2, .slice sp1 0 cc1] 44 (0, 0)) := (hbb.block _ (by simp)).trans (heap_new _ _)
              have hbb' : RowKit.Below ws.heap.size ws wb := (hba.alloc hba.size _).trans (hbb.mono (by have := hba.size; simp; omega))
              go_wp2_with (first | (go_at_call 17; refine (HI7.out _ (hbb'.alloc hbb'.size _)).mono ?_; rintro e wc ⟨sp3, cc3, rfl, hbc⟩; refine Hid.out ?_))
              refine Lib.hid ?_
              have zc := hbc.size
              simp at zc
              have bx2 : wc.heap[wa.heap.size]? = some (.cells #[.int .i64 1, .int .i64 1, .int .i64 1099511627776, .int .i64 (a), .int .i64 1, .int .i64 2, .slice sp1 0 cc1] 44 (0, 0)) := (hbc.block _ (by simp; omega)).trans ((Below.heap_alloc _ _ _ (by omega)).trans bx)
              have by2 : wc.heap[wb.heap.size]? = some (.cells #[.int .i64 5, .int .i64 1, .int .i64 (a), .int .i64 (b + n), .int .i64 1, .int .i64 2, .slice sp2 0 cc2] 44 (0, 0)) := (hbc.block _ (by simp)).trans (heap_new _ _)
              have x3 : wc.cell? ⟨wa.heap.size, 3, none⟩ = some (.int .i64 (a)) := by simp [World.cell?, bx2]
              have y2 : wc.cell? ⟨wb.heap.size, 2, none⟩ = some (.int .i64 (a)) := by simp [World.cell?, by2]
              have y3 : wc.cell? ⟨wb.heap.size, 3, none⟩ = some (.int .i64 (b + n)) := by simp [World.cell?, by2]
              have zx : wa.heap.size < wc.heap.size := by omega
              have zy : wb.heap.size < wc.heap.size := by omega
              have hbc' : RowKit.Below ws.heap.size ws (wc.alloc (.cells #[.int .i64 7, .int .i64 1, .int .i64 (b + n), .int .i64 0, .int .i64 1, .int .i64 2, .slice sp3 0 cc3] 44)) := ((hbb'.alloc hbb'.size _).trans (hbc.mono (by have := hbb'.size; simp; omega))).alloc (by have := hbb'.size; omega) _
              clear bx bx2 by2 HI1 HI5 HI7
              go_wp2
              go_roundw
              case rel => exact ⟨k + 1, a, b + n, _, _, _, _, _, rfl, rfl, by go_num, by omega, by omega, by omega, by omega, by omega, HFin.out.1.below hbc', HFin.out.2.1, HFin.out.2.2.trans (hbc'.mono HFin.out.2.2.size)⟩
              case measure => simp [RowKit.intOf]; omega
            · by_cases e1 : n ≤ a - b
              · have e2 : ¬ 1 ≤ b + n := by omega
                have HS := Lib.hid (Shift_quota hA 5 7 n (by unfold i64; omega) (by unfold i64; omega) r5 r7 h3.t5 h3.t7 (by rw [h3.o5]) (by rw [h3.o7]) (by rw [h3.o5]; show (1 : Nat) < 1000000; omega) (by rw [h3.o5]; show ([7] : List Int).contains 7 = true; decide) ⟨hn1, hn2⟩ (by rw [h3.o5]; show i64 (a - b); unfold i64; omega) (by rw [h3.o7]; show i64 (b - 0); unfold i64; omega) (by rw [h3.o7]; show i64 (b + n); unfold i64; omega) (by rw [h3.o5, h3.o7]; show a - b < n ∨ b - 0 < -n ∨ b + n < 1; omega))
                go_wp2_with (first | (go_at_call 24; refine HS.out.mono ?_; rintro e ws ⟨rfl, hbs⟩; refine Hid.out ?_))
                refine Lib.hid ?_
                have hBs := hBw.trans (hbs.mono hBw.size)
                have hAs := hA.below hbs
                clear hA HS
                have HI1 := Lib.hid (info_of hAs 1 (by unfold i64; omega) _ h3.t1 h3.o1)
                have HI5 := Lib.hid (info_of hAs 5 (by unfold i64; omega) _ h3.t5 h3.o5)
                have HI7 := Lib.hid (info_of hAs 7 (by unfold i64; omega) _ h3.t7 h3.o7)
                have HFin := Lib.hid (And.intro hAs (And.intro h3 hBs))
                clear hAs h3
                go_wp2_with (first | (go_at_call 17; refine (HI1.out _ (Below.refl _ _)).mono ?_; rintro e wa ⟨sp1, cc1, rfl, hba⟩; refine Hid.out ?_))
                refine Lib.hid ?_
                go_wp2_with (first | (go_at_call 17; refine (HI5.out _ (hba.alloc hba.size _)).mono ?_; rintro e wb ⟨sp2, cc2, rfl, hbb⟩; refine Hid.out ?_))
                refine Lib.hid ?_
                have zb := hbb.size
                simp at zb
                have bx : wb.heap[wa.heap.size]? = some (.cells #[.int .i64 1, .int .i64 1, .int .i64 1099511627776, .int .i64 (a), .int .i64 1, .int .i64 2, .slice sp1 0 cc1] 44 (0, 0)) := (hbb.block _ (by simp)).trans (heap_new _ _)
                have hbb' : RowKit.Below ws.heap.size ws wb := (hba.alloc hba.size _).trans (hbb.mono (by have := hba.size; simp; omega))
                go_wp2_with (first | (go_at_call 17; refine (HI7.out _ (hbb'.alloc hbb'.size _)).mono ?_; rintro e wc ⟨sp3, cc3, rfl, hbc⟩; refine Hid.out ?_))
                refine Lib.hid ?_
                have zc := hbc.size
                simp at zc
                have bx2 : wc.heap[wa.heap.size]? = some (.cells #[.int .i64 1, .int .i64 1, .int .i64 1099511627776, .int .i64 (a), .int .i64 1, .int .i64 2, .slice sp1 0 cc1] 44 (0, 0)) := (hbc.block _ (by simp; omega)).trans ((Below.heap_alloc _ _ _ (by omega)).trans bx)
                have by2 : wc.heap[wb.heap.size]? = some (.cells #[.int .i64 5, .int .i64 1, .int .i64 (a), .int .i64 (b), .int .i64 1, .int .i64 2, .slice sp2 0 cc2] 44 (0, 0)) := (hbc.block _ (by simp)).trans (heap_new _ _)
                have x3 : wc.cell? ⟨wa.heap.size, 3, none⟩ = some (.int .i64 (a)) := by simp [World.cell?, bx2]
                have y2 : wc.cell? ⟨wb.heap.size, 2, none⟩ = some (.int .i64 (a)) := by simp [World.cell?, by2]
                have y3 : wc.cell? ⟨wb.heap.size, 3, none⟩ = some (.int .i64 (b)) := by simp [World.cell?, by2]
                have zx : wa.heap.size < wc.heap.size := by omega
                have zy : wb.heap.size < wc.heap.size := by omega
                have hbc' : RowKit.Below ws.heap.size ws (wc.alloc (.cells #[.int .i64 7, .int .i64 1, .int .i64 (b), .int .i64 0, .int .i64 1, .int .i64 2, .slice sp3 0 cc3] 44)) := ((hbb'.alloc hbb'.size _).trans (hbc.mono (by have := hbb'.size; simp; omega))).alloc (by have := hbb'.size; omega) _
                clear bx bx2 by2 HI1 HI5 HI7
                go_wp2
                go_roundw
                case rel => exact ⟨k + 1, a, b, _, _, _, _, _, rfl, rfl, by go_num, by omega, by omega, by omega, by omega, by omega, HFin.out.1.below hbc', HFin.out.2.1, HFin.out.2.2.trans (hbc'.mono HFin.out.2.2.size)⟩
                case measure => simp [RowKit.intOf]; omega
              · have e9 : a - b < n := by omega
                have HS := Lib.hid (Shift_quota hA 5 7 n (by unfold i64; omega) (by unfold i64; omega) r5 r7 h3.t5 h3.t7 (by rw [h3.o5]) (by rw [h3.o7]) (by rw [h3.o5]; show (1 : Nat) < 1000000; omega) (by rw [h3.o5]; show ([7] : List Int).contains 7 = true; decide) ⟨hn1, hn2⟩ (by rw [h3.o5]; show i64 (a - b); unfold i64; omega) (by rw [h3.o7]; show i64 (b - 0); unfold i64; omega) (by rw [h3.o7]; show i64 (b + n); unfold i64; omega) (by rw [h3.o5, h3.o7]; show a - b < n ∨ b - 0 < -n ∨ b + n < 1; omega))
                go_wp2_with (first | (go_at_call 24; refine HS.out.mono ?_; rintro e ws ⟨rfl, hbs⟩; refine Hid.out ?_))
                refine Lib.hid ?_
                have hBs := hBw.trans (hbs.mono hBw.size)
                have hAs := hA.below hbs
                clear hA HS
                have HI1 := Lib.hid (info_of hAs 1 (by unfold i64; omega) _ h3.t1 h3.o1)
                have HI5 := Lib.hid (info_of hAs 5 (by unfold i64; omega) _ h3.t5 h3.o5)
                have HI7 := Lib.hid (info_of hAs 7 (by unfold i64; omega) _ h3.t7 h3.o7)
                have HFin := Lib.hid (And.intro hAs (And.intro h3 hBs))
                clear hAs h3
                go_wp2_with (first | (go_at_call 17; refine (HI1.out _ (Below.refl _ _)).mono ?_; rintro e wa ⟨sp1, cc1, rfl, hba⟩; refine Hid.out ?_))
                refine Lib.hid ?_
                go_wp2_with (first | (go_at_call 17; refine (HI5.out _ (hba.alloc hba.size _)).mono ?_; rintro e wb ⟨sp2, cc2, rfl, hbb⟩; refine Hid.out ?_))
                refine Lib.hid ?_
                have zb := hbb.size
                simp at zb
                have bx : wb.heap[wa.heap.size]? = some (.cells #[.int .i64 1, .int .i64 1, .int .i64 1099511627776, .int .i64 (a), .int .i64 1, .int .i64 2, .slice sp1 0 cc1] 44 (0, 0)) := (hbb.block _ (by simp)).trans (heap_new _ _)
                have hbb' : RowKit.Below ws.heap.size ws wb := (hba.alloc hba.size _).trans (hbb.mono (by have := hba.size; simp; omega))
                go_wp2_with (first | (go_at_call 17; refine (HI7.out _ (hbb'.alloc hbb'.size _)).mono ?_; rintro e wc ⟨sp3, cc3, rfl, hbc⟩; refine Hid.out ?_))
                refine Lib.hid ?_
                have zc := hbc.size
                simp at zc
                have bx2 : wc.heap[wa.heap.size]? = some (.cells #[.int .i64 1, .int .i64 1, .int .i64 1099511627776, .int .i64 (a), .int .i64 1, .int .i64 2, .slice sp1 0 cc1] 44 (0, 0)) := (hbc.block _ (by simp; omega)).trans ((Below.heap_alloc _ _ _ (by omega)).trans bx)
                have by2 : wc.heap[wb.heap.size]? = some (.cells #[.int .i64 5, .int .i64 1, .int .i64 (a), .int .i64 (b), .int .i64 1, .int .i64 2, .slice sp2 0 cc2] 44 (0, 0)) := (hbc.block _ (by simp)).trans (heap_new _ _)
                have x3 : wc.cell? ⟨wa.heap.size, 3, none⟩ = some (.int .i64 (a)) := by simp [World.cell?, bx2]
                have y2 : wc.cell? ⟨wb.heap.size, 2, none⟩ = some (.int .i64 (a)) := by simp [World.cell?, by2]
                have y3 : wc.cell? ⟨wb.heap.size, 3, none⟩ = some (.int .i64 (b)) := by simp [World.cell?, by2]
                have zx : wa.heap.size < wc.heap.size := by omega
                have zy : wb.heap.size < wc.heap.size := by omega
                have hbc' : RowKit.Below ws.heap.size ws (wc.alloc (.cells #[.int .i64 7, .int .i64 1, .int .i64 (b), .int .i64 0, .int .i64 1, .int .i64 2, .slice sp3 0 cc3] 44)) := ((hbb'.alloc hbb'.size _).trans (hbc.mono (by have := hbb'.size; simp; omega))).alloc (by have := hbb'.size; omega) _
                clear bx bx2 by2 HI1 HI5 HI7
                go_wp2
                go_roundw
                case rel => exact ⟨k + 1, a, b, _, _, _, _, _, rfl, rfl, by go_num, by omega, by omega, by omega, by omega, by omega, HFin.out.1.below hbc', HFin.out.2.1, HFin.out.2.2.trans (hbc'.mono HFin.out.2.2.size)⟩
                case measure => simp [RowKit.intOf]; omega
        · have hm2 : ((k : Int).tmod 2 == 0) = false := by rw [Int.tmod_eq_emod_of_nonneg (by omega)]; simp; omega
          by_cases hin : -2000 ≤ n ∧ n ≤ 2000
          · have i1 := hin.1
            have i2 := hin.2
            by_cases hok : 1 ≤ a + n ∧ -n ≤ a - b
            · have e1 := hok.1
              have e2 := hok.2
              have HS := Lib.hid (Shift_ok hA 1 5 n (by unfold i64; omega) (by unfold i64; omega) r1 r5 h3.t1 h3.t5 (by rw [h3.o1]) (by rw [h3.o5]) (by rw [h3.o1]; show (1 : Nat) < 1000000; omega) (by rw [h3.o1]; show ([5] : List Int).contains 5 = true; decide) ⟨by omega, by omega⟩ (by rw [h3.o1]; show i64 (1099511627776 - a); unfold i64; omega) (by rw [h3.o5]; show i64 (a - b); unfold i64; omega) (by rw [h3.o5]; show i64 (a + n); unfold i64; omega) (by decide) (by rw [h3.o1, h3.o5]; show n ≤ 1099511627776 - a ∧ -n ≤ a - b ∧ 1 ≤ a + n; omega) (by rw [h3.o1]; show i64 (a + n); unfold i64; omega))
              go_wp2_with (first | (go_at_call 24; refine HS.out.mono ?_; rintro e ws ⟨rfl, hAs, hFs⟩; refine Hid.out ?_))
              refine Lib.hid ?_
              have hBs := hBw.trans ((hA.belowF hFs).mono hbase)
              have h3s := h3.upd_out (n := n)
              clear hA h3 HS hFs
              have HI1 := Lib.hid (info_of hAs 1 (by unfold i64; omega) _ h3s.t1 h3s.o1)
              have HI5 := Lib.hid (info_of hAs 5 (by unfold i64; omega) _ h3s.t5 h3s.o5)
              have HI7 := Lib.hid (info_of hAs 7 (by unfold i64; omega) _ h3s.t7 h3s.o7)
              have HFin := Lib.hid (And.intro hAs (And.intro h3s hBs))
              clear hAs h3s
              go_wp2_with (first | (go_at_call 17; refine (HI1.out _ (Below.refl _ _)).mono ?_; rintro e wa ⟨sp1, cc1, rfl, hba⟩; refine Hid.out ?_))
              refine Lib.hid ?_
              go_wp2_with (first | (go_at_call 17; refine (HI5.out _ (hba.alloc hba.size _)).mono ?_; rintro e wb ⟨sp2, cc2, rfl, hbb⟩; refine Hid.out ?_))
              refine Lib.hid ?_
              have zb := hbb.size
              simp at zb
              have bx : wb.heap[wa.heap.size]? = some (.cells #[.int .i64 1, .int .i64 1, .int .i64 1099511627776, .int .i64 (a + n), .int .i64 1, .int .i64 2, .slice sp1 0 cc1] 44 (0, 0)) := (hbb.block _ (by simp)).trans (heap_new _ _)
              have hbb' : RowKit.Below ws.heap.size ws wb := (hba.alloc hba.size _).trans (hbb.mono (by have := hba.size; simp; omega))
              go_wp2_with (first | (go_at_call 17; refine (HI7.out _ (hbb'.alloc hbb'.size _)).mono ?_; rintro e wc ⟨sp3, cc3, rfl, hbc⟩; refine Hid.out ?_))
              refine Lib.hid ?_
              have zc := hbc.size
              simp at zc
              have bx2 : wc.heap[wa.heap.size]? = some (.cells #[.int .i64 1, .int .i64 1, .int .i64 1099511627776, .int .i64 (a + n), .int .i64 1, .int .i64 2, .slice sp1 0 cc1] 44 (0, 0)) := (hbc.block _ (by simp; omega)).trans ((Below.heap_alloc _ _ _ (by omega)).trans bx)
              have by2 : wc.heap[wb.heap.size]? = some (.cells #[.int .i64 5, .int .i64 1, .int .i64 (a + n), .int .i64 (b), .int .i64 1, .int .i64 2, .slice sp2 0 cc2] 44 (0, 0)) := (hbc.block _ (by simp)).trans (heap_new _ _)
              have x3 : wc.cell? ⟨wa.heap.size, 3, none⟩ = some (.int .i64 (a + n)) := by simp [World.cell?, bx2]
              have y2 : wc.cell? ⟨wb.heap.size, 2, none⟩ = some (.int .i64 (a + n)) := by simp [World.cell?, by2]
              have y3 : wc.cell? ⟨wb.heap.size, 3, none⟩ = some (.int .i64 (b)) := by simp [World.cell?, by2]
              have zx : wa.heap.size < wc.heap.size := by omega
              have zy : wb.heap.size < wc.heap.size := by omega
              have hbc' : RowKit.Below ws.heap.size ws (wc.alloc (.cells #[.int .i64 7, .int .i64 1, .int .i64 (b), .int .i64 0, .int .i64 1, .int .i64 2, .slice sp3 0 cc3] 44)) := ((hbb'.alloc hbb'.size _).trans (hbc.mono (by have := hbb'.size; simp; omega))).alloc (by have := hbb'.size; omega) _
              clear bx bx2 by2 HI1 HI5 HI7
              go_wp2
              go_roundw
              case rel => exact ⟨k + 1, a + n, b, _, _, _, _, _, rfl, rfl, by go_num, by omega, by omega, by omega, by omega, by omega, HFin.out.1.below hbc', HFin.out.2.1, HFin.out.2.2.trans (hbc'.mono HFin.out.2.2.size)⟩
              case measure => simp [RowKit.intOf]; omega
            · by_cases e1 : 1 ≤ a + n
              · have e2 : ¬ -n ≤ a - b := by omega
                have HS := Lib.hid (Shift_quota hA 1 5 n (by unfold i64; omega) (by unfold i64; omega) r1 r5 h3.t1 h3.t5 (by rw [h3.o1]) (by rw [h3.o5]) (by rw [h3.o1]; show (1 : Nat) < 1000000; omega) (by rw [h3.o1]; show ([5] : List Int).contains 5 = true; decide) ⟨by omega, by omega⟩ (by rw [h3.o1]; show i64 (1099511627776 - a); unfold i64; omega) (by rw [h3.o5]; show i64 (a - b); unfold i64; omega) (by rw [h3.o5]; show i64 (a + n); unfold i64; omega) (by rw [h3.o1, h3.o5]; show 1099511627776 - a < n ∨ a - b < -n ∨ a + n < 1; omega))
                go_wp2_with (first | (go_at_call 24; refine HS.out.mono ?_; rintro e ws ⟨rfl, hbs⟩; refine Hid.out ?_))
                refine Lib.hid ?_
                have hBs := hBw.trans (hbs.mono hBw.size)
                have hAs := hA.below hbs
                clear hA HS
                have HI1 := Lib.hid (info_of hAs 1 (by unfold i64; omega) _ h3.t1 h3.o1)
                have HI5 := Lib.hid (info_of hAs 5 (by unfold i64; omega) _ h3.t5 h3.o5)
                have HI7 := Lib.hid (info_of hAs 7 (by unfold i64; omega) _ h3.t7 h3.o7)
                have HFin := Lib.hid (And.intro hAs (And.intro h3 hBs))
                clear hAs h3
                go_wp2_with (first | (go_at_call 17; refine (HI1.out _ (Below.refl _ _)).mono ?_; rintro e wa ⟨sp1, cc1, rfl, hba⟩; refine Hid.out ?_))
                refine Lib.hid ?_
                go_wp2_with (first | (go_at_call 17; refine (HI5.out _ (hba.alloc hba.size _)).mono ?_; rintro e wb ⟨sp2, cc2, rfl, hbb⟩; refine Hid.out ?_))
                refine Lib.hid ?_
                have zb := hbb.size
                simp at zb
                have bx : wb.heap[wa.heap.size]? = some (.cells #[.int .i64 1, .int .i64 1, .int .i64 1099511627776, .int .i64 (a), .int .i64 1, .int .i64 2, .slice sp1 0 cc1] 44 (0, 0)) := (hbb.block _ (by simp)).trans (heap_new _ _)
                have hbb' : RowKit.Below ws.heap.size ws wb := (hba.alloc hba.size _).trans (hbb.mono (by have := hba.size; simp; omega))
                go_wp2_with (first | (go_at_call 17; refine (HI7.out _ (hbb'.alloc hbb'.size _)).mono ?_; rintro e wc ⟨sp3, cc3, rfl, hbc⟩; refine Hid.out ?_))
                refine Lib.hid ?_
                have zc := hbc.size
                simp at zc
                have bx2 : wc.heap[wa.heap.size]? = some (.cells #[.int .i64 1, .int .i64 1, .int .i64 1099511627776, .int .i64 (a), .int .i64 1, .int .i64 2, .slice sp1 0 cc1] 44 (0, 0)) := (hbc.block _ (by simp; omega)).trans ((Below.heap_alloc _ _ _ (by omega)).trans bx)
                have by2 : wc.heap[wb.heap.size]? = some (.cells #[.int .i64 5, .int .i64 1, .int .i64 (a), .int .i64 (b), .int .i64 1, .int .i64 2, .slice sp2 0 cc2] 44 (0, 0)) := (hbc.block _ (by simp)).trans (heap_new _ _)
                have x3 : wc.cell? ⟨wa.heap.size, 3, none⟩ = some (.int .i64 (a)) := by simp [World.cell?, bx2]
                have y2 : wc.cell? ⟨wb.heap.size, 2, none⟩ = some (.int .i64 (a)) := by simp [World.cell?, by2]
                have y3 : wc.cell? ⟨wb.heap.size, 3, none⟩ = some (.int .i64 (b)) := by simp [World.cell?, by2]
                have zx : wa.heap.size < wc.heap.size := by omega
                have zy : wb.heap.size < wc.heap.size := by omega
                have hbc' : RowKit.Below ws.heap.size ws (wc.alloc (.cells #[.int .i64 7, .int .i64 1, .int .i64 (b), .int .i64 0, .int .i64 1, .int .i64 2, .slice sp3 0 cc3] 44)) := ((hbb'.alloc hbb'.size _).trans (hbc.mono (by have := hbb'.size; simp; omega))).alloc (by have := hbb'.size; omega) _
                clear bx bx2 by2 HI1 HI5 HI7
                go_wp2
                go_roundw
                case rel => exact ⟨k + 1, a, b, _, _, _, _, _, rfl, rfl, by go_num, by omega, by omega, by omega, by omega, by omega, HFin.out.1.below hbc', HFin.out.2.1, HFin.out.2.2.trans (hbc'.mono HFin.out.2.2.size)⟩
                case measure => simp [RowKit.intOf]; omega
              · have e9 : a + n < 1 := by omega
                have HS := Lib.hid (Shift_quota hA 1 5 n (by unfold i64; omega) (by unfold i64; omega) r1 r5 h3.t1 h3.t5 (by rw [h3.o1]) (by rw [h3.o5]) (by rw [h3.o1]; show (1 : Nat) < 1000000; omega) (by rw [h3.o1]; show ([5] : List Int).contains 5 = true; decide) ⟨by omega, by omega⟩ (by rw [h3.o1]; show i64 (1099511627776 - a); unfold i64; omega) (by rw [h3.o5]; show i64 (a - b); unfold i64; omega) (by rw [h3.o5]; show i64 (a + n); unfold i64; omega) (by rw [h3.o1, h3.o5]; show 1099511627776 - a < n ∨ a - b < -n ∨ a + n < 1; omega))
                go_wp2_with (first | (go_at_call 24; refine HS.out.mono ?_; rintro e ws ⟨rfl, hbs⟩; refine Hid.out ?_))
                refine Lib.hid ?_
                have hBs := hBw.trans (hbs.mono hBw.size)
                have hAs := hA.below hbs
                clear hA HS
                have HI1 := Lib.hid (info_of hAs 1 (by unfold i64; omega) _ h3.t1 h3.o1)
                have HI5 := Lib.hid (info_of hAs 5 (by unfold i64; omega) _ h3.t5 h3.o5)
                have HI7 := Lib.hid (info_of hAs 7 (by unfold i64; omega) _ h3.t7 h3.o7)
                have HFin := Lib.hid (And.intro hAs (And.intro h3 hBs))
                clear hAs h3
                go_wp2_with (first | (go_at_call 17; refine (HI1.out _ (Below.refl _ _)).mono ?_; rintro e wa ⟨sp1, cc1, rfl, hba⟩; refine Hid.out ?_))
                refine Lib.hid ?_
                go_wp2_with (first | (go_at_call 17; refine (HI5.out _ (hba.alloc hba.size _)).mono ?_; rintro e wb ⟨sp2, cc2, rfl, hbb⟩; refine Hid.out ?_))
                refine Lib.hid ?_
                have zb := hbb.size
                simp at zb
                have bx : wb.heap[wa.heap.size]? = some (.cells #[.int .i64 1, .int .i64 1, .int .i64 1099511627776, .int .i64 (a), .int .i64 1, .int .i64 2, .slice sp1 0 cc1] 44 (0, 0)) := (hbb.block _ (by simp)).trans (heap_new _ _)
                have hbb' : RowKit.Below ws.heap.size ws wb := (hba.alloc hba.size _).trans (hbb.mono (by have := hba.size; simp; omega))
                go_wp2_with (first | (go_at_call 17; refine (HI7.out _ (hbb'.alloc hbb'.size _)).mono ?_; rintro e wc ⟨sp3, cc3, rfl, hbc⟩; refine Hid.out ?_))
                refine Lib.hid ?_
                have zc := hbc.size
                simp at zc
                have bx2 : wc.heap[wa.heap.size]? = some (.cells #[.int .i64 1, .int .i64 1, .int .i64 1099511627776, .int .i64 (a), .int .i64 1, .int .i64 2, .slice sp1 0 cc1] 44 (0, 0)) := (hbc.block _ (by simp; omega)).trans ((Below.heap_alloc _ _ _ (by omega)).trans bx)
                have by2 : wc.heap[wb.heap.size]? = some (.cells #[.int .i64 5, .int .i64 1, .int .i64 (a), .int .i64 (b), .int .i64 1, .int .i64 2, .slice sp2 0 cc2] 44 (0, 0)) := (hbc.block _ (by simp)).trans (heap_new _ _)
                have x3 : wc.cell? ⟨wa.heap.size, 3, none⟩ = some (.int .i64 (a)) := by simp [World.cell?, bx2]
                have y2 : wc.cell? ⟨wb.heap.size, 2, none⟩ = some (.int .i64 (a)) := by simp [World.cell?, by2]
                have y3 : wc.cell? ⟨wb.heap.size, 3, none⟩ = some (.int .i64 (b)) := by simp [World.cell?, by2]
                have zx : wa.heap.size < wc.heap.size := by omega
                have zy : wb.heap.size < wc.heap.size := by omega
                have hbc' : RowKit.Below ws.heap.size ws (wc.alloc (.cells #[.int .i64 7, .int .i64 1, .int .i64 (b), .int .i64 0, .int .i64 1, .int .i64 2, .slice sp3 0 cc3] 44)) := ((hbb'.alloc hbb'.size _).trans (hbc.mono (by have := hbb'.size; simp; omega))).alloc (by have := hbb'.size; omega) _
                clear bx bx2 by2 HI1 HI5 HI7
                go_wp2
                go_roundw
                case rel => exact ⟨k + 1, a, b, _, _, _, _, _, rfl, rfl, by go_num, by omega, by omega, by omega, by omega, by omega, HFin.out.1.below hbc', HFin.out.2.1, HFin.out.2.2.trans (hbc'.mono HFin.out.2.2.size)⟩
                case measure => simp [RowKit.intOf]; omega
          · by_cases i1 : -2000 ≤ n
            · have i2 : ¬ n ≤ 2000 := by omega
              have HI1 := Lib.hid (info_of hA 1 (by unfold i64; omega) _ h3.t1 h3.o1)
              have HI5 := Lib.hid (info_of hA 5 (by unfold i64; omega) _ h3.t5 h3.o5)
              have HI7 := Lib.hid (info_of hA 7 (by unfold i64; omega) _ h3.t7 h3.o7)
              have HFin := Lib.hid (And.intro hA (And.intro h3 hBw))
              clear hA h3
              go_wp2_with (first | (go_at_call 17; refine (HI1.out _ (Below.refl _ _)).mono ?_; rintro e wa ⟨sp1, cc1, rfl, hba⟩; refine Hid.out ?_))
              refine Lib.hid ?_
              go_wp2_with (first | (go_at_call 17; refine (HI5.out _ (hba.alloc hba.size _)).mono ?_; rintro e wb ⟨sp2, cc2, rfl, hbb⟩; refine Hid.out ?_))
              refine Lib.hid ?_
              have zb := hbb.size
              simp at zb
              have bx : wb.heap[wa.heap.size]? = some (.cells #[.int .i64 1, .int .i64 1, .int .i64 1099511627776, .int .i64 (a), .int .i64 1, .int .i64 2, .slice sp1 0 cc1] 44 (0, 0)) := (hbb.block _ (by simp)).trans (heap_new _ _)
              have hbb' : RowKit.Below wr.heap.size wr wb := (hba.alloc hba.size _).trans (hbb.mono (by have := hba.size; simp; omega))
              go_wp2_with (first | (go_at_call 17; refine (HI7.out _ (hbb'.alloc hbb'.size _)).mono ?_; rintro e wc ⟨sp3, cc3, rfl, hbc⟩; refine Hid.out ?_))
              refine Lib.hid ?_
              have zc := hbc.size
              simp at zc
              have bx2 : wc.heap[wa.heap.size]? = some (.cells #[.int .i64 1, .int .i64 1, .int .i64 1099511627776, .int .i64 (a), .int .i64 1, .int .i64 2, .slice sp1 0 cc1] 44 (0, 0)) := (hbc.block _ (by simp; omega)).trans ((Below.heap_alloc _ _ _ (by omega)).trans bx)
              have by2 : wc.heap[wb.heap.size]? = some (.cells #[.int .i64 5, .int .i64 1, .int .i64 (a), .int .i64 (b), .int .i64 1, .int .i64 2, .slice sp2 0 cc2] 44 (0, 0)) := (hbc.block _ (by simp)).trans (heap_new _ _)
              have x3 : wc.cell? ⟨wa.heap.size, 3, none⟩ = some (.int .i64 (a)) := by simp [World.cell?, bx2]
              have y2 : wc.cell? ⟨wb.heap.size, 2, none⟩ = some (.int .i64 (a)) := by simp [World.cell?, by2]
              have y3 : wc.cell? ⟨wb.heap.size, 3, none⟩ = some (.int .i64 (b)) := by simp [World.cell?, by2]
              have zx : wa.heap.size < wc.heap.size := by omega
              have zy : wb.heap.size < wc.heap.size := by omega
              have hbc' : RowKit.Below wr.heap.size wr (wc.alloc (.cells #[.int .i64 7, .int .i64 1, .int .i64 (b), .int .i64 0, .int .i64 1, .int .i64 2, .slice sp3 0 cc3] 44)) := ((hbb'.alloc hbb'.size _).trans (hbc.mono (by have := hbb'.size; simp; omega))).alloc (by have := hbb'.size; omega) _
              clear bx bx2 by2 HI1 HI5 HI7
              go_wp2
              go_roundw
              case rel => exact ⟨k + 1, a, b, _, _, _, _, _, rfl, rfl, by go_num, by omega, by omega, by omega, by omega, by omega, HFin.out.1.below hbc', HFin.out.2.1, HFin.out.2.2.trans (hbc'.mono HFin.out.2.2.size)⟩
              case measure => simp [RowKit.intOf]; omega
            · have i3 : n < -2000 := by omega
              have HI1 := Lib.hid (info_of hA 1 (by unfold i64; omega) _ h3.t1 h3.o1)
              have HI5 := Lib.hid (info_of hA 5 (by unfold i64; omega) _ h3.t5 h3.o5)
              have HI7 := Lib.hid (info_of hA 7 (by unfold i64; omega) _ h3.t7 h3.o7)
              have HFin := Lib.hid (And.intro hA (And.intro h3 hBw))
              clear hA h3
              go_wp2_with (first | (go_at_call 17; refine (HI1.out _ (Below.refl _ _)).mono ?_; rintro e wa ⟨sp1, cc1, rfl, hba⟩; refine Hid.out ?_))
              refine Lib.hid ?_
              go_wp2_with (first | (go_at_call 17; refine (HI5.out _ (hba.alloc hba.size _)).mono ?_; rintro e wb ⟨sp2, cc2, rfl, hbb⟩; refine Hid.out ?_))
              refine Lib.hid ?_
              have zb := hbb.size
              simp at zb
              have bx : wb.heap[wa.heap.size]? = some (.cells #[.int .i64 1, .int .i64 1, .int .i64 1099511627776, .int .i64 (a), .int .i64 1, .int .i64 2, .slice sp1 0 cc1] 44 (0, 0)) := (hbb.block _ (by simp)).trans (heap_new _ _)
              have hbb' : RowKit.Below wr.heap.size wr wb := (hba.alloc hba.size _).trans (hbb.mono (by have := hba.size; simp; omega))
              go_wp2_with (first | (go_at_call 17; refine (HI7.out _ (hbb'.alloc hbb'.size _)).mono ?_; rintro e wc ⟨sp3, cc3, rfl, hbc⟩; refine Hid.out ?_))
              refine Lib.hid ?_
              have zc := hbc.size
              simp at zc
              have bx2 : wc.heap[wa.heap.size]? = some (.cells #[.int .i64 1, .int .i64 1, .int .i64 1099511627776, .int .i64 (a), .int .i64 1, .int .i64 2, .slice sp1 0 cc1] 44 (0, 0)) := (hbc.block _ (by simp; omega)).trans ((Below.heap_alloc _ _ _ (by omega)).trans bx)
              have by2 : wc.heap[wb.heap.size]? = some (.cells #[.int .i64 5, .int .i64 1, .int .i64 (a), .int .i64 (b), .int .i64 1, .int .i64 2, .slice sp2 0 cc2] 44 (0, 0)) := (hbc.block _ (by simp)).trans (heap_new _ _)
              have x3 : wc.cell? ⟨wa.heap.size, 3, none⟩ = some (.int .i64 (a)) := by simp [World.cell?, bx2]
              have y2 : wc.cell? ⟨wb.heap.size, 2, none⟩ = some (.int .i64 (a)) := by simp [World.cell?, by2]
              have y3 : wc.cell? ⟨wb.heap.size, 3, none⟩ = some (.int .i64 (b)) := by simp [World.cell?, by2]
              have zx : wa.heap.size < wc.heap.size := by omega
              have zy : wb.heap.size < wc.heap.size := by omega
              have hbc' : RowKit.Below wr.heap.size wr (wc.alloc (.cells #[.int .i64 7, .int .i64 1, .int .i64 (b), .int .i64 0, .int .i64 1, .int .i64 2, .slice sp3 0 cc3] 44)) := ((hbb'.alloc hbb'.size _).trans (hbc.mono (by have := hbb'.size; simp; omega))).alloc (by have := hbb'.size; omega) _
              clear bx bx2 by2 HI1 HI5 HI7
              go_wp2
              go_roundw
              case rel => exact ⟨k + 1, a, b, _, _, _, _, _, rfl, rfl, by go_num, by omega, by omega, by omega, by omega, by omega, HFin.out.1.below hbc', HFin.out.2.1, HFin.out.2.2.trans (hbc'.mono HFin.out.2.2.size)⟩
              case measure => simp [RowKit.intOf]; omega
      · have h60' : (60 : Int) ≤ (k : Int) := by omega
        go_wp2
        go_ret
        exact ⟨rfl, hBw⟩
    · have hki : ¬ (k : Int) < (xs.length : Int) := by omega
      go_wp2
      go_ret
      exact ⟨rfl, hBw⟩
end Go.Proofs.Ytjhcnbdddjcmcaa
