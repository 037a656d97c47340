/- SpaceSums. -/
import Derived.Test.YtddllchobojmlaaLives
import Derived.Test.YtddllchobojmlaaFacts2
namespace Go.Proofs.Ytddllchobojmlaa
open Go.RowKit Go.Sort
theorem span_ok {l : List Mp} {a n need : Int} (h : spanE l a n need = 0) : rightS l = true ∧ 0 ≤ need ∧ need ≤ 2 ∧ Ch l need a n (spanL l a n need) ∧ 1 ≤ n ∧ n ≤ 4096 := by
  unfold spanE at h
  split at h
  · omega
  · rename_i hA
    cases hO : spanO l a n need with
    | none => rw [hO] at h; simp at h
    | some ps =>
      have hL : spanL l a n need = ps := by unfold spanL; rw [if_neg hA, hO]; rfl
      simp only [argOk, Bool.not_eq_false, Bool.and_eq_true, decide_eq_true_eq] at hA
      have hg := ((rightS_iff l).1 hA.1.1.1.1).2.1
      refine ⟨hA.1.1.1.1, hA.1.2, hA.2, ?_, hA.1.1.1.2, hA.1.1.2⟩
      rw [hL]
      exact spans_ch l need hg 4096 a n ps (by omega) (by omega) hO
set_option maxRecDepth 100000 in
set_option maxHeartbeats 4000000 in
theorem SpaceSums_any (p : Option Addr) (cap : Nat) (l : List Mp) (a n need : Int) (w : World) (ha : 0 ≤ a) (ha2 : a < 18446744073709551616) (hR : RAt w p cap l) :
    Calls Try.prog 6 #[.slice p l.length cap, .int .u64 a, .int .i64 n, .int .i64 need] w fun e w' => e = .returned (.bool true) ∧ Below w.heap.size w w' := by
  go_enter Try.func6, Try.ntmps6
  go_wp2_with (go_at_call 9; refine (lives_any _).mono ?_; rintro e w1 ⟨rfl, hb1⟩; refine Hid.out ?_)
  refine Lib.hid ?_
  have HP := Span_any p cap l a n need w1 ha ha2 (hR.below hb1)
  by_cases hE : spanE l a n need = 0
  · rw [hE] at HP
    have HP' := Lib.hid HP
    clear HP
    go_wp2_with (go_at_call 17; refine HP'.out.mono ?_; rintro e w2 ⟨v2, rfl, ho2, hb2⟩; refine Hid.out ?_)
    refine Lib.hid ?_
    obtain ⟨p2, c2, rfl, hR2⟩ := own_pcs ho2
    clear ho2 HP'
    have hB2 : Below w.heap.size w w2 := hb1.trans (hb2.mono hb1.size)
    obtain ⟨hrl, hn0, hn2, hCh, hN1, hN2⟩ := span_ok hE
    obtain ⟨PS, hPS⟩ : ∃ PS, spanL l a n need = PS := ⟨_, rfl⟩
    have hlen := spanL_len l a n need
    rw [hPS] at hCh hR2 hlen ⊢
    have hgs := ((rightS_iff l).1 hrl).2.1
    clear hPS hE hb1 hb2
    go_wp2_with fail
    go_loopw [11, 36] (fun x i wr => ∃ (k : Nat) (c d : Int), k ≤ PS.length ∧ x = .int .u64 c ∧ i = .int .i64 k ∧ 0 ≤ c ∧ 0 ≤ d ∧ c + d = a + n ∧ Ch l need c d (PS.drop k) ∧ Below w2.heap.size w2 wr) (fun _ i _ => PS.length - (intOf i).toNat)
    case atStart => exact ⟨0, a, n, Nat.zero_le _, rfl, rfl, ha, by omega, rfl, by simpa using hCh, Below.refl _ _⟩
    case round =>
      obtain ⟨k, c, d, hk, rfl, rfl, hc0, hd0, hcd, hch, hb⟩ := hrel
      have hbs := hb.size
      by_cases hlt : k < PS.length
      · rw [List.drop_eq_getElem_cons hlt] at hch
        obtain ⟨x, hx⟩ : ∃ x, PS[k] = x := ⟨_, rfl⟩
        obtain ⟨b, off, rfl, hbl, hq⟩ := hR2 k hlt
        have hq' := hq.below hb hbl
        rw [hx] at hch hq'
        cases hch with
        | cons _ _ m _ hd hf hs hr =>
          obtain ⟨x, hx'⟩ : ∃ x, pcOf m c d = x := ⟨_, rfl⟩
          have HFi := Lib.hid (fun (kk : Int) (h0 : 0 ≤ kk) (h1 : kk < x.n) => ch_find (k := kk) (d := d) hrl hf hs h0 (by rw [hx']; exact h1) hn0 hn2)
          have hpn := pcOf_n (hgs m (findM_in hf).1) (findM_in hf).2 hd
          rw [hx'] at hr hq' hpn HFi
          have hxi : m.inn = x.inn := by rw [← hx']; rfl
          have hxd : m.id = x.id := by rw [← hx']; rfl
          rw [hxi, hxd] at HFi
          obtain ⟨c0, c1, c2, c3⟩ := hq'
          obtain ⟨k1, k2, k3, k4, k5⟩ := hpn
          have HCH := Lib.hid hr
          have hki : (k : Int) < (PS.length : Int) := by omega
          have hbr : b < wr.heap.size := by omega
          have htd : Int.tdiv x.n 2 = x.n / 2 := Int.tdiv_eq_ediv_of_nonneg (by omega)
          clear hq hr hx hx' hf hs hR2 hCh
          go_wp2_with fail
          obtain ⟨V, hV⟩ : ∃ V, (wr.alloc (.cells #[.int .i64 x.inn, .int .i64 x.id, .int .i64 x.off, .int .i64 x.n] 41)).alloc (.cells #[.int .i64 0, .int .i64 (x.n / 2), .int .i64 (x.n - 1)] 3) = V := ⟨_, rfl⟩
          have hbV : Below wr.heap.size wr V := by rw [← hV]; exact ((Below.refl _ _).alloc (Nat.le_refl _) _).alloc (by simp) _
          have hVs : V.heap.size = wr.heap.size + 2 := by rw [← hV]; simp
          have hxV : PcAt V wr.heap.size 0 x := by rw [← hV]; exact ⟨by simp [go_sem], by simp [go_sem], by simp [go_sem], by simp [go_sem]⟩
          have hkV : ∀ t : Nat, t < 3 → ∃ kk : Int, V.cell? ⟨wr.heap.size + 1, t, none⟩ = some (.int .i64 kk) ∧ 0 ≤ kk ∧ kk < x.n := fun t ht => by
            rw [← hV]
            obtain rfl | rfl | rfl : t = 0 ∨ t = 1 ∨ t = 2 := by omega
            · exact ⟨0, by simp [go_sem], by omega, by omega⟩
            · exact ⟨x.n / 2, by simp [go_sem], by omega, by omega⟩
            · exact ⟨x.n - 1, by simp [go_sem], by omega, by omega⟩
          have hBV : Below w.heap.size w V := (hB2.trans (hb.mono hB2.size)).trans (hbV.mono (by have := hB2.size; omega))
          obtain ⟨N, hN⟩ : ∃ N, wr.heap.size = N := ⟨_, rfl⟩
          rw [hN] at hxV hkV hVs
          rw [hV, hN]
          clear hV c0 c1 c2 c3
          go_loopw [64] (fun i wi => ∃ t : Nat, t ≤ 3 ∧ i = .int .i64 t ∧ Below V.heap.size V wi) (fun i _ => 3 - (intOf i).toNat)
          case atStart => exact ⟨0, by omega, rfl, Below.refl _ _⟩
          case round wi =>
            obtain ⟨t, ht, rfl, hbi⟩ := hrel
            have hzi := hbi.size
            obtain ⟨z0, z1, z2, z3⟩ := hxV.below hbi (by omega)
            by_cases ht3 : t < 3
            · obtain ⟨kk, hkc, hk0, hk1⟩ := hkV t ht3
              have hkc' := (hbi.cell (p := ⟨N + 1, t, none⟩) (by simp; omega)).trans hkc
              have hBi : Below w.heap.size w _ := hBV.trans (hbi.mono (by have := hBV.size; omega))
              have HF := Find_any p cap l (c + kk) need _ (by omega) (by omega) (hR.below hBi)
              obtain ⟨f1, f2⟩ := HFi.out kk hk0 hk1
              rw [f1, f2] at HF
              have HF' := Lib.hid HF
              have hti : (t : Int) < 3 := by omega
              have hw1 : IntKind.u64.wrap kk = kk := by rw [IntKind.wrap_u64]; omega
              have hw2 : IntKind.u64.wrap (c + kk) = c + kk := by rw [IntKind.wrap_u64]; omega
              have hw3 : IntKind.i64.wrap (x.off + kk) = x.off + kk := by rw [IntKind.wrap_i64]; omega
              clear HF f1 f2 hkc hkV
              go_wp2_with (go_at_call 19; refine HF'.out.mono ?_; rintro e w6 ⟨v6, rfl, ho6, hb6⟩; refine Hid.out ?_)
              refine Lib.hid ?_
              obtain ⟨p6, c6, rfl, hR6⟩ := own_pcs ho6
              obtain ⟨b6, o6, rfl, hbl6, ⟨y0, y1, y2, y3⟩⟩ := hR6 0 (by simp)
              simp only [Nat.zero_mul, Nat.add_zero, List.getElem_cons_zero] at y0 y1 y2 y3
              obtain ⟨u0, u1, u2, u3⟩ := (PcAt.mk z0 z1 z2 z3).below hb6 (by omega)
              have EQ : ∀ W, (Op.equalIn 10000 41 (.agg #[.int .i64 x.inn, .int .i64 x.id, .int .i64 (x.off + kk), .int .i64 1]) (.agg #[.int .i64 x.inn, .int .i64 x.id, .int .i64 (x.off + kk), .int .i64 1])).run Try.prog W = .ok true W := fun W => by
                have := eq_pc ⟨x.inn, x.id, x.off + kk, 1⟩ ⟨x.inn, x.id, x.off + kk, 1⟩ W
                rwa [decide_eq_true rfl] at this
              clear z0 z1 z2 z3 hR6 ho6 HF' hkc' hw1 hw2
              go_wp2
              go_quiet (fail)
              go_wp2
              go_roundw
              case rel => exact ⟨t + 1, by omega, by go_num, bdn (hbi.trans (hb6.mono hzi)) _⟩
              case measure => simp [intOf]; omega
            · obtain rfl : t = 3 := by omega
              have hw1 : IntKind.u64.wrap x.n = x.n := by rw [IntKind.wrap_u64]; omega
              have hw2 : IntKind.u64.wrap (c + x.n) = c + x.n := by rw [IntKind.wrap_u64]; omega
              go_wp2
              go_roundw
              case rel => exact ⟨k + 1, c + x.n, d - x.n, by omega, rfl, by go_num, by omega, by omega, by omega, HCH.out, (hb.trans (hbV.mono hbs)).trans (hbi.mono (by omega))⟩
              case measure => simp [intOf]; omega
      · obtain rfl : k = PS.length := by omega
        have hkk : ¬ (PS.length : Int) < (PS.length : Int) := by omega
        rw [List.drop_length] at hch
        cases hch
        have hca : c - a = n := by omega
        have hw1 : IntKind.u64.wrap (c - a) = n := by rw [IntKind.wrap_u64]; omega
        have hw2 : IntKind.u64.wrap n = n := by rw [IntKind.wrap_u64]; omega
        clear hca
        go_wp2
        go_ret
        exact ⟨rfl, hB2.trans (hb.mono hB2.size)⟩
  · obtain ⟨E, hEE⟩ : ∃ E, spanE l a n need = E := ⟨_, rfl⟩
    have hL : spanL l a n need = [] := by
      unfold spanE at hE
      unfold spanL
      split at hE
      · rename_i h; rw [if_pos h]
      · rename_i h; rw [if_neg h]
        cases hO : spanO l a n need with
        | none => rfl
        | some ps => rw [hO] at hE; simp at hE
    rw [hL, hEE] at HP
    have HP' := Lib.hid HP
    have hE0 : (E == 0) = false := by rw [hEE] at hE; simpa using hE
    clear HP hE hEE hL
    go_wp2_with (go_at_call 17; refine HP'.out.mono ?_; rintro e w2 ⟨v2, rfl, ho2, hb2⟩; refine Hid.out ?_)
    refine Lib.hid ?_
    obtain ⟨p2, c2, rfl, -⟩ := own_pcs (l := []) ho2
    go_wp2
    go_ret
    exact ⟨rfl, hb1.trans (hb2.mono hb1.size)⟩
end Go.Proofs.Ytddllchobojmlaa
