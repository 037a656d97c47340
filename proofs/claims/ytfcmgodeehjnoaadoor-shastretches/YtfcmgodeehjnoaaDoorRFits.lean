/- Is a power at most a prime? As the reference asks it. -/
import Derived.Test.YtfcmgodeehjnoaaDoorRTimes
namespace Go.Proofs.YtfcmgodeehjnoaaDoor
open Go.RowKit Go.Sort
theorem powR_succ (f : List Nat) (e : Nat) (n : List Nat) : powR f (e + 1) n = powR f e (timesR n f) := rfl
theorem high_cons (x : Nat) (l : List Nat) : highR (x :: l) = (highR l * 4294967296 + x) % 18446744073709551616 := by unfold highR; rw [List.foldr_cons]
theorem high_lt (l : List Nat) : highR l < 18446744073709551616 := by
  cases l with
  | nil => unfold highR; rw [List.foldr_nil]; decide
  | cons x l => rw [high_cons]; exact Nat.mod_lt _ (by decide)
theorem highW (h x : Nat) : IntKind.u64.wrap (IntKind.u64.wrap ((h : Int) * 4294967296) + (x : Int)) = (((h * 4294967296 + x) % 18446744073709551616 : Nat) : Int) := by
  rw [IntKind.wrap_u64, IntKind.wrap_u64]; omega
theorem any_snoc (l : List Nat) (k : Nat) (h : k < l.length) : ((l.take (k + 1)).any fun y => decide (0 < y)) = (((l.take k).any fun y => decide (0 < y)) || decide (0 < l.getD k 0)) := by
  rw [List.take_succ_eq_append_getElem h, List.any_append, List.getD_eq_getElem?_getD, List.getElem?_eq_getElem h]
  simp
theorem fits_eq (x p e : Nat) (P : List Nat) (h : powR [x % 4294967296, x / 4294967296] e [1] = P) : fitsR x p e = (decide (highR (P.drop e) < p) || (decide (highR (P.drop e) = p) && !((P.take e).any fun y => decide (0 < y)))) := by
  unfold fitsR; rw [h]
set_option maxRecDepth 100000 in
set_option maxHeartbeats 4000000 in
theorem fits_any (x p e : Nat) (w : World) (hx : x < 18446744073709551616) (he : e < 10) (he0 : 0 < e) : Calls Tryd.prog 21 #[.int .u64 (x : Int), .int .u64 (p : Int), .int .i64 (e : Int)] w fun r w' => r = .returned (.bool (fitsR x p e)) ∧ Below w.heap.size w w' := by
  have q1 : (x : Int) % 4294967296 = ((x % 4294967296 : Nat) : Int) := by omega
  have q2 : (x : Int) / 4294967296 = ((x / 4294967296 : Nat) : Int) := by omega
  have q3 : IntKind.u64.wrap ((x / 4294967296 : Nat) : Int) = ((x / 4294967296 : Nat) : Int) := by rw [IntKind.wrap_u64]; omega
  obtain ⟨P, hP⟩ : ∃ P, powR [x % 4294967296, x / 4294967296] e [1] = P := ⟨_, rfl⟩
  have HF := Lib.hid (fits_eq x p e P hP)
  obtain ⟨lo, hlo⟩ : ∃ lo, x % 4294967296 = lo := ⟨_, rfl⟩
  obtain ⟨hi, hhi⟩ : ∃ hi, x / 4294967296 = hi := ⟨_, rfl⟩
  rw [hlo] at q1 hP
  rw [hhi] at q2 q3 hP
  obtain ⟨W, hW, hb, hA, hB, hs⟩ := two_new w #[.int .u64 1] #[.int .u64 (lo : Int), .int .u64 (hi : Int)] 36 36
  have hA1 : At W w.heap.size 0 (Q [1]) := hA
  have hF1 : At W (w.heap.size + 1) 0 (Q [lo, hi]) := hB
  have HP := Lib.hid hP
  clear hlo hhi hx hA hB hP
  go_enter Tryd.func21, Tryd.ntmps21
  go_wp2_with fail
  have hwf : w.heap.size + 1 < W.heap.size := by omega
  have hb2 : Below w.heap.size w W := hb
  clear hs hb hW q1 q2 q3
  go_loopw [7, 9] (fun sv v wr => ∃ (i gn cp : Nat) (N : List Nat), v = .int .i64 i ∧ sv = .slice (some ⟨gn, 0, none⟩) N.length cp ∧ i ≤ e ∧ N.length = 1 + 2 * i ∧ At wr gn 0 (Q N) ∧ powR [lo, hi] (e - i) N = P ∧ Below W.heap.size W wr) (fun _ v _ => (e - intOf v).toNat)
  case atStart => exact ⟨0, w.heap.size, 1, [1], rfl, rfl, by omega, rfl, hA1, HP.out, Below.refl _ _⟩
  case round =>
    obtain ⟨i, gn, cp, N, rfl, rfl, hi9, hNl, hN, hpw, hbr⟩ := hrel
    clear hA1
    by_cases hlt : i < e
    · have hii : (i : Int) < (e : Int) := by omega
      have hF := hF1.below hbr hwf
      have HT := Lib.hid (times_any gn cp (w.heap.size + 1) 2 N [lo, hi] wr hN hF (by omega) (by simp) (by omega) (by simp))
      rw [show e - i = (e - (i + 1)) + 1 from by omega, powR_succ] at hpw
      have HPw := Lib.hid hpw
      have HB := Lib.hid hbr
      have HI := Lib.hid hlt
      have HL := Lib.hid hNl
      obtain ⟨M, hM⟩ : ∃ M, timesR N [lo, hi] = M := ⟨_, rfl⟩
      rw [hM] at HT HPw
      rw [show ([lo, hi] : List Nat).length = 2 from rfl] at HT
      clear hpw hbr hlt hN hF hM hi9 hNl
      go_wp2_with (go_at_call 27; refine HT.out.mono ?_; rintro r w2 ⟨rfl, hA2, hl2, hb3⟩; refine Hid.out ?_)
      refine Lib.hid ?_
      have HA2 := Lib.hid hA2
      have HB2 := Lib.hid (HB.out.trans (hb3.mono HB.out.size))
      have HL2 := Lib.hid hl2
      rw [← hl2]
      clear hA2 hb3 hl2
      go_wp2
      exact ⟨⟨i + 1, _, _, M, by go_num, rfl, by have := HI.out; omega, by have := HL2.out; have := HL.out; omega, HA2.out, HPw.out, HB2.out⟩, by simp only [intOf]; have := HI.out; omega⟩
    · obtain rfl : i = e := by omega
      have hii : ¬ (i : Int) < (i : Int) := by omega
      rw [Nat.sub_self] at hpw
      have hNP : N = P := hpw
      subst hNP
      clear hpw hF1
      have HN := Lib.hid hN
      have HB := Lib.hid (hb2.trans (hbr.mono hb2.size))
      have hle : i ≤ N.length := by omega
      clear hN hbr hb2
      go_wp2_with fail
      go_loopw [10, 11] (fun hv v wz => ∃ j h : Nat, v = .int .i64 ((j : Int) - 1) ∧ hv = .int .u64 h ∧ i ≤ j ∧ j ≤ N.length ∧ h = highR (N.drop j) ∧ wz = wr) (fun _ v _ => (intOf v + 1).toNat)
      case atStart => exact ⟨N.length, 0, by go_num, rfl, hle, Nat.le_refl _, by rw [List.drop_of_length_le (Nat.le_refl _)]; rfl, rfl⟩
      case round =>
        obtain ⟨j, h, rfl, rfl, hij, hjl, hh, rfl⟩ := hrel
        by_cases hlt2 : i < j
        · have hge : (i : Int) ≤ (j : Int) - 1 := by omega
          have hx1 : ((j : Int) - 1).toNat = j - 1 := by omega
          have hx2 : 0 ≤ (j : Int) - 1 := by omega
          have hx3 : (j : Int) - 1 < (N.length : Int) := by omega
          have hx4 : (j : Int) ≤ 100 := by omega
          have cx := Q_at HN.out (j - 1) (by omega)
          have hd := drop_cons (l := N) (i := j - 1) (by omega)
          rw [show j - 1 + 1 = j from by omega] at hd
          obtain ⟨y, hy⟩ : ∃ y, N.getD (j - 1) 0 = y := ⟨_, rfl⟩
          rw [hy] at cx hd
          have hW := highW h y
          obtain ⟨z, hz⟩ : ∃ z, (h * 4294967296 + y) % 18446744073709551616 = z := ⟨_, rfl⟩
          rw [hz] at hW
          have HZ : Hid (z = highR (N.drop (j - 1))) := Lib.hid (by rw [hd, high_cons, ← hh]; exact hz.symm)
          have HJ := Lib.hid (And.intro hlt2 hjl)
          clear hd hy hz hh hlt2 hij hjl
          go_wp2
          refine ⟨⟨j - 1, z, congrArg _ (by omega), rfl, by have := HJ.out; omega, by have := HJ.out; omega, HZ.out, trivial⟩, by simp only [intOf]; have := HJ.out; omega⟩
        · obtain rfl : j = i := by omega
          have hge : ¬ (j : Int) ≤ (j : Int) - 1 := by omega
          have hhl := high_lt (N.drop j)
          have HH := Lib.hid hh
          rw [← hh] at hhl
          clear hh hlt2 hij hjl
          go_wp2_with fail
          go_loopw [12, 13] (fun bv v wz => ∃ k : Nat, v = .int .i64 k ∧ bv = .bool ((N.take k).any fun y => decide (0 < y)) ∧ k ≤ j ∧ wz = wr) (fun _ v _ => (j - intOf v).toNat)
          case atStart => exact ⟨0, rfl, by rw [List.take_zero]; rfl, by omega, rfl⟩
          case round =>
            obtain ⟨k, rfl, rfl, hk, rfl⟩ := hrel
            by_cases hkl : k < j
            · have hki : (k : Int) < (j : Int) := by omega
              have hkN : (k : Int) < (N.length : Int) := by omega
              have cx := Q_at HN.out k (by omega)
              have HS := Lib.hid (any_snoc N k (by omega))
              obtain ⟨y, hy⟩ : ∃ y, N.getD k 0 = y := ⟨_, rfl⟩
              rw [hy] at cx HS
              obtain ⟨bo, hbo⟩ : ∃ bo, ((N.take k).any fun y => decide (0 < y)) = bo := ⟨_, rfl⟩
              rw [hbo] at HS
              rw [hbo]
              have HKl := Lib.hid hkl
              have hxx : ((0 : Int) < (y : Int)) ↔ 0 < y := by omega
              have HXX := Lib.hid hxx
              clear hbo hy hkl hk hxx
              cases bo
              · go_wp2
                exact ⟨⟨k + 1, by go_num, by rw [HS.out]; simp, by have := HKl.out; omega, trivial⟩, by simp only [intOf]; have := HKl.out; omega⟩
              · go_wp2
                exact ⟨⟨k + 1, by go_num, by rw [HS.out]; simp, by have := HKl.out; omega, trivial⟩, by simp only [intOf]; have := HKl.out; omega⟩
            · obtain rfl : k = j := by omega
              have hki : ¬ (k : Int) < (k : Int) := by omega
              obtain ⟨bo, hbo⟩ : ∃ bo, ((N.take k).any fun y => decide (0 < y)) = bo := ⟨_, rfl⟩
              have HFF : Hid (fitsR x p k = (decide (h < p) || (decide (h = p) && !bo))) := Lib.hid (by rw [HF.out, ← HH.out, hbo])
              rw [hbo]
              clear hbo hk
              by_cases c1 : h < p
              · have c1i : (h : Int) < (p : Int) := by omega
                have HR : Hid (fitsR x p k = true) := Lib.hid (by rw [HFF.out]; simp [c1])
                clear c1
                go_wp2
                go_ret
                exact ⟨ret_bool (by rw [HR.out]), HB.out⟩
              · have c1i : ¬ (h : Int) < (p : Int) := by omega
                by_cases c2 : h = p
                · have c2i : (h : Int) = (p : Int) := by omega
                  have HR : Hid (fitsR x p k = !bo) := Lib.hid (by rw [HFF.out]; simp [c2])
                  clear c1 c2
                  go_wp2
                  go_ret
                  exact ⟨ret_bool (by rw [HR.out]), HB.out⟩
                · have c2i : ¬ (h : Int) = (p : Int) := by omega
                  have HR : Hid (fitsR x p k = false) := Lib.hid (by rw [HFF.out]; simp [c1, c2])
                  clear c1 c2
                  go_wp2
                  go_ret
                  exact ⟨ret_bool (by rw [HR.out]), HB.out⟩
end Go.Proofs.YtfcmgodeehjnoaaDoor
