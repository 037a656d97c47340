/- DirOrder: the law's walk. -/
import Derived.Test.YthifejdphflfpaaDoorOrdB
namespace Go.Proofs.YthifejdphflfpaaDoor
open Go.RowKit Go.Sort
set_option maxRecDepth 100000 in
set_option maxHeartbeats 2000000 in
theorem DirOrder_any (p : Option Addr) (cap : Nat) (l : List Nm) (t : Int) (w : World) (hE : Env w) (hm : l.length ≤ maxLen) (hc : NsAt w p l) :
    Calls Tryd.prog 3 #[.slice p l.length cap, .int .i64 t] w fun e w' => e = .returned (.bool true) ∧ Below w.heap.size w w' := by
  have HL := Lib.hid (lives_any w hE)
  unfold maxLen at hm
  go_enter Tryd.func3, Tryd.ntmps3
  go_wp2_with (go_at_call 9; refine HL.out.mono ?_; rintro e w1 ⟨rfl, hb1⟩; refine Hid.out ?_)
  refine Lib.hid ?_
  go_wp2_with fail
  go_loopw [5, 7, 20] (fun a s i wr => ∃ (k : Nat) (A S : List Nm), k ≤ l.length ∧ k ≤ 40 ∧ i = .int .i64 k ∧ S.length ≤ k ∧ OwnP w.heap.size A a wr ∧ OwnP w.heap.size S s wr ∧ Apt a s ∧ rightL A = true ∧ A.Perm S ∧ Below w.heap.size w wr) (fun _ _ i _ => 40 - (intOf i).toNat)
  case atStart => exact ⟨0, [], [], by omega, by omega, rfl, Nat.le_refl _, OwnP.nil _ _, OwnP.nil _ _, fun g hg => by simp [Value.ownBlock] at hg, rfl, List.Perm.refl _, hb1⟩
  case round =>
    obtain ⟨k, A, S, hk, hk4, rfl, hSk, hoA, hoS, hap, hrA, hpe, hB⟩ := hrel
    have hz := hB.size
    have HoA := Lib.hid hoA
    have HoS := Lib.hid hoS
    have HAp := Lib.hid hap
    have HrA := Lib.hid hrA
    have HPe := Lib.hid hpe
    have HB := Lib.hid hB
    have hSk' := Lib.hid hSk
    obtain ⟨pA, cA, rfl, -, hRA⟩ := own_rat hoA
    clear hoA hoS hap hrA hpe hSk hb1
    by_cases hgo : k < l.length ∧ k < 40
    · obtain ⟨hlt, h40⟩ := hgo
      have hki : (k : Int) < (l.length : Int) := by omega
      obtain ⟨b, off, rfl, hbl, hq⟩ := hc k hlt
      obtain ⟨c0, c1, c2⟩ := hq.below hB hbl
      have hbw : b < wr.heap.size := Nat.lt_of_lt_of_le hbl hz
      obtain ⟨m, hmm⟩ : ∃ m, l[k] = m := ⟨_, rfl⟩
      rw [hmm] at c0 c1 c2
      clear hq hmm hB
      have hk40 : ¬ (40 : Int) ≤ (k : Int) := by omega
      obtain ⟨X, hX⟩ : ∃ X, wr.alloc (.cells #[.string m.nm, .int .i64 m.kd, .int .i64 m.id] 25) = X := ⟨_, rfl⟩
      have hXs : X.heap.size = wr.heap.size + 1 := by rw [← hX]; simp
      have hXm : X.heap[wr.heap.size]? = some (nmB m) := by rw [← hX]; exact heap_new _ _
      have hXB : Below wr.heap.size wr X := by rw [← hX]; exact (Below.refl _ _).alloc (Nat.le_refl _) _
      obtain ⟨e0, e1, e2⟩ := nm_cells hXm
      have HP := Lib.hid (Put_any pA cA A m X (hRA.below hXB))
      have HXm := Lib.hid hXm
      have HXB := Lib.hid hXB
      have HXs := Lib.hid hXs
      clear hXm hXB hXs hRA
      by_cases hpe0 : putE A m = 0
      · have hL : putL A m = insL A m := by unfold putL; rw [if_pos hpe0]
        rw [hpe0, hL] at HP
        have HPU := Lib.hid hpe0
        clear hL hpe0
        go_wp2_with (go_at_call 10; refine HP.out.mono ?_; rintro e w2 ⟨v2, rfl, ho2, hb2⟩; refine Hid.out ?_)
        refine Lib.hid ?_
        have HXw := Lib.hid (HXB.out.trans (hb2.mono HXB.out.size))
        have HM2 : Hid (w2.heap[wr.heap.size]? = some (nmB m)) := (hb2.block _ (by have := HXs.out; omega)).trans HXm.out
        have HB2 := Lib.hid (HB.out.trans (HXw.out.mono hz))
        have hS2 : OwnP w.heap.size S u7 w2 := HoS.out.mono HXw.out
        have hA2 : OwnP w.heap.size (insL A m) v2 w2 := OwnP.le ho2 (by have := HXs.out; omega)
        have hlow : ∀ g, v2.ownBlock = some g → wr.heap.size < g ∧ g < w2.heap.size := fun g hg => by
          have := World.ownsRow.lt ho2 g hg
          have := HXs.out
          omega
        have hlow2 : ∀ g, u7.ownBlock = some g → g < wr.heap.size := fun g hg => (World.ownsRow.lt HoS.out g hg).2
        have HA2 := Lib.hid hA2
        have HS2 := Lib.hid hS2
        have HW1 := Lib.hid hlow
        have HW2 := Lib.hid hlow2
        have hz2 : w.heap.size ≤ w2.heap.size := HB2.out.size
        clear ho2 hb2 hS2 hA2 hlow hlow2 e0 e1 e2 hX HXm HXs HoA HoS HP HXB
        obtain ⟨e0, e1, e2⟩ := nm_cells HM2.out
        have hSl : (S.length + 1) * 32 ≤ 140737488355328 := by have := hSk'.out; omega
        go_wp2_with (at_builtin; refine app_nm rfl _ _ rfl w.heap.size u7 S m rfl HS2.out hz2 hSl w2.heap.size rfl rfl ?_; intro v3 w3 ho3 hb3 hk3 hat3; have HO3 := Lib.hid ho3; have HB3 := Lib.hid hb3; have HK3 := Lib.hid hk3; have HT3 := Lib.hid hat3; clear ho3 hb3 hk3 hat3)
        go_roundw
        case rel =>
          refine ⟨k + 1, insL A m, S ++ [m], by omega, by omega, by go_num, by have := hSk'.out; rw [List.length_append]; simp; omega, ?_, HO3.out, ?_, (putE_ok.1 HPU.out).2.2.2, ?_, HB2.out.trans HB3.out⟩
          · exact HA2.out.same fun g hg => HK3.out g (HW1.out g hg).2 fun he => by
              have h1 := HW1.out g hg
              have h2 := HW2.out g he.symm
              omega
          · intro g hg he
            have h1 := HW1.out g hg
            rcases HT3.out with h | h
            · have h2 := HW2.out g (by rw [← h]; exact he)
              omega
            · rw [h] at he
              have := Option.some.inj he
              omega
          · exact ((insL_perm m A).trans (HPe.out.cons m)).trans (List.perm_append_singleton _ _).symm
        case measure => simp [intOf]; omega
      · obtain ⟨cd, hcd⟩ : ∃ cd, putE A m = cd := ⟨_, rfl⟩
        rw [hcd] at HP hpe0
        have hcb : (cd == 0) = false := by simpa using hpe0
        clear hcd hpe0
        go_wp2_with (go_at_call 10; refine HP.out.mono ?_; rintro e w2 ⟨v2, rfl, ho2, hb2⟩; have HB2 := Lib.hid hb2; clear ho2 hb2)
        go_roundw
        case rel =>
          have hXw : Below wr.heap.size wr w2 := HXB.out.trans (HB2.out.mono HXB.out.size)
          exact ⟨k + 1, A, S, by omega, by omega, by go_num, by have := hSk'.out; omega, HoA.out.mono hXw, HoS.out.mono hXw, HAp.out, HrA.out, HPe.out, HB.out.trans (hXw.mono hz)⟩
        case measure => simp [intOf]; omega
    · have key : (¬ (k : Int) < (l.length : Int)) ∨ ((40 : Int) ≤ (k : Int) ∧ (k : Int) < (l.length : Int) ∧ ∃ b off m, p = some ⟨b, off, none⟩ ∧ b < wr.heap.size ∧ NmAt wr b (off + k * 3) m) := by
        by_cases hlt : k < l.length
        · obtain ⟨b, off, rfl, hbl, hq⟩ := hc k hlt
          exact .inr ⟨by omega, by omega, b, off, _, rfl, Nat.lt_of_lt_of_le hbl hz, hq.below hB hbl⟩
        · exact .inl (by omega)
      clear hgo hc HL hE
      have hSl : S.length ≤ 40 := by have := hSk'.out; omega
      clear hSk' HAp
      obtain ⟨pS, cS, rfl, -, hRS⟩ := own_rat HoS.out
      obtain ⟨K, hK, hKl⟩ : ∃ K : Nat, (0 < S.length → wrap64 ((IntKind.u64.wrap t).tmod (S.length : Int)) = (K : Int)) ∧ ((0 < S.length → K < S.length) ∧ (¬ 0 < S.length → K = 0)) := by
        by_cases hS0 : 0 < S.length
        · have h0 : 0 ≤ IntKind.u64.wrap t := by rw [IntKind.wrap_u64]; omega
          have h1 : (IntKind.u64.wrap t).tmod (S.length : Int) = (IntKind.u64.wrap t) % (S.length : Int) := Int.tmod_eq_emod_of_nonneg h0
          have h2 := Int.emod_nonneg (IntKind.u64.wrap t) (show (S.length : Int) ≠ 0 by omega)
          have h3 := Int.emod_lt_of_pos (IntKind.u64.wrap t) (show (0 : Int) < (S.length : Int) by omega)
          refine ⟨((IntKind.u64.wrap t) % (S.length : Int)).toNat, fun _ => ?_, fun _ => by omega, fun h => absurd hS0 h⟩
          rw [h1]; unfold wrap64; omega
        · exact ⟨0, fun h => absurd h hS0, fun h => absurd h hS0, fun _ => rfl⟩
      have HKl := Lib.hid hKl
      clear hKl
      have HRX := Lib.hid hRA
      clear hRA
      rcases key with hki | ⟨hk40, hki, b, off, m, rfl, hbw, c0, c1, c2⟩
      · obtain ⟨X, rfl⟩ : ∃ X, X = wr := ⟨_, rfl⟩
        have HBX := HB
        have hRX := HRX.out
        clear HB HRX HoS
        by_cases hS0 : 0 < S.length
        · have hK' := hK hS0
          clear hK
          go_wp2_with fail
          go_loopw [6, 53] (fun bv i wr => ∃ (k : Nat) (B : List Nm), k ≤ S.length ∧ i = .int .i64 k ∧ OwnP X.heap.size B bv wr ∧ rightL B = true ∧ B.Perm ((rotL S K).take k) ∧ Below X.heap.size X wr) (fun _ i _ => S.length - (intOf i).toNat)
          case atStart => exact ⟨0, [], by omega, rfl, OwnP.nil _ _, rfl, by rw [List.take_zero], Below.refl _ _⟩
          case round =>
            obtain ⟨k2, B, hk2, rfl, hoB, hrB, hpB, hB2⟩ := hrel
            have hz2 := hB2.size
            by_cases hlt : k2 < S.length
            · have hki2 : (k2 : Int) < (S.length : Int) := by omega
              have hlr : k2 < (rotL S K).length := by rw [rotL_len]; exact hlt
              have hst := step_ok HrA.out (HPe.out.trans (rotL_perm S K).symm) hlr hrB hpB
              have hget := rotL_get S K k2 (HKl.out.1 hS0) hlt
              have hjl : S.length - 1 - (k2 + K) % S.length < S.length := by omega
              rw [List.getElem?_eq_getElem hlr, List.getElem?_eq_getElem hjl] at hget
              have hget := Option.some.inj hget
              obtain ⟨j, hj⟩ : ∃ j, S.length - 1 - (k2 + K) % S.length = j := ⟨_, rfl⟩
              have hjl2 : j < S.length := by omega
              have hji : (S.length : Int) - 1 - ((k2 : Int) + (K : Int)) % (S.length : Int) = (j : Int) := by
                rw [← hj]
                have := Nat.mod_lt (k2 + K) hS0
                have e : ((k2 : Int) + (K : Int)) % (S.length : Int) = (((k2 + K) % S.length : Nat) : Int) := by push_cast; rfl
                rw [e]; omega
              obtain ⟨n, hn⟩ : ∃ n, (rotL S K)[k2] = n := ⟨_, rfl⟩
              have hSn : S[j] = n := by rw [← hn, hget]; congr 1; exact hj.symm
              rw [hn] at hst
              obtain ⟨bS, oS, rfl, hbS, hqS⟩ := hRS.row j hjl2
              rw [hSn] at hqS
              obtain ⟨c0, c1, c2⟩ := hqS.below hB2 hbS
              have hbSr : bS < wr.heap.size := by omega
              obtain ⟨pB, cB, rfl, -, hRB⟩ := own_rat hoB
              have HP := Lib.hid (Put_any pB cB B n wr hRB)
              rw [hst.1, show putL B n = insL B n from by unfold putL; rw [if_pos hst.1]] at HP
              have HST := Lib.hid hst
              have hK0 : (0 : Int) ≤ (K : Int) ∧ (K : Int) ≤ 40 := by have := HKl.out.1 hS0; omega
              have hjj : (j : Int) < (S.length : Int) := by omega
              clear hst hget hn hSn hqS hRS hj hoB hrB hpB hRB
              go_wp2_with (go_at_call 10; refine HP.out.mono ?_; rintro e w2 ⟨v2, rfl, ho2, hb2⟩; have HO2 := Lib.hid ho2; have HB3 := Lib.hid hb2; clear ho2 hb2)
              go_roundw
              case rel => exact ⟨k2 + 1, insL B n, by omega, by go_num, OwnP.le HO2.out hz2, (putE_ok.1 HST.out.1).2.2.2, HST.out.2, hB2.trans (HB3.out.mono hz2)⟩
              case measure => simp [intOf]; omega
            · obtain rfl : k2 = S.length := by omega
              have hkk : ¬ (S.length : Int) < (S.length : Int) := by omega
              have hBA : B = A := by
                rw [List.take_of_length_le (by rw [rotL_len]; exact Nat.le_refl _)] at hpB
                exact right_perm hrB HrA.out ((hpB.trans (rotL_perm S K)).trans HPe.out.symm)
              subst hBA
              obtain ⟨pB, cB, rfl, -, hRB⟩ := own_rat hoB
              have hRA2 := hRX.below hB2
              have hlB : B.length ≤ maxLen := Nat.le_trans hRA2.len hRA2.top
              have HSm := Lib.hid (Same_any pA pB cA cB B B wr hlB hRA2.row hRB.row)
              rw [decide_eq_true rfl] at HSm
              have HRt := Lib.hid (fun W (h : Below wr.heap.size wr W) => Right_any pA cA B W hlB (hRA2.row.below h))
              rw [hrB] at HRt
              have HB2 := Lib.hid hB2
              clear hoB hrB hpB hRS hRB hRX hRA2 hB2 HKl
              go_wp2_with (first
                | (go_at_call 11; refine HSm.out.mono ?_; rintro e w2 ⟨rfl, hb2⟩; have HB3 := Lib.hid hb2; clear hb2)
                | (go_at_call 12; refine (HRt.out _ HB3.out).mono ?_; rintro e w3 ⟨rfl, hb3⟩))
              go_ret
              exact ⟨rfl, (HBX.out.trans (HB2.out.mono HBX.out.size)).trans ((HB3.out.trans (hb3.mono HB3.out.size)).mono (HBX.out.trans (HB2.out.mono HBX.out.size)).size)⟩
        · obtain rfl : S = [] := List.length_eq_zero_iff.1 (by omega)
          obtain rfl : A = [] := HPe.out.eq_nil
          clear hK
          go_wp2_with fail
          go_loopw [6, 53] (fun bv i wr => bv = .slice none 0 0 ∧ i = .int .i64 0 ∧ Below X.heap.size X wr) (fun _ _ _ => 0)
          case atStart => exact ⟨rfl, rfl, Below.refl _ _⟩
          case round =>
            obtain ⟨rfl, rfl, hB2⟩ := hrel
            have hRA2 := hRX.below hB2
            have hlB : ([] : List Nm).length ≤ maxLen := by unfold maxLen; simp
            have HSm : Hid (Calls Tryd.prog 11 #[.slice pA 0 cA, .slice none 0 0] wr fun e w' => e = .returned (.bool true) ∧ Below wr.heap.size wr w') := Same_any pA none cA 0 [] [] wr hlB hRA2.row (fun j hj => by simp at hj)
            have HRt : Hid (∀ W, Below wr.heap.size wr W → Calls Tryd.prog 12 #[.slice pA 0 cA] W fun e w' => e = .returned (.bool true) ∧ Below W.heap.size W w') := fun W h => Right_any pA cA [] W hlB (hRA2.row.below h)
            have HB2 := Lib.hid hB2
            clear hRS hRX hRA2 hB2 HKl
            go_wp2_with (first
              | (go_at_call 11; refine HSm.out.mono ?_; rintro e w2 ⟨rfl, hb2⟩; have HB3 := Lib.hid hb2; clear hb2)
              | (go_at_call 12; refine (HRt.out _ HB3.out).mono ?_; rintro e w3 ⟨rfl, hb3⟩))
            go_ret
            exact ⟨rfl, (HBX.out.trans (HB2.out.mono HBX.out.size)).trans ((HB3.out.trans (hb3.mono HB3.out.size)).mono (HBX.out.trans (HB2.out.mono HBX.out.size)).size)⟩
      · obtain ⟨X, hX⟩ : ∃ X, wr.alloc (.cells #[.string m.nm, .int .i64 m.kd, .int .i64 m.id] 25) = X := ⟨_, rfl⟩
        have hXB : Below wr.heap.size wr X := by rw [← hX]; exact (Below.refl _ _).alloc (Nat.le_refl _) _
        have HBX := Lib.hid (HB.out.trans (hXB.mono hz))
        have hRX := HRX.out.below hXB
        replace hRS := hRS.below hXB
        replace HoA := Lib.hid (HoA.out.mono hXB)
        clear HB HRX HoS hXB
        by_cases hS0 : 0 < S.length
        · have hK' := hK hS0
          clear hK
          go_wp2_with fail
          clear hX
          rw [hK']
          go_loopw [6, 53] (fun bv i wr => ∃ (k : Nat) (B : List Nm), k ≤ S.length ∧ i = .int .i64 k ∧ OwnP X.heap.size B bv wr ∧ rightL B = true ∧ B.Perm ((rotL S K).take k) ∧ Below X.heap.size X wr) (fun _ i _ => S.length - (intOf i).toNat)
          case atStart => exact ⟨0, [], by omega, rfl, OwnP.nil _ _, rfl, by rw [List.take_zero], Below.refl _ _⟩
          case round =>
            obtain ⟨k2, B, hk2, rfl, hoB, hrB, hpB, hB2⟩ := hrel
            have hz2 := hB2.size
            by_cases hlt : k2 < S.length
            · have hki2 : (k2 : Int) < (S.length : Int) := by omega
              have hlr : k2 < (rotL S K).length := by rw [rotL_len]; exact hlt
              have hst := step_ok HrA.out (HPe.out.trans (rotL_perm S K).symm) hlr hrB hpB
              have hget := rotL_get S K k2 (HKl.out.1 hS0) hlt
              have hjl : S.length - 1 - (k2 + K) % S.length < S.length := by omega
              rw [List.getElem?_eq_getElem hlr, List.getElem?_eq_getElem hjl] at hget
              have hget := Option.some.inj hget
              obtain ⟨j, hj⟩ : ∃ j, S.length - 1 - (k2 + K) % S.length = j := ⟨_, rfl⟩
              have hjl2 : j < S.length := by omega
              have hji : (S.length : Int) - 1 - ((k2 : Int) + (K : Int)) % (S.length : Int) = (j : Int) := by
                rw [← hj]
                have := Nat.mod_lt (k2 + K) hS0
                have e : ((k2 : Int) + (K : Int)) % (S.length : Int) = (((k2 + K) % S.length : Nat) : Int) := by push_cast; rfl
                rw [e]; omega
              obtain ⟨n, hn⟩ : ∃ n, (rotL S K)[k2] = n := ⟨_, rfl⟩
              have hSn : S[j] = n := by rw [← hn, hget]; congr 1; exact hj.symm
              rw [hn] at hst
              obtain ⟨bS, oS, rfl, hbS, hqS⟩ := hRS.row j hjl2
              rw [hSn] at hqS
              obtain ⟨c0, c1, c2⟩ := hqS.below hB2 hbS
              have hbSr : bS < wr.heap.size := by omega
              obtain ⟨pB, cB, rfl, -, hRB⟩ := own_rat hoB
              have HP := Lib.hid (Put_any pB cB B n wr hRB)
              rw [hst.1, show putL B n = insL B n from by unfold putL; rw [if_pos hst.1]] at HP
              have HST := Lib.hid hst
              have hK0 : (0 : Int) ≤ (K : Int) ∧ (K : Int) ≤ 40 := by have := HKl.out.1 hS0; omega
              have hjj : (j : Int) < (S.length : Int) := by omega
              clear hst hget hn hSn hqS hRS hj hoB hrB hpB hRB
              go_wp2_with (go_at_call 10; refine HP.out.mono ?_; rintro e w2 ⟨v2, rfl, ho2, hb2⟩; have HO2 := Lib.hid ho2; have HB3 := Lib.hid hb2; clear ho2 hb2)
              go_roundw
              case rel => exact ⟨k2 + 1, insL B n, by omega, by go_num, OwnP.le HO2.out hz2, (putE_ok.1 HST.out.1).2.2.2, HST.out.2, hB2.trans (HB3.out.mono hz2)⟩
              case measure => simp [intOf]; omega
            · obtain rfl : k2 = S.length := by omega
              have hkk : ¬ (S.length : Int) < (S.length : Int) := by omega
              have hBA : B = A := by
                rw [List.take_of_length_le (by rw [rotL_len]; exact Nat.le_refl _)] at hpB
                exact right_perm hrB HrA.out ((hpB.trans (rotL_perm S K)).trans HPe.out.symm)
              subst hBA
              obtain ⟨pB, cB, rfl, -, hRB⟩ := own_rat hoB
              have hRA2 := hRX.below hB2
              have hlB : B.length ≤ maxLen := Nat.le_trans hRA2.len hRA2.top
              have HSm := Lib.hid (Same_any pA pB cA cB B B wr hlB hRA2.row hRB.row)
              rw [decide_eq_true rfl] at HSm
              have HRt := Lib.hid (fun W (h : Below wr.heap.size wr W) => Right_any pA cA B W hlB (hRA2.row.below h))
              rw [hrB] at HRt
              have HB2 := Lib.hid hB2
              clear hoB hrB hpB hRS hRB hRX hRA2 hB2 HKl
              go_wp2_with (first
                | (go_at_call 11; refine HSm.out.mono ?_; rintro e w2 ⟨rfl, hb2⟩; have HB3 := Lib.hid hb2; clear hb2)
                | (go_at_call 12; refine (HRt.out _ HB3.out).mono ?_; rintro e w3 ⟨rfl, hb3⟩))
              go_ret
              exact ⟨rfl, (HBX.out.trans (HB2.out.mono HBX.out.size)).trans ((HB3.out.trans (hb3.mono HB3.out.size)).mono (HBX.out.trans (HB2.out.mono HBX.out.size)).size)⟩
        · obtain rfl : S = [] := List.length_eq_zero_iff.1 (by omega)
          obtain rfl : A = [] := HPe.out.eq_nil
          clear hK
          go_wp2_with fail
          clear hX
          go_loopw [6, 53] (fun bv i wr => bv = .slice none 0 0 ∧ i = .int .i64 0 ∧ Below X.heap.size X wr) (fun _ _ _ => 0)
          case atStart => exact ⟨rfl, rfl, Below.refl _ _⟩
          case round =>
            obtain ⟨rfl, rfl, hB2⟩ := hrel
            have hRA2 := hRX.below hB2
            have hlB : ([] : List Nm).length ≤ maxLen := by unfold maxLen; simp
            have HSm : Hid (Calls Tryd.prog 11 #[.slice pA 0 cA, .slice none 0 0] wr fun e w' => e = .returned (.bool true) ∧ Below wr.heap.size wr w') := Same_any pA none cA 0 [] [] wr hlB hRA2.row (fun j hj => by simp at hj)
            have HRt : Hid (∀ W, Below wr.heap.size wr W → Calls Tryd.prog 12 #[.slice pA 0 cA] W fun e w' => e = .returned (.bool true) ∧ Below W.heap.size W w') := fun W h => Right_any pA cA [] W hlB (hRA2.row.below h)
            have HB2 := Lib.hid hB2
            clear hRS hRX hRA2 hB2 HKl
            go_wp2_with (first
              | (go_at_call 11; refine HSm.out.mono ?_; rintro e w2 ⟨rfl, hb2⟩; have HB3 := Lib.hid hb2; clear hb2)
              | (go_at_call 12; refine (HRt.out _ HB3.out).mono ?_; rintro e w3 ⟨rfl, hb3⟩))
            go_ret
            exact ⟨rfl, (HBX.out.trans (HB2.out.mono HBX.out.size)).trans ((HB3.out.trans (hb3.mono HB3.out.size)).mono (HBX.out.trans (HB2.out.mono HBX.out.size)).size)⟩
end Go.Proofs.YthifejdphflfpaaDoor
