/- Long numbers multiplied, as the reference does it. -/
import Derived.Test.YtfcmgodeehjnoaaDoorRTurn
import Derived.Test.YtfcmgodeehjnoaaDoorMix
import Derived.Deep.OwnRows
namespace Go.Proofs.YtfcmgodeehjnoaaDoor
open Go.RowKit Go.Sort
def Q (l : List Nat) : List Value := l.map fun n : Nat => Value.int .u64 (n : Int)
theorem Q_len (l : List Nat) : (Q l).length = l.length := by simp [Q]
theorem Q_set (l : List Nat) (j n : Nat) : (Q l).set j (.int .u64 (n : Int)) = Q (l.set j n) := by unfold Q; rw [List.map_set]
theorem Q_at {w : World} {b : Nat} {l : List Nat} (h : At w b 0 (Q l)) (j : Nat) (hj : j < l.length) : w.cell? ⟨b, j, none⟩ = some (.int .u64 (l.getD j 0 : Nat)) := by
  have := h.cell (j := j) (v := .int .u64 (l.getD j 0 : Nat)) (by unfold Q; rw [List.getElem?_map, List.getElem?_eq_getElem hj, List.getD_eq_getElem?_getD, List.getElem?_eq_getElem hj]; rfl)
  rw [Nat.zero_add] at this; exact this
theorem Q_fz {w : World} {b : Nat} {l : List Nat} (h : At w b 0 (Q l)) (j : Nat) (hj : j < l.length) : w.frozen? ⟨b, j, none⟩ = false := by
  have := h.fz j (by rw [Q_len]; exact hj)
  rw [Nat.zero_add] at this; exact this
theorem Q_put {w : World} {b : Nat} {l : List Nat} (h : At w b 0 (Q l)) (j n : Nat) (hj : j < l.length) : At (w.setCell ⟨b, j, none⟩ (.int .u64 (n : Int))) b 0 (Q (l.set j n)) := by
  have := h.set j (.int .u64 (n : Int)) (by rw [Q_len]; exact hj)
  rw [Q_set, Nat.zero_add] at this; exact this
theorem made_Q (n : Nat) : (madeCells #[.int .u64 0] n).toList = Q (List.replicate n 0) := by
  unfold madeCells Q
  apply List.ext_getElem?
  intro i
  rw [Array.getElem?_toList]
  by_cases h : i < n
  · simp [h, Nat.mod_one]
  · simp [h]
theorem u64Info : (Tryd.prog.info? 36).map (fun i => (i.zero, i.size, i.bytes)) = some (some (.int .u64 0), 1, 8) := by kernel_rfl
theorem mulW (a b o c : Nat) : IntKind.u64.wrap (IntKind.u64.wrap (IntKind.u64.wrap ((a : Int) * (b : Int)) + (o : Int)) + (c : Int)) = (((a * b + o + c) % 18446744073709551616 : Nat) : Int) := by
  rw [show (a : Int) * (b : Int) = ((a * b : Nat) : Int) from (Int.natCast_mul a b).symm]
  generalize a * b = P
  rw [IntKind.wrap_u64, IntKind.wrap_u64, IntKind.wrap_u64]; omega
theorem timesK_cons (ai i bk : Nat) (bs : List Nat) (k : Nat) (out : List Nat) (c : Nat) : timesK ai i (bk :: bs) k out c = timesK ai i bs (k + 1) (out.set (i + k) ((ai * bk + out.getD (i + k) 0 + c) % 18446744073709551616 % 4294967296)) ((ai * bk + out.getD (i + k) 0 + c) % 18446744073709551616 / 4294967296) := rfl
theorem timesK_nil (ai i k : Nat) (out : List Nat) (c : Nat) : timesK ai i [] k out c = (out, c) := rfl
theorem timesI_cons (b : List Nat) (ai : Nat) (xs : List Nat) (i : Nat) (out o : List Nat) (c : Nat) (h : timesK ai i b 0 out 0 = (o, c)) : timesI b (ai :: xs) i out = timesI b xs (i + 1) (o.set (i + b.length) ((o.getD (i + b.length) 0 + c) % 18446744073709551616)) := by
  rw [timesI, h]
theorem drop_cons {l : List Nat} {i : Nat} (h : i < l.length) : l.drop i = l.getD i 0 :: l.drop (i + 1) := by
  rw [List.drop_eq_getElem_cons h, List.getD_eq_getElem?_getD, List.getElem?_eq_getElem h]; rfl
set_option maxRecDepth 100000 in
set_option maxHeartbeats 2000000 in
theorem times_any (ga ca gb cb : Nat) (a b : List Nat) (w : World) (ha : At w ga 0 (Q a)) (hb : At w gb 0 (Q b)) (ha0 : 0 < a.length) (hb0 : 0 < b.length) (ha9 : a.length < 100) (hb9 : b.length < 100) :
    Calls Tryd.prog 27 #[.slice (some ⟨ga, 0, none⟩) a.length ca, .slice (some ⟨gb, 0, none⟩) b.length cb] w fun e w' => e = .returned (.slice (some ⟨w.heap.size, 0, none⟩) (a.length + b.length) (a.length + b.length)) ∧ At w' w.heap.size 0 (Q (timesR a b)) ∧ (timesR a b).length = a.length + b.length ∧ Below w.heap.size w w' := by
  have hga : ga < w.heap.size := ha.lt (by rw [Q_len]; exact ha0)
  have hgb : gb < w.heap.size := hb.lt (by rw [Q_len]; exact hb0)
  obtain ⟨W0, hW0, hbl, hA0, hs0⟩ := one_new w (madeCells #[.int .u64 0] (a.length + b.length)) 36
  rw [made_Q] at hA0
  have hmk := run_make_row' (P := Tryd.prog) 58 36 (.int .u64 0) 8 Tryd.underlying58 u64Info rfl .i64 .i64 (a.length + b.length) (by omega) (by omega) w
  rw [hW0] at hmk
  have hsum : (a.length : Int) + (b.length : Int) = ((a.length + b.length : Nat) : Int) := by omega
  obtain ⟨R, hR⟩ : ∃ R, timesR a b = R := ⟨_, rfl⟩
  have HR : Hid (timesI b (a.drop 0) 0 (List.replicate (a.length + b.length) 0) = R) := Lib.hid hR
  have HAa := Lib.hid ha
  have HBb := Lib.hid hb
  obtain ⟨n, hn⟩ : ∃ n, a.length + b.length = n := ⟨_, rfl⟩
  rw [hn] at hA0 hmk hsum HR
  rw [hR]
  have hn200 : n < 200 := by omega
  have HNn := Lib.hid hn
  clear ha hb hR hW0 hs0
  go_enter Tryd.func27, Tryd.ntmps27
  go_wp2_with fail
  go_loopw [18] (fun v wr => ∃ (i : Nat) (out : List Nat), v = .int .i64 i ∧ i ≤ a.length ∧ out.length = n ∧ At wr w.heap.size 0 (Q out) ∧ timesI b (a.drop i) i out = R ∧ Below w.heap.size w wr) (fun v _ => (a.length - intOf v).toNat)
  case atStart => exact ⟨0, _, rfl, by omega, by rw [List.length_replicate], hA0, HR.out, hbl⟩
  case round =>
    obtain ⟨i, out, rfl, hi, hol, hA, hT, hbr⟩ := hrel
    clear hA0 hbl hmk hsum HR
    by_cases hlt : i < a.length
    · have hii : (i : Int) < (a.length : Int) := by omega
      obtain ⟨ai, hai⟩ : ∃ ai, a.getD i 0 = ai := ⟨_, rfl⟩
      obtain ⟨o2, c2, hK⟩ : ∃ o2 c2, timesK ai i b 0 out 0 = (o2, c2) := ⟨_, _, rfl⟩
      rw [drop_cons hlt, hai, timesI_cons b ai _ i out o2 c2 hK] at hT
      have HT := Lib.hid hT
      have hK0 : timesK ai i (b.drop 0) 0 out 0 = (o2, c2) := hK
      have HLt := Lib.hid hlt
      have HAi := Lib.hid hai
      clear hT hK hai
      go_wp2_with fail
      go_loopw [7, 23] (fun cv v wz => ∃ (k c : Nat) (ou : List Nat), v = .int .i64 k ∧ cv = .int .u64 c ∧ k ≤ b.length ∧ ou.length = n ∧ At wz w.heap.size 0 (Q ou) ∧ timesK ai i (b.drop k) k ou c = (o2, c2) ∧ Below w.heap.size w wz) (fun _ v _ => (b.length - intOf v).toNat)
      case atStart => exact ⟨0, 0, out, rfl, rfl, by omega, hol, hA, hK0, hbr⟩
      case round =>
        clear hA hbr hK0 hol
        obtain ⟨k, c, ou, rfl, rfl, hk, hol, hA, hK, hbz⟩ := hrel
        have hN := HNn.out
        by_cases hkl : k < b.length
        · have hki : (k : Int) < (b.length : Int) := by omega
          obtain ⟨bk, hbk⟩ : ∃ bk, b.getD k 0 = bk := ⟨_, rfl⟩
          obtain ⟨o, ho⟩ : ∃ o, ou.getD (i + k) 0 = o := ⟨_, rfl⟩
          rw [drop_cons hkl, hbk, timesK_cons, ho] at hK
          have hik : i + k < n := by omega
          have hiki : (i : Int) + (k : Int) < (n : Int) := by omega
          have hikn : ((i : Int) + (k : Int)).toNat = i + k := by omega
          have hik0 : 0 ≤ (i : Int) + (k : Int) := by omega
          have ca := Q_at (HAa.out.below hbz hga) i HLt.out
          have cb := Q_at (HBb.out.below hbz hgb) k hkl
          have co := Q_at hA (i + k) (by omega)
          have fo := Q_fz hA (i + k) (by omega)
          rw [HAi.out] at ca
          rw [hbk] at cb
          rw [ho] at co
          have hW := mulW ai bk o c
          obtain ⟨T, hT⟩ : ∃ T, (ai * bk + o + c) % 18446744073709551616 = T := ⟨_, rfl⟩
          rw [hT] at hW hK
          have q1 : (T : Int) % 4294967296 = ((T % 4294967296 : Nat) : Int) := by omega
          have q2 : (T : Int) / 4294967296 = ((T / 4294967296 : Nat) : Int) := by omega
          have hTl : T < 18446744073709551616 := by rw [← hT]; exact Nat.mod_lt _ (by decide)
          have q3 : IntKind.u64.wrap ((T / 4294967296 : Nat) : Int) = ((T / 4294967296 : Nat) : Int) := by rw [IntKind.wrap_u64]; omega
          obtain ⟨t1, ht1⟩ : ∃ t1, T % 4294967296 = t1 := ⟨_, rfl⟩
          obtain ⟨t2, ht2⟩ : ∃ t2, T / 4294967296 = t2 := ⟨_, rfl⟩
          rw [ht1] at q1 hK
          rw [ht2] at q2 q3 hK
          have HK := Lib.hid hK
          have HA := Lib.hid hA
          have HB := Lib.hid hbz
          have HL := Lib.hid hol
          have HKl := Lib.hid hkl
          have HIK := Lib.hid hik
          clear hK hA hbz hol hTl hT ht1 ht2 hbk ho hik hkl hk
          go_upto_region 9 with fail
          go_quiet (fail)
          go_wp2
          refine ⟨⟨k + 1, t2, ou.set (i + k) t1, by go_num, rfl, by have := HKl.out; omega, by rw [List.length_set]; exact HL.out, Q_put (HA.out.drewN _) (i + k) t1 (by rw [HL.out]; exact HIK.out), HK.out, Below.setCell (bdn HB.out _) (Nat.le_refl _) _⟩, by simp only [intOf]; have := HKl.out; omega⟩
        · obtain rfl : k = b.length := by omega
          have hki : ¬ (b.length : Int) < (b.length : Int) := by omega
          rw [List.drop_of_length_le (Nat.le_refl _), timesK_nil, Prod.mk.injEq] at hK
          obtain ⟨rfl, rfl⟩ := hK
          have hik : i + b.length < n := by have := HLt.out; omega
          have hiki : (i : Int) + (b.length : Int) < (n : Int) := by omega
          have hikn : ((i : Int) + (b.length : Int)).toNat = i + b.length := by omega
          have hik0 : 0 ≤ (i : Int) + (b.length : Int) := by omega
          have co := Q_at hA (i + b.length) (by omega)
          have fo := Q_fz hA (i + b.length) (by omega)
          have hTT := HT.out
          obtain ⟨o, ho⟩ : ∃ o, ou.getD (i + b.length) 0 = o := ⟨_, rfl⟩
          rw [ho] at co hTT
          have hW : IntKind.u64.wrap ((o : Int) + (c : Int)) = (((o + c) % 18446744073709551616 : Nat) : Int) := by rw [IntKind.wrap_u64]; omega
          obtain ⟨z, hz⟩ : ∃ z, (o + c) % 18446744073709551616 = z := ⟨_, rfl⟩
          rw [hz] at hW hTT
          have HA := Lib.hid hA
          have HB := Lib.hid hbz
          have HL := Lib.hid hol
          have HTT := Lib.hid hTT
          have HIK := Lib.hid hik
          clear hA hbz hol hTT hz ho hik HT hk
          go_wp2
          refine ⟨⟨i + 1, ou.set (i + b.length) z, by go_num, by have := HLt.out; omega, by rw [List.length_set]; exact HL.out, Q_put HA.out (i + b.length) z (by rw [HL.out]; exact HIK.out), HTT.out, Below.setCell HB.out (Nat.le_refl _) _⟩, by simp only [intOf]; have := HLt.out; omega⟩
    · obtain rfl : i = a.length := by omega
      have hii : ¬ (a.length : Int) < (a.length : Int) := by omega
      rw [List.drop_of_length_le (Nat.le_refl _)] at hT
      have hT2 : out = R := hT
      subst hT2
      clear hT
      go_wp2
      go_ret
      first | exact ⟨rfl, hA, hbr⟩ | exact ⟨rfl, hA, by rw [HNn.out]; exact hol, hbr⟩
end Go.Proofs.YtfcmgodeehjnoaaDoor
