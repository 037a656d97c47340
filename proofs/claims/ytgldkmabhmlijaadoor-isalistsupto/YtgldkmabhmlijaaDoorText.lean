/- What Text of package isa answers, for every instruction. -/
import Derived.Test.YtgldkmabhmlijaaDoorWord
import Derived.Test.YtgldkmabhmlijaaDoorREncode
import Derived.Test.YtgldkmabhmlijaaDoorPack
namespace Go.Proofs.YtgldkmabhmlijaaDoor
open Go.RowKit Go.Sort
def txK (c : Cod) (s : Nat) : Nat → List UInt8
  | 0 => nmL.getD c.op.toNat []
  | k + 1 => txK c s k ++ tw c (wd s k)
/-- An instruction's text. -/
def textC (c : Cod) : List UInt8 := txK c (sh c.op) 3
theorem nm_len (k : Nat) : (nmL.getD k []).length ≤ 4 := by
  by_cases h : k < 27
  · have : ∀ k : Fin 27, (nmL.getD k.val []).length ≤ 4 := by decide
    exact this ⟨k, h⟩
  · rw [List.getD_eq_getElem?_getD, List.getElem?_eq_none (by show 27 ≤ _; omega)]; simp
theorem nDig_le (u : Nat) (h : u < 18446744073709551616) : Lib.nDigits u ≤ 20 := by
  rcases Nat.eq_zero_or_pos u with rfl | h1
  · unfold Lib.nDigits; simp
  · have := Lib.numDigits_eq u h1 h; split at this <;> omega
theorem itoa_len (n : Int) (h0 : -4611686018427387904 ≤ n) (h1 : n ≤ 4611686018427387904) : (Lib.itoa n).length ≤ 21 := by
  unfold Lib.itoa
  split
  · rw [List.length_cons, Lib.decDigits_length]; have := nDig_le n.natAbs (by omega); omega
  · rw [Lib.decDigits_length]; have := nDig_le n.toNat (by omega); omega
theorem tw_len (c : Cod) (v : Int) (h : fOk c v) : (tw c v).length ≤ 23 := by
  have := itoa_len (fld c v) h.1 h.2
  unfold tw
  split
  · simp
  · split <;> simp <;> omega
theorem txK_len (c : Cod) (s k : Nat) (h : ∀ v, fOk c v) : (txK c s k).length ≤ 4 + 23 * k := by
  induction k with
  | zero => exact nm_len _
  | succ k ih => rw [txK, List.length_append]; have := tw_len c (wd s k) (h _); omega
theorem fOk_of {c : Cod} (l2 : 0 ≤ c.a ∧ c.a ≤ 15) (l3 : 0 ≤ c.b ∧ c.b ≤ 15) (l4 : 0 ≤ c.c ∧ c.c ≤ 15) (l5 : -32768 ≤ c.n ∧ c.n ≤ 65535) (v : Int) : fOk c v := by
  unfold fOk fld; repeat' split
  all_goals omega
theorem conv_back {w : World} {B : Nat} {v : Value} {xs : List UInt8} (h : BR w B v xs) : Sem.run Tryd.prog (convert 44 9 v) w = .ok (.string ⟨xs.toArray⟩) w := by
  obtain ⟨g, cap, rfl, _, _, _, _, h5, _⟩ := h
  exact run_convert_bytes_back (P := Tryd.prog) w 44 9 5 ⟨g, 0, none⟩ cap xs Tryd.underlying44 Tryd.underlying5 Tryd.underlying9 (fun j hj => by rw [addr_add]; exact h5 j hj)
theorem conv_br (w : World) (s : ByteArray) (hm : s.size ≤ maxLen) : ∃ sv w', Sem.run Tryd.prog (convert 9 44 (.string s)) w = .ok sv w' ∧ BR w' w.heap.size sv s.data.toList ∧ Below w.heap.size w w' :=
  ⟨_, _, Lib.run_convert_string_bytes w 9 44 5 s Tryd.underlying9 Tryd.underlying44 Tryd.underlying5, br_bytes w 5 s hm, bytesWorld_below w 5 s⟩
set_option maxRecDepth 100000 in
set_option maxHeartbeats 4000000 in
theorem Text_yes (c : Cod) (w : World) (hE : Env w) (h : rightC c = true) : Calls Tryd.prog 7 #[c.v] w fun e w' => e = .returned (.tuple #[.string ⟨(textC c).toArray⟩, .int .i64 0]) ∧ Below w.heap.size w w' := by
  obtain ⟨l1, l2, l3, l4, l5⟩ := right_lim h
  have HR : Hid (∀ w, Calls Tryd.prog 12 #[c.v] w fun e w' => e = .returned (.bool true) ∧ Below w.heap.size w w') := by have := Right_any c; rw [rightI_eq, h] at this; exact this
  clear h
  have l10 := l1.1
  have l11 : c.op < 27 := by omega
  obtain ⟨s, hs⟩ : ∃ s, s = sh c.op := ⟨_, rfl⟩
  have HS := Lib.hid (shapeOf_any c.op)
  rw [← hs] at HS
  have HT : Hid (textC c = txK c s 3) := by rw [hs]; rfl
  clear hs
  have hv : c.v = .agg #[.int .i64 c.op, .int .i64 c.a, .int .i64 c.b, .int .i64 c.c, .int .i64 c.n] := rfl
  rw [hv] at HR ⊢
  have HV := Lib.hid hv
  clear hv
  go_enter Tryd.func7, Tryd.ntmps7
  go_wp2_with (first | (go_at_call 12; refine (HR.out _).mono ?_; rintro e w1 ⟨rfl, hb1⟩; refine Hid.out ?_))
  refine Lib.hid ?_
  have hB1 : Below w.heap.size w w1 := ((Below.refl _ w).alloc (Nat.le_refl _) _).trans (hb1.mono (by simp))
  have hE1 := hE.below hB1
  have hC1 : At5 w1 w.heap.size c := (At5.new w c _).below hb1 (by simp)
  obtain ⟨cl, ⟨c0, c1, c2, c3, c4⟩, cf⟩ := hC1
  have hn := hE1.names c.op.toNat (by omega)
  obtain ⟨nb, hnb⟩ : ∃ nb : ByteArray, nb = ⟨(nmL.getD c.op.toNat []).toArray⟩ := ⟨_, rfl⟩
  have hnl : nb.data.toList = txK c s 0 := by rw [hnb]; simp [txK]
  have hns : nb.size ≤ 4 := by rw [hnb]; exact nm_len _
  rw [← hnb] at hn
  clear hnb
  obtain ⟨sv, w2, hcv, hR2, hb2⟩ := conv_br w1 nb (by unfold maxLen; omega)
  rw [hnl] at hR2
  have HN := Lib.hid hnl
  clear hnl
  have hz1 : w.heap.size < w1.heap.size := cl
  have c0' := (hb2.cell (p := ⟨w.heap.size, 0, none⟩) cl).trans c0
  go_wp2_with (first | (go_at_call 14; refine (HS.out _).mono ?_; rintro e w3 ⟨rfl, hb3⟩; refine Hid.out ?_))
  refine Lib.hid ?_
  have hfo := fOk_of l2 l3 l4 l5
  have hG : 9 ≤ w1.heap.size := hE1.big
  have hb13 : Below w1.heap.size w1 w3 := hb2.trans (hb3.mono hb2.size)
  have hC3 : At5 w3 w.heap.size c := At5.below ⟨cl, ⟨c0, c1, c2, c3, c4⟩, cf⟩ hb13 cl
  have hR3 := hR2.below hb3
  clear c0 c1 c2 c3 c4 c0' hn hcv hR2
  go_wp2_with fail
  go_loopw [4, 18] (fun r i wr => ∃ k : Nat, k ≤ 3 ∧ i = .int .i64 k ∧ BR wr w1.heap.size r (txK c s k) ∧ At5 wr w.heap.size c ∧ Below w1.heap.size w1 wr) (fun _ i _ => 3 - (intOf i).toNat)
  case atStart => exact ⟨0, by omega, rfl, hR3, hC3, hb13⟩
  case round =>
    clear hR3 hC3 hb13
    obtain ⟨k, hk, rfl, hR, hC, hB⟩ := hrel
    have hlen := txK_len c s k hfo
    by_cases hlt : k < 3
    · have hki : (k : Int) < 3 := by omega
      have ik := idx3 s k hlt
      have hA := appendWord_any c (wd s k) (wd_lim s k) w1.heap.size _ (txK c s k) wr (hE1.below hB) hR hB.size hG (by omega) (hfo _)
      rw [HV.out] at hA
      have HK : Hid (txK c s (k + 1) = txK c s k ++ tw c (wd s k)) := rfl
      have HC := Lib.hid hC
      obtain ⟨ccl, ⟨c0, c1, c2, c3, c4⟩, cf'⟩ := hC
      clear hR
      go_wp2_with (go_at_call 15; refine hA.mono ?_; rintro e w5 ⟨v5, rfl, hR5, hb5⟩)
      go_roundw
      case rel => exact ⟨k + 1, by omega, by go_num, by rw [HK.out]; exact hR5, HC.out.below hb5 (by omega), hB.trans hb5⟩
      case measure => simp [intOf]; omega
    · obtain rfl : k = 3 := by omega
      have hcb := conv_back hR
      clear hR hC
      go_wp2
      go_ret2
      exact ⟨by rw [HT.out]; rfl, hB1.trans (hB.mono hB1.size)⟩
theorem Text_no (c : Cod) (w : World) (h : rightC c = false) : Calls Tryd.prog 7 #[c.v] w fun e w' => e = .returned (.tuple #[.string ⟨#[]⟩, .int .i64 12]) ∧ Below w.heap.size w w' := by
  have HR : Hid (∀ w, Calls Tryd.prog 12 #[c.v] w fun e w' => e = .returned (.bool false) ∧ Below w.heap.size w w') := by have := Right_any c; rw [rightI_eq, h] at this; exact this
  clear h
  have hv : c.v = .agg #[.int .i64 c.op, .int .i64 c.a, .int .i64 c.b, .int .i64 c.c, .int .i64 c.n] := rfl
  rw [hv] at HR ⊢
  clear hv
  go_enter Tryd.func7, Tryd.ntmps7
  go_wp2_with (first | (go_at_call 12; refine (HR.out _).mono ?_; rintro e w1 ⟨rfl, hb1⟩))
  go_ret2
  exact ⟨rfl, ((Below.refl _ w).alloc (Nat.le_refl _) _).trans (hb1.mono (by simp))⟩
end Go.Proofs.YtgldkmabhmlijaaDoor
