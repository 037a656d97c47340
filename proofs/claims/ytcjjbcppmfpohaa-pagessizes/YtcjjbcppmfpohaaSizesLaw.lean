/- PagesSizes answers true. -/
import Derived.Test.YtcjjbcppmfpohaaWritesLaw
namespace Go.Proofs.Ytcjjbcppmfpohaa
open Go.RowKit Go.Lib
/-- A row of integers that was handed in. -/
def IntsAt (w : World) (p : Option Addr) (l : List Int) : Prop := ∀ j (h : j < l.length), ∃ b off, p = some ⟨b, off, none⟩ ∧ b < w.heap.size ∧ w.cell? ⟨b, off + j, none⟩ = some (.int .i64 l[j])
theorem IntsAt.keep {w w' : World} {p : Option Addr} {l : List Int} (h : IntsAt w p l) (hb : Below w.heap.size w w') (j : Nat) (hj : j < l.length) : ∃ b off, p = some ⟨b, off, none⟩ ∧ w'.cell? ⟨b, off + j, none⟩ = some (.int .i64 l[j]) := by
  obtain ⟨b, off, h1, h2, h3⟩ := h j hj
  exact ⟨b, off, h1, (hb.cell (p := ⟨b, off + j, none⟩) h2).trans h3⟩
theorem over_full (t : List UInt8) (m : Nat) (h : t.length = m) : over (List.replicate m 0) 0 t = t := by
  refine ext_getD (by rw [over_len]; simp [h]) (fun j hj => ?_)
  rw [over_len] at hj
  rw [over_get _ _ _ _ hj, if_pos ⟨Nat.zero_le _, by simp at hj; omega⟩, Nat.sub_zero]
/-- What is left of t, with 0 up to n. -/
def lf (t : List UInt8) (left n : Nat) : List UInt8 := t.take left ++ List.replicate (n - left) 0
theorem lf_len {t : List UInt8} {left n : Nat} (h1 : left ≤ t.length) (h2 : left ≤ n) : (lf t left n).length = n := by unfold lf; simp; omega
theorem lf_get {t : List UInt8} {left n j : Nat} (h1 : left ≤ t.length) : (lf t left n).getD j 0 = if j < left then t.getD j 0 else 0 := by
  unfold lf
  rw [List.getD_eq_getElem?_getD, List.getElem?_append, List.length_take, Nat.min_eq_left h1]
  split
  · rw [List.getElem?_take_of_lt (by assumption), ← List.getD_eq_getElem?_getD]
  · rw [List.getElem?_replicate]; split <;> rfl
theorem fit_get (d : List UInt8) (n j : Nat) (hj : j < n) : (fit d n).getD j 0 = d.getD j 0 := by
  unfold fit
  rw [List.getD_eq_getElem?_getD, List.getElem?_append]
  split
  · rename_i h
    rw [List.getElem?_take_of_lt hj, ← List.getD_eq_getElem?_getD]
  · rename_i h
    rw [List.length_take] at h
    rw [List.getElem?_replicate, List.getD_eq_getElem?_getD, List.getElem?_eq_none (by omega : d.length ≤ j)]
    split <;> rfl
theorem fit_lf {t : List UInt8} {left n x : Nat} (h1 : left ≤ t.length) : fit (lf t left n) x = lf t (min left x) x := by
  refine ext_getD (by rw [fit_len, lf_len (by omega) (by omega)]) (fun j hj => ?_)
  rw [fit_len] at hj
  rw [fit_get _ _ _ hj, lf_get h1, lf_get (by omega)]
  by_cases h : j < left
  · rw [if_pos h, if_pos (by omega)]
  · rw [if_neg h, if_neg (by omega)]
theorem bdn {B : Nat} {w w' : World} (h : Below B w w') (n : Nat) : Below B w (w'.drewN n) := ⟨h.os, h.tape, h.output, h.size, h.block⟩
set_option maxRecDepth 100000 in
set_option maxHeartbeats 1000000 in
theorem PagesSizes_any (s : ByteArray) (p : Option Addr) (cap : Nat) (xs : List Int) (w : World) (hx : IntsAt w p xs) (hr : ∀ x ∈ xs, -9223372036854775808 ≤ x ∧ x ≤ 9223372036854775807) :
    Calls Try.prog 6 #[.string s, .slice p xs.length cap] w fun e w' => e = .returned (.bool true) ∧ Below w.heap.size w w' := by
  have HL := Lib.hid (lives_any w)
  have HN := Lib.hid (fun (m : Nat) (h : m ≤ 4096) w0 => New_any m w0 h)
  have hmm : (s.extract 0 (min (s.size : Int) 4096).toNat).size = min (min (s.size : Int) 4096).toNat s.size ∧ min (min (s.size : Int) 4096).toNat s.size ≤ 4096 := by rw [ByteArray.size_extract]; omega
  have HMM := Lib.hid hmm
  clear hmm
  go_enter Try.func6, Try.ntmps6
  go_wp2_with (first | (go_at_call 9; refine HL.out.mono ?_; rintro e w0 ⟨rfl, hB0⟩; refine Hid.out ?_))
  refine Lib.hid ?_
  go_wp2_with (first | (go_at_call 10; refine Hid.out ?_))
  refine Lib.hid ?_
  generalize s.extract 0 (min (s.size : Int) 4096).toNat = s1 at HMM ⊢
  generalize min (min (s.size : Int) 4096).toNat s.size = m at HMM ⊢
  obtain ⟨hm1, hm2⟩ := HMM.out
  clear HMM
  refine (HN.out m hm2 w0).mono ?_
  rintro e w1 ⟨rfl, ⟨ls1, hA1⟩, hB1⟩
  have HW : Hid (Calls Try.prog 17 #[.pointer (some ⟨w0.heap.size, 0, none⟩), .int .i64 0, .slice (some ⟨w1.heap.size, 0, none⟩) 1 1] (w1.alloc (.cells #[.string s1] 9)) fun e w' => e = .returned (.int .i64 0) ∧ (∃ ls', BAt w' w0.heap.size w0.heap.size (lf s1.data.toList m m) ls') ∧ Below w0.heap.size w1 w') := by
    have hb1 : Below w1.heap.size w1 (w1.alloc (.cells #[.string s1] 9)) := (Below.refl _ _).alloc (Nat.le_refl _) _
    have := Write_any w0.heap.size w0.heap.size _ ls1 _ 1 0 [s1] _ (hA1.below hb1) (ps_new w1 [s1]) (by simp [sumL]; omega) (by simp) (by omega)
    refine this.mono ?_
    intro e w2 h2
    rw [if_pos (by simp [fitsB, sumL]; omega)] at h2
    obtain ⟨rfl, ⟨l, hl⟩, hB, _⟩ := h2
    refine ⟨rfl, ⟨l, ?_⟩, (hb1.mono (size_of_blk hA1)).trans hB⟩
    have he : lf s1.data.toList m m = over (List.replicate m 0) 0 s1.data.toList := by
      rw [over_full _ _ (by rw [← size_eq]; exact hm1)]
      unfold lf; rw [Nat.sub_self, List.take_of_length_le (by rw [← size_eq]; omega)]; simp
    rw [he]
    simpa [catL] using hl
  have hs0 := hB0.size
  have hs1 := hB1.size
  clear hA1
  go_wp2_with (first | (go_at_call 17; refine HW.out.mono ?_; rintro e w2 ⟨rfl, ⟨ls2, hA2⟩, hB2⟩; refine Hid.out ?_))
  refine Lib.hid ?_
  have q2 : Below w.heap.size w w2 := (hB0.trans (hB1.mono hs0)).trans (hB2.mono hs0)
  have HA2 := Lib.hid hA2
  clear hA2 hB2
  go_wp2_with fail
  have hst : s1.data.toList.length = m := by rw [← size_eq]; exact hm1
  have HR : Hid (∀ (W : World) (left nn : Nat) ls, left ≤ m → left ≤ nn → BAt W w0.heap.size w0.heap.size (lf s1.data.toList left nn) ls → Calls Try.prog 18 #[.pointer (some ⟨w0.heap.size, 0, none⟩), .int .i64 0, .int .i64 nn] W fun e w' => e = .returned (.tuple #[.string ⟨(lf s1.data.toList left nn).toArray⟩, .int .i64 0]) ∧ Below W.heap.size W w') := fun W left nn ls h1 h2 h => by
    have hl := lf_len (t := s1.data.toList) (left := left) (n := nn) (by omega) h2
    have := Read_any w0.heap.size w0.heap.size 0 nn _ ls W h (by omega)
    rwa [read_all _ nn hl] at this
  have HPre : Hid (∀ left nn, left ≤ m → left ≤ nn → (⟨(lf s1.data.toList left nn).toArray⟩ : ByteArray).extract 0 left = s1.extract 0 left ∧ (⟨(lf s1.data.toList left nn).toArray⟩ : ByteArray).size = nn ∧ ∀ k, left ≤ k → ∀ h : k < (⟨(lf s1.data.toList left nn).toArray⟩ : ByteArray).size, (⟨(lf s1.data.toList left nn).toArray⟩ : ByteArray)[k] = 0) := fun left nn h1 h2 => by
    have hl := lf_len (t := s1.data.toList) (left := left) (n := nn) (by omega) h2
    refine ⟨ext_data ?_, by show (lf _ _ _).toArray.size = nn; simpa using hl, fun k hk1 hk2 => ?_⟩
    · rw [ByteArray.data_extract, Array.toList_extract, List.extract_eq_take_drop, ByteArray.data_extract, Array.toList_extract, List.extract_eq_take_drop]
      refine ext_getD (by simp [hl, hst]; omega) (fun j hj => ?_)
      have hj' : j < left := by simp [hl] at hj; omega
      rw [getD_take _ _ _ (by omega), getD_take _ _ _ (by omega), getD_drop, getD_drop, Nat.zero_add]
      show (lf s1.data.toList left nn).getD j 0 = _
      rw [lf_get (by omega), if_pos hj']
    · have := lf_get (t := s1.data.toList) (left := left) (n := nn) (j := k) (by omega)
      rw [if_neg (by omega)] at this
      have hk3 : k < (lf s1.data.toList left nn).length := by
        have h : k < (lf s1.data.toList left nn).toArray.size := hk2
        simpa using h
      rw [List.getD_eq_getElem?_getD, List.getElem?_eq_getElem hk3] at this
      show (lf s1.data.toList left nn).toArray[k]'(by simpa using hk3) = 0
      simpa using this
  go_loopw [7, 8, 43] (fun x y z wr => ∃ k left nn : Nat, x = .int .i64 left ∧ y = .int .i64 nn ∧ z = .int .i64 k ∧ k ≤ xs.length ∧ left ≤ m ∧ left ≤ nn ∧ nn ≤ 4096 ∧ (∃ ls, BAt wr w0.heap.size w0.heap.size (lf s1.data.toList left nn) ls) ∧ RowKit.Below w.heap.size w wr) (fun _ _ z _ => (xs.length - RowKit.intOf z).toNat)
  case atStart => exact ⟨0, m, m, rfl, rfl, rfl, Nat.zero_le _, Nat.le_refl _, Nat.le_refl _, hm2, ⟨ls2, HA2.out⟩, q2⟩
  case round =>
    obtain ⟨k, left, nn, rfl, rfl, rfl, hk, hl1, hl2, hn4, ⟨ls3, hA3⟩, hB3⟩ := hrel
    have HA3 := Lib.hid hA3
    have HB3 := Lib.hid hB3
    by_cases hlt : k < xs.length
    · obtain ⟨bk, off, rfl, hc⟩ := hx.keep hB3 k hlt
      have hrk := hr _ (List.getElem_mem hlt)
      have hki : (k : Int) < (xs.length : Int) := by omega
      generalize xs[k] = x at hc hrk
      clear hA3 hB3
      by_cases h20 : 20 ≤ k
      · have h20i : (20 : Int) ≤ (k : Int) := by omega
        go_wp2
        go_ret
        exact ⟨rfl, HB3.out⟩
      · have h20i : ¬ (20 : Int) ≤ (k : Int) := by omega
        go_wp2_with (first | (go_at_call 19; refine Hid.out ?_))
        refine Lib.hid ?_
        by_cases hxr : 0 ≤ x ∧ x ≤ 4096
        · obtain ⟨xn, rfl⟩ : ∃ xn : Nat, x = xn := ⟨x.toNat, by omega⟩
          have hR := Resize_any w0.heap.size w0.heap.size xn _ ls3 wr HA3.out (by omega)
          rw [fit_lf (by omega)] at hR
          refine hR.mono ?_
          rintro e w4 ⟨rfl, ⟨ls4, hA4⟩, hB4⟩
          obtain ⟨l2, hl2e⟩ : ∃ l2 : Nat, min left xn = l2 := ⟨_, rfl⟩
          rw [hl2e] at hA4
          have hq1 : l2 ≤ m := by omega
          have hq2 : l2 ≤ xn := by omega
          have hmin : min (left : Int) (xn : Int) = (l2 : Int) := by omega
          have hx1 : (0 : Int) ≤ (xn : Int) := by omega
          have hx2 : (xn : Int) ≤ 4096 := by omega
          clear hl2e hxr hR
          have HR4 := Lib.hid (HR.out w4 l2 xn ls4 hq1 hq2 hA4)
          obtain ⟨hp1, hp2, hp3⟩ := HPre.out l2 xn hq1 hq2
          obtain ⟨td, htd⟩ : ∃ td : ByteArray, (⟨(lf s1.data.toList l2 xn).toArray⟩ : ByteArray) = td := ⟨_, rfl⟩
          rw [htd] at HR4 hp1 hp2 hp3
          have hlen4 := lf_len (t := s1.data.toList) (left := l2) (n := xn) (by omega) hq2
          have HLen := Lib.hid (fun W' (hb : RowKit.Below w4.heap.size w4 W') => Len_any (hA4.below hb))
          rw [hlen4] at HLen
          have HA4 := Lib.hid hA4
          have HB4 := Lib.hid hB4
          have HP3 := Lib.hid hp3
          have i1 : (0 : Int) ≤ (l2 : Int) := by omega
          have i2 : (l2 : Int) ≤ (xn : Int) := by omega
          have i3 : (l2 : Int) ≤ (m : Int) := by omega
          have hss : s1.size = m := hm1
          clear hA4 hB4 hp3 htd hlen4 hc
          go_wp2_with (first
            | (go_at_call 18; refine HR4.out.mono ?_; rintro e w5 ⟨rfl, hB5⟩))
          go_quiet (first | (go_at_call 20; refine (HLen.out _ (bdn hB5 _)).mono ?_; rintro e w6 ⟨rfl, hw6⟩; exact ⟨rfl, _, hw6⟩))
          go_wp2_with fail
          go_loopw [14] (fun y ww => ∃ j : Nat, y = .int .i64 j ∧ l2 ≤ j ∧ j ≤ xn ∧ ∃ q, ww = w5.drewN q) (fun y _ => (xn - RowKit.intOf y).toNat)
          case atStart => exact ⟨l2, rfl, Nat.le_refl _, hq2, _, rfl⟩
          case round =>
            obtain ⟨j, rfl, hj1, hj2, q, rfl⟩ := hrel
            by_cases hjl : j < xn
            · have hji : (j : Int) < (xn : Int) := by omega
              have hjz : td[j]'(by omega) = 0 := HP3.out j hj1 (by omega)
              go_wp2
              go_roundw
              case rel => exact ⟨j + 1, by go_num, by omega, by omega, q, rfl⟩
              case measure => simp [RowKit.intOf]; omega
            · have hji : ¬ (j : Int) < (xn : Int) := by omega
              go_wp2
              go_roundw
              case rel => exact ⟨k + 1, l2, xn, rfl, rfl, by go_num, by omega, hq1, hq2, by omega, ⟨ls4, (HA4.out.below hB5).below (bdn (Below.refl _ _) q)⟩, bdn ((HB3.out.trans (HB4.out.mono hs0)).trans (hB5.mono (by have := (HB3.out.trans (HB4.out.mono hs0)).size; omega))) q⟩
              case measure => simp [RowKit.intOf]; omega
        · refine (Resize_no w0.heap.size x wr (by omega)).mono ?_
          rintro e w4 ⟨rfl, hw4⟩
          have hA4 : BAt w4 w0.heap.size w0.heap.size (lf s1.data.toList left nn) ls3 := by rw [hw4]; exact HA3.out
          have hB4 : RowKit.Below w0.heap.size wr w4 := by rw [hw4]; exact Below.refl _ _
          clear hw4
          have hq1 : left ≤ m := hl1
          have hq2 : left ≤ nn := hl2
          by_cases hx0 : x < 0
          · have hx1 : ¬ (0 : Int) ≤ x := by omega
            have HR4 := Lib.hid (HR.out w4 left nn ls3 hq1 hq2 hA4)
            obtain ⟨hp1, hp2, hp3⟩ := HPre.out left nn hq1 hq2
            obtain ⟨td, htd⟩ : ∃ td : ByteArray, (⟨(lf s1.data.toList left nn).toArray⟩ : ByteArray) = td := ⟨_, rfl⟩
            rw [htd] at HR4 hp1 hp2 hp3
            have hlen4 := lf_len (t := s1.data.toList) (left := left) (n := nn) (by omega) hq2
            have HLen := Lib.hid (fun W' (hb : RowKit.Below w4.heap.size w4 W') => Len_any (hA4.below hb))
            rw [hlen4] at HLen
            have HA4 := Lib.hid hA4
            have HB4 := Lib.hid hB4
            have HP3 := Lib.hid hp3
            have i1 : (0 : Int) ≤ (left : Int) := by omega
            have i2 : (left : Int) ≤ (nn : Int) := by omega
            have i3 : (left : Int) ≤ (m : Int) := by omega
            have hss : s1.size = m := hm1
            clear hA4 hB4 hp3 htd hlen4 hc
            go_wp2_with (first
              | (go_at_call 18; refine HR4.out.mono ?_; rintro e w5 ⟨rfl, hB5⟩))
            go_quiet (first | (go_at_call 20; refine (HLen.out _ (bdn hB5 _)).mono ?_; rintro e w6 ⟨rfl, hw6⟩; exact ⟨rfl, _, hw6⟩))
            go_wp2_with fail
            go_loopw [14] (fun y ww => ∃ j : Nat, y = .int .i64 j ∧ left ≤ j ∧ j ≤ nn ∧ ∃ q, ww = w5.drewN q) (fun y _ => (nn - RowKit.intOf y).toNat)
            case atStart => exact ⟨left, rfl, Nat.le_refl _, hq2, _, rfl⟩
            case round =>
              obtain ⟨j, rfl, hj1, hj2, q, rfl⟩ := hrel
              by_cases hjl : j < nn
              · have hji : (j : Int) < (nn : Int) := by omega
                have hjz : td[j]'(by omega) = 0 := HP3.out j hj1 (by omega)
                go_wp2
                go_roundw
                case rel => exact ⟨j + 1, by go_num, by omega, by omega, q, rfl⟩
                case measure => simp [RowKit.intOf]; omega
              · have hji : ¬ (j : Int) < (nn : Int) := by omega
                go_wp2
                go_roundw
                case rel => exact ⟨k + 1, left, nn, rfl, rfl, by go_num, by omega, hq1, hq2, by omega, ⟨ls3, (HA4.out.below hB5).below (bdn (Below.refl _ _) q)⟩, bdn ((HB3.out.trans (HB4.out.mono hs0)).trans (hB5.mono (by have := (HB3.out.trans (HB4.out.mono hs0)).size; omega))) q⟩
                case measure => simp [RowKit.intOf]; omega
          · have hx1 : (0 : Int) ≤ x := by omega
            have hx2 : ¬ x ≤ 4096 := by omega
            have HR4 := Lib.hid (HR.out w4 left nn ls3 hq1 hq2 hA4)
            obtain ⟨hp1, hp2, hp3⟩ := HPre.out left nn hq1 hq2
            obtain ⟨td, htd⟩ : ∃ td : ByteArray, (⟨(lf s1.data.toList left nn).toArray⟩ : ByteArray) = td := ⟨_, rfl⟩
            rw [htd] at HR4 hp1 hp2 hp3
            have hlen4 := lf_len (t := s1.data.toList) (left := left) (n := nn) (by omega) hq2
            have HLen := Lib.hid (fun W' (hb : RowKit.Below w4.heap.size w4 W') => Len_any (hA4.below hb))
            rw [hlen4] at HLen
            have HA4 := Lib.hid hA4
            have HB4 := Lib.hid hB4
            have HP3 := Lib.hid hp3
            have i1 : (0 : Int) ≤ (left : Int) := by omega
            have i2 : (left : Int) ≤ (nn : Int) := by omega
            have i3 : (left : Int) ≤ (m : Int) := by omega
            have hss : s1.size = m := hm1
            clear hA4 hB4 hp3 htd hlen4 hc
            go_wp2_with (first
              | (go_at_call 18; refine HR4.out.mono ?_; rintro e w5 ⟨rfl, hB5⟩))
            go_quiet (first | (go_at_call 20; refine (HLen.out _ (bdn hB5 _)).mono ?_; rintro e w6 ⟨rfl, hw6⟩; exact ⟨rfl, _, hw6⟩))
            go_wp2_with fail
            go_loopw [14] (fun y ww => ∃ j : Nat, y = .int .i64 j ∧ left ≤ j ∧ j ≤ nn ∧ ∃ q, ww = w5.drewN q) (fun y _ => (nn - RowKit.intOf y).toNat)
            case atStart => exact ⟨left, rfl, Nat.le_refl _, hq2, _, rfl⟩
            case round =>
              obtain ⟨j, rfl, hj1, hj2, q, rfl⟩ := hrel
              by_cases hjl : j < nn
              · have hji : (j : Int) < (nn : Int) := by omega
                have hjz : td[j]'(by omega) = 0 := HP3.out j hj1 (by omega)
                go_wp2
                go_roundw
                case rel => exact ⟨j + 1, by go_num, by omega, by omega, q, rfl⟩
                case measure => simp [RowKit.intOf]; omega
              · have hji : ¬ (j : Int) < (nn : Int) := by omega
                go_wp2
                go_roundw
                case rel => exact ⟨k + 1, left, nn, rfl, rfl, by go_num, by omega, hq1, hq2, by omega, ⟨ls3, (HA4.out.below hB5).below (bdn (Below.refl _ _) q)⟩, bdn ((HB3.out.trans (HB4.out.mono hs0)).trans (hB5.mono (by have := (HB3.out.trans (HB4.out.mono hs0)).size; omega))) q⟩
                case measure => simp [RowKit.intOf]; omega
    · obtain rfl : k = xs.length := by omega
      go_wp2
      go_ret
      exact ⟨rfl, HB3.out⟩
end Go.Proofs.Ytcjjbcppmfpohaa
