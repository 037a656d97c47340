/- PagesWrites answers true. -/
import Derived.Test.YtpekeijdidijeaaLives
namespace Go.Proofs.Ytpekeijdidijeaa
open Go.RowKit Go.Lib
theorem u64_wrap (n : Int) : IntKind.u64.wrap n = n % 18446744073709551616 := by
  simp [IntKind.wrap, IntKind.bits, IntKind.signed]
/-- The number of bytes that the law takes. -/
theorem mod_num (n : Int) (k : Nat) (h0 : 0 < k) (hk : k ≤ 4097) : ∃ m : Nat, m < k ∧ wrap64 ((IntKind.u64.wrap n).tmod k) = m := by
  have h1 : 0 ≤ IntKind.u64.wrap n := by rw [u64_wrap]; omega
  refine ⟨((IntKind.u64.wrap n).tmod k).toNat, ?_, ?_⟩
  · rw [Int.tmod_eq_emod_of_nonneg h1]; have := Int.emod_lt_of_pos (IntKind.u64.wrap n) (by omega : (0 : Int) < k); have := Int.emod_nonneg (IntKind.u64.wrap n) (by omega : (k : Int) ≠ 0); omega
  · rw [Int.tmod_eq_emod_of_nonneg h1]
    have := Int.emod_lt_of_pos (IntKind.u64.wrap n) (by omega : (0 : Int) < k); have := Int.emod_nonneg (IntKind.u64.wrap n) (by omega : (k : Int) ≠ 0)
    rw [wrap64_id (by omega) (by omega)]; omega
theorem ext_data {s t : ByteArray} (h : s.data.toList = t.data.toList) : s = t := by
  cases s; cases t; simp at h; rw [h]
theorem read_all (d : List UInt8) (m : Nat) (h : d.length = m) : (d.drop 0).take m = d := by rw [List.drop_zero, List.take_of_length_le (by omega)]
set_option maxRecDepth 100000 in
set_option maxHeartbeats 1000000 in
theorem PagesWrites_any (n a : Int) (bf s : ByteArray) (w : World) (ha : -9223372036854775808 ≤ a ∧ a ≤ 9223372036854775807) (hb : bf.size < 4611686018427387904) (hs : s.size < 4611686018427387904) :
    Calls Try.prog 5 #[.int .i64 n, .int .i64 a, .string bf, .string s] w fun e w' => e = .returned (.bool true) ∧ Below w.heap.size w w' := by
  have HL := Lib.hid (lives_any w)
  obtain ⟨m, hm, hmv⟩ := mod_num n 4097 (by omega) (by omega)
  have hmv' : wrap64 ((IntKind.u64.wrap n).tmod 4097) = (m : Int) := hmv
  clear hmv
  have HN := Lib.hid (fun w0 => New_any m w0 (by omega))
  go_enter Try.func5, Try.ntmps5
  go_wp2_with (first | (go_at_call 9; refine HL.out.mono ?_; rintro e w0 ⟨rfl, hB0⟩) | (go_at_call 10; refine (HN.out _).mono ?_; rintro e w1 ⟨rfl, ⟨ls1, hA1⟩, hB1⟩; refine Hid.out ?_))
  refine Lib.hid ?_
  clear hmv'
  obtain ⟨D1, hD1⟩ : ∃ D1 : ByteArray → List UInt8, D1 = fun b => over (List.replicate m 0) 0 b.data.toList := ⟨_, rfl⟩
  have hD1l : ∀ b, (D1 b).length = m := fun b => by rw [hD1]; show (over _ _ _).length = m; rw [over_len]; simp
  have HW : Hid (∀ (b : ByteArray), b.size ≤ m → Calls Try.prog 17 #[.pointer (some ⟨w0.heap.size, 0, none⟩), .int .i64 0, .slice (some ⟨w1.heap.size, 0, none⟩) 1 1] (w1.alloc (.cells #[.string b] 9)) fun e w' => e = .returned (.int .i64 0) ∧ (∃ ls', BAt w' w0.heap.size w0.heap.size (D1 b) ls') ∧ Below w0.heap.size w1 w') := fun b hbm => by
    have hb1 : Below w1.heap.size w1 (w1.alloc (.cells #[.string b] 9)) := (Below.refl _ _).alloc (Nat.le_refl _) _
    have := Write_any w0.heap.size w0.heap.size _ ls1 _ 1 0 [b] _ (hA1.below hb1) (ps_new w1 [b]) (by simp [sumL]; omega) (by simp) (by omega)
    refine this.mono ?_
    intro e w2 h2
    rw [if_pos (by simp [fitsB, sumL]; omega)] at h2
    obtain ⟨rfl, ⟨l, hl⟩, hB, _⟩ := h2
    refine ⟨rfl, ⟨l, ?_⟩, (hb1.mono (size_of_blk hA1)).trans hB⟩
    rw [hD1]
    simpa [catL] using hl
  have HR : Hid (∀ (W : World) (d : List UInt8) ls, d.length = m → BAt W w0.heap.size w0.heap.size d ls → Calls Try.prog 18 #[.pointer (some ⟨w0.heap.size, 0, none⟩), .int .i64 0, .int .i64 m] W fun e w' => e = .returned (.tuple #[.string ⟨d.toArray⟩, .int .i64 0]) ∧ Below W.heap.size W w') := fun W d ls hd h => by
    have := Read_any w0.heap.size w0.heap.size 0 m d ls W h (by omega)
    rwa [read_all d m hd] at this
  have HBz : Hid ((bf.extract 0 (min (bf.size : Int) (m : Int)).toNat).size ≤ m) := by simp only [Hid]; rw [ByteArray.size_extract]; omega
  go_wp2_with (first | (go_at_call 17; refine (HW.out _ HBz.out).mono ?_; rintro e w2 ⟨rfl, ⟨ls2, hA2⟩, hB2⟩; refine Hid.out ?_))
  refine Lib.hid ?_
  generalize bf.extract 0 (min (bf.size : Int) (m : Int)).toNat = b1 at HBz hA2 ⊢
  have hb1 := HBz.out
  have hDl := hD1l b1
  have hpre : (⟨(D1 b1).toArray⟩ : ByteArray).extract 0 b1.size = b1 := by
    apply ext_data
    rw [ByteArray.data_extract, Array.toList_extract, List.extract_eq_take_drop, List.drop_zero, Nat.sub_zero]
    refine ext_getD (by rw [List.length_take]; simp [hDl]; omega) (fun j hj => ?_)
    have hj' : j < b1.size := by rw [List.length_take] at hj; simp at hj; omega
    rw [getD_take _ _ _ hj']
    show (D1 b1).getD j 0 = _
    rw [hD1]
    show (over _ _ _).getD j 0 = _
    rw [over_get _ _ _ _ (by simp; omega), if_pos ⟨Nat.zero_le _, by rw [← size_eq]; omega⟩, Nat.sub_zero]
  generalize D1 b1 = d1 at hA2 hDl hpre
  clear HW hD1 hD1l HBz
  have HR2 := Lib.hid (HR.out w2 d1 ls2 hDl hA2)
  have hsz1 : (⟨d1.toArray⟩ : ByteArray).size = m := by show d1.toArray.size = m; simpa using hDl
  generalize hold : (⟨d1.toArray⟩ : ByteArray) = old at hpre hsz1 HR2
  have Hold := Lib.hid hold
  have HA2 := Lib.hid hA2
  have HDl := Lib.hid hDl
  have hb1i : (b1.size : Int) ≤ (m : Int) := by omega
  clear hold hA2 hDl
  go_wp2_with (first | (go_at_call 18; refine HR2.out.mono ?_; rintro e w3 ⟨rfl, hB3⟩; refine Hid.out ?_))
  refine Lib.hid ?_
  have hb3 : Below w3.heap.size w3 (w3.alloc (.cells #[.string s] 9)) := (Below.refl _ _).alloc (Nat.le_refl _) _
  have hA3 := HA2.out.below hB3
  have hW := Write_any w0.heap.size w0.heap.size d1 ls2 _ 1 a [s] _ (hA3.below hb3) (ps_new w3 [s]) (by simp [sumL]; omega) (by simp) ha.2
  have hs0 := hB0.size
  have hs1 := hB1.size
  have q3 : Below w.heap.size w w3 := (hB0.trans (hB1.mono hs0)).trans (((hB2.mono hs0)).trans (hB3.mono (by have := hB2.size; omega)))
  have hbs := size_of_blk hA3
  by_cases hf : fitsB m a (s.size : Int) = true
  · have hf' : 0 ≤ a ∧ (0 : Int) ≤ s.size ∧ (s.size : Int) ≤ m - a := by simpa [fitsB] using hf
    obtain ⟨an, rfl⟩ : ∃ an : Nat, a = an := ⟨a.toNat, by omega⟩
    have HW2 : Hid (Calls Try.prog 17 #[.pointer (some ⟨w0.heap.size, 0, none⟩), .int .i64 an, .slice (some ⟨w3.heap.size, 0, none⟩) 1 1] (w3.alloc (.cells #[.string s] 9)) fun e w' => e = .returned (.int .i64 0) ∧ (∃ ls', BAt w' w0.heap.size w0.heap.size (over d1 an s.data.toList) ls') ∧ Below w0.heap.size w3 w') := hW.mono fun e w4 h4 => by
      rw [if_pos (by rw [HDl.out]; simpa [sumL] using hf)] at h4
      obtain ⟨rfl, ⟨l, hl⟩, hB, _⟩ := h4
      exact ⟨rfl, ⟨l, by simpa [catL] using hl⟩, (hb3.mono (by omega)).trans hB⟩
    have hol : (over d1 an s.data.toList).length = m := by rw [over_len]; exact HDl.out
    obtain ⟨now, hnow⟩ : ∃ now : ByteArray, (⟨(over d1 an s.data.toList).toArray⟩ : ByteArray) = now := ⟨_, rfl⟩
    have hnz : now.size = m := by rw [← hnow]; show (over _ _ _).toArray.size = m; simpa using hol
    have hex : ∀ (l : List UInt8) (x y : Nat), ((⟨l.toArray⟩ : ByteArray).extract x y).data.toList = (l.drop x).take (y - x) := fun l x y => by
      rw [ByteArray.data_extract, Array.toList_extract, List.extract_eq_take_drop]
    have hg : ∀ j, j < m → (over d1 an s.data.toList).getD j 0 = if an ≤ j ∧ j - an < s.size then s.data.toList.getD (j - an) 0 else d1.getD j 0 := fun j hj => by
      rw [over_get _ _ _ _ (by rw [HDl.out]; exact hj), ← size_eq]
    have x1 : now.extract 0 an = old.extract 0 an := ext_data (by
      rw [← hnow, ← Hold.out, hex, hex]
      refine ext_getD (by simp [hol, HDl.out]) (fun j hj => ?_)
      have hj' : j < an ∧ j < m := by simp [hol] at hj; omega
      rw [getD_take _ _ _ (by omega), getD_take _ _ _ (by omega), getD_drop, getD_drop, Nat.zero_add, hg j hj'.2, if_neg (by omega)])
    have x2 : now.extract an (an + s.size) = s := ext_data (by
      rw [← hnow, hex]
      refine ext_getD (by simp [hol]; omega) (fun j hj => ?_)
      have hj' : j < s.size := by simp [hol] at hj; omega
      rw [getD_take _ _ _ (by omega), getD_drop, hg _ (by omega), if_pos ⟨by omega, by omega⟩]; congr 1; omega)
    have x3 : now.extract (an + s.size) m = old.extract (an + s.size) m := ext_data (by
      rw [← hnow, ← Hold.out, hex, hex]
      refine ext_getD (by simp [hol, HDl.out]) (fun j hj => ?_)
      have hj' : an + s.size + j < m := by simp [hol] at hj; omega
      rw [getD_take _ _ _ (by omega), getD_take _ _ _ (by omega), getD_drop, getD_drop, hg _ hj', if_neg (by omega)])
    clear hW hf hg hex
    go_wp2_with (first | (go_at_call 17; refine HW2.out.mono ?_; rintro e w4 ⟨rfl, ⟨ls4, hA4⟩, hB4⟩; refine Hid.out ?_))
    refine Lib.hid ?_
    have HR4 := Lib.hid (HR.out w4 _ ls4 hol hA4)
    rw [hnow] at HR4
    have HB4 := Lib.hid hB4
    have hai : ¬ (an : Int) < 0 := by omega
    have hai2 : ¬ (m : Int) < (an : Int) := by omega
    have hai3 : ¬ (m : Int) - (an : Int) < (s.size : Int) := by omega
    clear hA4 hB4 hnow hol
    go_wp2_with (first | (go_at_call 18; refine HR4.out.mono ?_; rintro e w5 ⟨rfl, hB5⟩))
    have i1 : (0 : Int) ≤ (an : Int) := by omega
    have i2 : (an : Int) ≤ (m : Int) := by omega
    have i3 : (an : Int) + (s.size : Int) ≤ (m : Int) := by omega
    have i4 : (an : Int) ≤ (an : Int) + (s.size : Int) := by omega
    have i5 : (0 : Int) ≤ (an : Int) + (s.size : Int) := by omega
    have i6 : ((an : Int) + (s.size : Int)).toNat = an + s.size := by omega
    have hb8 : (b1.toList == b1.toList) = true := by simp
    go_quiet (fail)
    go_wp2
    go_ret
    have q4 : Below w.heap.size w w4 := q3.trans (HB4.out.mono hs0)
    have q5 := q4.trans (hB5.mono q4.size)
    exact ⟨rfl, ⟨q5.os, q5.tape, q5.output, q5.size, q5.block⟩⟩
  · have HW2 : Hid (Calls Try.prog 17 #[.pointer (some ⟨w0.heap.size, 0, none⟩), .int .i64 a, .slice (some ⟨w3.heap.size, 0, none⟩) 1 1] (w3.alloc (.cells #[.string s] 9)) fun e w' => e = .returned (.int .i64 9) ∧ w' = w3.alloc (.cells #[.string s] 9)) := hW.mono fun e w4 h4 => by
      rw [if_neg (by rw [HDl.out]; simpa [sumL] using hf)] at h4
      exact h4
    have HR4 := Lib.hid (HR.out _ _ ls2 HDl.out (hA3.below hb3))
    rw [Hold.out] at HR4
    have hf' : ¬ (0 ≤ a ∧ (0 : Int) ≤ s.size ∧ (s.size : Int) ≤ m - a) := by simpa [fitsB] using hf
    have q4 : Below w.heap.size w (w3.alloc (.cells #[.string s] 9)) := q3.trans (hb3.mono q3.size)
    clear hW hf
    by_cases a1 : a < 0
    · go_wp2_with (first
        | (go_at_call 17; refine HW2.out.mono ?_; rintro e w4 ⟨rfl, hw4⟩; rw [hw4]; clear hw4 w4)
        | (go_at_call 18; refine HR4.out.mono ?_; rintro e w5 ⟨rfl, hB5⟩))
      go_ret
      exact ⟨rfl, q4.trans (hB5.mono q4.size)⟩
    · by_cases a2 : (m : Int) < a
      · go_wp2_with (first
          | (go_at_call 17; refine HW2.out.mono ?_; rintro e w4 ⟨rfl, hw4⟩; rw [hw4]; clear hw4 w4)
          | (go_at_call 18; refine HR4.out.mono ?_; rintro e w5 ⟨rfl, hB5⟩))
        go_ret
        exact ⟨rfl, q4.trans (hB5.mono q4.size)⟩
      · have a3 : (m : Int) - a < (s.size : Int) := by omega
        go_wp2_with (first
          | (go_at_call 17; refine HW2.out.mono ?_; rintro e w4 ⟨rfl, hw4⟩; rw [hw4]; clear hw4 w4)
          | (go_at_call 18; refine HR4.out.mono ?_; rintro e w5 ⟨rfl, hB5⟩))
        go_ret
        exact ⟨rfl, q4.trans (hB5.mono q4.size)⟩
end Go.Proofs.Ytpekeijdidijeaa
