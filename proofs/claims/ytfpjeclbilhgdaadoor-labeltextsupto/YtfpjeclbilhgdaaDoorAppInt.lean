/- strconv.AppendInt at base 10 onto a row of bytes that the call has made, for every number. -/
import Derived.Test.YtfpjeclbilhgdaaDoorBrow
import Derived.Test.YtfpjeclbilhgdaaDoorParseE
import Derived.Test.YtfpjeclbilhgdaaDoorBytes
import Derived.Shelf.Strconv.AppendIntPublic10
import Derived.WalkKit
import Derived.WalkSpells
import Derived.Lib.Hide
import Derived.Maps.AppendAt
namespace Go.Proofs.YtfpjeclbilhgdaaDoor
open Go.RowKit Go.Sort

set_option maxRecDepth 100000 in
set_option maxHeartbeats 2000000 in
theorem AppendUint_small (u B : Nat) (hu : u < 100) (sv : Value) (xs : List UInt8) (w : World) (h : BR w B sv xs) (hB : B ≤ w.heap.size) (hlim : xs.length + 20 ≤ 140737488355328) :
    Calls Tryd.prog 52 #[sv, .int .u64 u, .int .i64 10] w fun e w' => ∃ v', e = .returned v' ∧ BR w' B v' (xs ++ Lib.decDigits u) ∧ Below B w w' ∧ Kept w w' sv v' ∧ w.heap.size ≤ w'.heap.size := by
  obtain ⟨i0, hi, hz0, hz1, hz2⟩ := info_parts info5
  have hd : (Lib.decDigits u).length ≤ 20 := by
    rw [Lib.decDigits_length]
    rcases Nat.eq_zero_or_pos u with rfl | h1
    · unfold Lib.nDigits; simp
    · have := Lib.numDigits_eq u h1 (by omega); split at this <;> omega
  have hui : (u : Int) < 100 := by omega
  have hsrc : ∀ W, Src Tryd.prog 1 9 (.string ⟨(Lib.decDigits u).toArray⟩) (Lib.decDigits u).length (bc (Lib.decDigits u)) W := fun W => Src.ofString (w := W) Tryd.underlying9 ⟨(Lib.decDigits u).toArray⟩
  have HS := Lib.hid hsrc
  clear hsrc
  go_enter Tryd.func52, Tryd.ntmps52
  go_wp2_with (first
    | (go_at_call 74; refine (Tryd.internal_strconv_small u hu _).mono ?_; rintro e w' ⟨rfl, hw'⟩; rw [hw']; clear hw' w')
    | (at_builtin; refine wpList_append_br rfl _ _ 39 9 rfl 5 i0 Tryd.underlying39 hi hz0 hz1 hz2 B sv xs (Lib.decDigits u) rfl h (.string ⟨(Lib.decDigits u).toArray⟩) rfl (HS.out _) (by omega) hB ?_; intro v' w3 r1 r2 r3 r4))
  go_ret
  exact ⟨v', rfl, r1, r2, r3, r4⟩
set_option maxRecDepth 100000 in
set_option maxHeartbeats 2000000 in
theorem AppendUint_big (u B : Nat) (hu : 100 ≤ u) (hu64 : u < 18446744073709551616) (sv : Value) (xs : List UInt8) (w : World) (h : BR w B sv xs) (hB : B ≤ w.heap.size) (hlim : xs.length + 20 ≤ 140737488355328) (htab : Pow w) :
    Calls Tryd.prog 52 #[sv, .int .u64 u, .int .i64 10] w fun e w' => ∃ v', e = .returned v' ∧ BR w' B v' (xs ++ Lib.decDigits u) ∧ Below B w w' ∧ Kept w w' sv v' ∧ w.heap.size ≤ w'.heap.size := by
  obtain ⟨i0, hi, hz0, hz1, hz2⟩ := info_parts info5
  have hu1 : 1 ≤ u := by omega
  have hnd20 : Lib.nDigits u ≤ 20 := by have := Lib.numDigits_eq u hu1 hu64; split at this <;> omega
  have hal : (Tryd.prog).arrayLen 92 = 24 := by simp [Program.arrayLen, Tryd.underlying92]
  have hsl : ∀ W, (Instr.sliceAt 92 (.pointer (some ⟨w.heap.size, 0, none⟩)) none (some (.int .i64 (Lib.nDigits u : Int))) none).run Tryd.prog W = .ok (.slice (some ⟨w.heap.size, 0, none⟩) (Lib.nDigits u) 24) W := fun W => by
    rw [run_sliceAt_array_h W 92 ⟨w.heap.size, 0, none⟩ (by simp [Program.arrayLen, Program.elem, Tryd.underlying92]) .i64 (Lib.nDigits u : Int) (by omega) (by rw [hal]; omega)]
    go_simp
  have hH0 := Lib.holds_zero0 w 92 (Lib.nDigits u) (by omega)
  have hfmt := Tryd.internal_strconv_formatBase10 w.heap.size 0 24 u (Array.replicate (Lib.nDigits u) 0) (w.alloc (.cells Lib.zeros24 92)) hH0 (by rw [Array.size_replicate]; exact Lib.lt_pow_nDigits u) hu64 (by rw [Array.size_replicate]; omega)
  rw [Array.size_replicate] at hfmt
  have HH0 := Lib.hid hH0
  have iu : (100 : Int) ≤ (u : Int) := by omega
  clear hH0 hal
  go_enter Tryd.func52, Tryd.ntmps52
  go_wp2_with (first
    | (go_at_call 75; refine (Tryd.internal_strconv_numDigits u hu1 hu64 _ (Lib.tabIs_alloc htab _)).mono ?_; rintro e w' ⟨rfl, hw'⟩; rw [hw']; clear hw' w')
    | (go_at_call 76; refine hfmt.mono ?_; rintro e w2 ⟨rfl, k, v', dk, hw2', hF⟩; have HW2 := Lib.hid hw2'; clear hw2'; refine Hid.out ?_))
  refine Lib.hid ?_
  have hw2 := HW2.out
  obtain ⟨os, eo⟩ := Lib.fin_at w (.cells Lib.zeros24 92) dk k 0
  have hcells : ∀ j u', (bc (Lib.decDigits u))[j]? = some u' → w2.cell? ((⟨w.heap.size, 0, none⟩ : Addr).add j) = some u' := by
    intro j u' hj
    have hjl : j < (Lib.decDigits u).length := by
      have h5 := (List.getElem?_eq_some_iff.1 hj).1
      rwa [bc_len] at h5
    rw [bc_get _ j hjl] at hj
    cases hj
    rw [hw2, Lib.row_is_numeral hF j hjl, Lib.add_plain, World.cell?_drewN]
    exact cell?_putRow (fun (b : UInt8) => Value.int .u8 (b.toNat : Int)) _ w.heap.size 0 _ dk HH0.out (by rw [hF.size, Array.size_replicate]) j (by rw [hF.size]; rw [Lib.decDigits_length] at hjl; exact hjl)
  have hb2 : Below w.heap.size w w2 := by rw [hw2, eo]; exact Lib.below_grow w.heap.size w (Nat.le_refl _) k os
  clear hw2 HW2 eo HH0 hfmt
  have h2 := h.below hb2
  have hz := hb2.size
  have hsrc : Src Tryd.prog 1 39 (.slice (some ⟨w.heap.size, 0, none⟩) (Lib.nDigits u) 24) (Lib.decDigits u).length (bc (Lib.decDigits u)) w2 := by
    have := Src.ofSlice (P := Tryd.prog) (w := w2) (size := 1) Tryd.underlying39 ⟨w.heap.size, 0, none⟩ (Lib.nDigits u) 24 (bc (Lib.decDigits u)) (by rw [bc_len, Lib.decDigits_length, Nat.mul_one]) hcells (by intro u' hu'; simp only [bc, List.mem_map] at hu'; obtain ⟨b, _, rfl⟩ := hu'; rfl)
    rw [Lib.decDigits_length]; exact this
  have HS := Lib.hid hsrc
  have hlen : xs.length + (Lib.decDigits u).length ≤ 140737488355328 := by rw [Lib.decDigits_length]; omega
  clear hsrc hcells hF
  go_wp2_with (at_builtin; refine wpList_append_br rfl _ _ 39 39 rfl 5 i0 Tryd.underlying39 hi hz0 hz1 hz2 B sv xs (Lib.decDigits u) rfl h2 (.slice (some ⟨w.heap.size, 0, none⟩) (Lib.nDigits u) 24) rfl HS.out hlen (by omega) ?_; intro v3 w3 r1 r2 r3 r4)
  go_ret
  refine ⟨v3, rfl, r1, (hb2.mono hB).trans r2, fun k hk hne => ?_, by omega⟩
  obtain ⟨a1, a2⟩ := r3 k (by omega) hne
  exact ⟨a1.trans (hb2.block k hk), a2⟩
theorem AppendUint_br (u B : Nat) (hu64 : u < 18446744073709551616) (sv : Value) (xs : List UInt8) (w : World) (h : BR w B sv xs) (hB : B ≤ w.heap.size) (hlim : xs.length + 20 ≤ 140737488355328) (htab : Pow w) :
    Calls Tryd.prog 52 #[sv, .int .u64 u, .int .i64 10] w fun e w' => ∃ v', e = .returned v' ∧ BR w' B v' (xs ++ Lib.decDigits u) ∧ Below B w w' ∧ Kept w w' sv v' ∧ w.heap.size ≤ w'.heap.size := by
  by_cases hu : u < 100
  · exact AppendUint_small u B hu sv xs w h hB hlim
  · exact AppendUint_big u B (by omega) hu64 sv xs w h hB hlim htab

theorem wneg (u : Nat) (h1 : 0 < u) (h2 : u ≤ 4611686018427387904) : IntKind.u64.wrap (-IntKind.u64.wrap (-(u : Int))) = u := by
  have e : ∀ n : Int, IntKind.u64.wrap n = n % 18446744073709551616 := fun n => by simp [IntKind.wrap, IntKind.bits, IntKind.signed]
  rw [e, e]; omega
set_option maxRecDepth 100000 in
set_option maxHeartbeats 2000000 in
theorem AppendInt_in (i : Int) (B : Nat) (h0 : -4611686018427387904 ≤ i) (h1 : i ≤ 4611686018427387904) (sv : Value) (xs : List UInt8) (w : World) (h : BR w B sv xs) (hB : B ≤ w.heap.size) (hlim : xs.length + 21 ≤ 140737488355328) (htab : ∀ w', Below B w w' → Pow w') :
    Calls Tryd.prog 38 #[sv, .int .i64 i, .int .i64 10] w fun e w' => ∃ v', e = .returned v' ∧ BR w' B v' (xs ++ Lib.itoa i) ∧ Below B w w' ∧ Kept w w' sv v' ∧ w.heap.size ≤ w'.heap.size := by
  obtain ⟨i0, hi, hz0, hz1, hz2⟩ := info_parts info5
  by_cases hn : i < 0
  · obtain ⟨u, rfl⟩ : ∃ u : Nat, i = -(u : Int) := ⟨(-i).toNat, by omega⟩
    have hI : Lib.itoa (-(u : Int)) = 45 :: Lib.decDigits u := by unfold Lib.itoa; rw [if_pos hn]; congr 2; omega
    have HI := Lib.hid hI
    clear hI
    have hsrc : Hid (Src Tryd.prog 1 39 (.slice (some ⟨w.heap.size, 0, none⟩) 1 1) [(45 : UInt8)].length (bc [45]) (w.alloc (.cells #[.int .u8 45] 5))) :=
      Src.ofSlice (P := Tryd.prog) (w := w.alloc (.cells #[.int .u8 45] 5)) (size := 1) Tryd.underlying39 ⟨w.heap.size, 0, none⟩ 1 1 (bc [45]) rfl (cell_one_new w (.int .u8 45) 5) (by intro u' hu'; simp only [bc, List.mem_map] at hu'; obtain ⟨b, _, rfl⟩ := hu'; rfl)
    have hbA : Below w.heap.size w (w.alloc (.cells #[.int .u8 45] 5)) := (Below.refl _ _).alloc (Nat.le_refl _) _
    have hA := h.below hbA
    have hzA : (w.alloc (.cells #[.int .u8 45] 5)).heap.size = w.heap.size + 1 := by simp
    go_enter Tryd.func38, Tryd.ntmps38
    go_wp2_with (at_builtin; refine wpList_append_br rfl _ _ 39 39 rfl 5 i0 Tryd.underlying39 hi hz0 hz1 hz2 B sv xs [45] rfl hA (.slice (some ⟨w.heap.size, 0, none⟩) 1 1) rfl hsrc.out (by simp; omega) (by omega) ?_; intro v3 w3 r1 r2 r3 r4; refine Hid.out ?_)
    refine Lib.hid ?_
    have hC := AppendUint_br u B (by omega) v3 (xs ++ [45]) w3 r1 (by omega) (by simp; omega) (htab w3 ((hbA.mono hB).trans r2))
    have hwn := wneg u (by omega) (by omega)
    go_wp2_with (go_at_call 52; refine hC.mono ?_; rintro e w' ⟨v', rfl, s1, s2, s3, s4⟩)
    go_ret
    refine ⟨v', rfl, by rw [HI.out]; simpa using s1, ((hbA.mono hB).trans r2).trans s2, fun k hk hne => ?_, by omega⟩
    obtain ⟨a1, a2⟩ := r3 k (by omega) hne
    obtain ⟨b1, b2⟩ := s3 k (by omega) a2
    exact ⟨(b1.trans a1).trans (hbA.block k hk), b2⟩
  · obtain ⟨u, rfl⟩ : ∃ u : Nat, i = (u : Int) := ⟨i.toNat, by omega⟩
    have hI : Lib.itoa (u : Int) = Lib.decDigits u := by unfold Lib.itoa; rw [if_neg hn]; congr 1
    have HI := Lib.hid hI
    clear hI
    have hC := AppendUint_br u B (by omega) sv xs w h hB (by omega) (htab w (Below.refl _ _))
    go_enter Tryd.func38, Tryd.ntmps38
    go_wp2_with (go_at_call 52; refine hC.mono ?_; rintro e w' ⟨v', rfl, r1, r2, r3, r4⟩)
    go_ret
    exact ⟨v', rfl, by rw [HI.out]; exact r1, r2, r3, r4⟩
/-- strconv.AppendInt at base 10. -/
theorem AppendInt_br (i : Int) (B : Nat) (h0 : -4611686018427387904 ≤ i) (h1 : i ≤ 4611686018427387904) (sv : Value) (xs : List UInt8) (w : World) (h : BR w B sv xs) (hB : B ≤ w.heap.size) (hlim : xs.length + 21 ≤ 140737488355328) (htab : ∀ w', Below B w w' → Pow w') :
    Calls Tryd.prog 15 #[sv, .int .i64 i, .int .i64 10] w fun e w' => ∃ v', e = .returned v' ∧ BR w' B v' (xs ++ Lib.itoa i) ∧ Below B w w' ∧ Kept w w' sv v' ∧ w.heap.size ≤ w'.heap.size := by
  have hC := AppendInt_in i B h0 h1 sv xs w h hB hlim htab
  go_enter Tryd.func15, Tryd.ntmps15
  go_wp2_with (go_at_call 38; refine hC.mono ?_; rintro e w' ⟨v', rfl, r1, r2, r3, r4⟩)
  go_ret
  exact ⟨v', rfl, r1, r2, r3, r4⟩
end Go.Proofs.YtfpjeclbilhgdaaDoor
