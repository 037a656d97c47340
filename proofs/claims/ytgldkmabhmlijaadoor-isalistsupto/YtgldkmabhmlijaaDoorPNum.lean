/- What opOf and number of package isa answer, for every string. -/
import Derived.Test.YtgldkmabhmlijaaDoorText
import Derived.Test.YtgldkmabhmlijaaDoorDecode
namespace Go.Proofs.YtgldkmabhmlijaaDoor
open Go.RowKit Go.Sort
/-- The operation of a name, or none. -/
def opN (l : List UInt8) : Int := if nmL.idxOf l < 27 then (nmL.idxOf l : Int) else -1
theorem nm_get (k : Nat) (h : k < 27) : nmL[k]'h = nmL.getD k [] := by rw [List.getD_eq_getElem?_getD, List.getElem?_eq_getElem (show k < nmL.length from h)]; rfl
theorem opN_at (l : List UInt8) (k : Nat) (h : k < 27) (hk : nmL.getD k [] = l) (hj : ∀ j, j < k → nmL.getD j [] ≠ l) : opN l = k := by
  have hm : nmL.idxOf l = k := by
    have hl : nmL.idxOf l < nmL.length := List.idxOf_lt_length_of_mem (by rw [← hk, ← nm_get k h]; exact List.getElem_mem _)
    have hg : nmL[nmL.idxOf l] = l := List.getElem_idxOf hl
    rcases Nat.lt_trichotomy (nmL.idxOf l) k with h1 | h1 | h1
    · exact absurd ((nm_get _ hl).symm.trans hg) (hj _ h1)
    · exact h1
    · have hf := List.not_of_lt_findIdx (p := (· == l)) (xs := nmL) h1
      exact absurd ((nm_get k h).trans hk) (beq_eq_false_iff_ne.1 hf)
  unfold opN; rw [hm, if_pos h]
theorem opN_none (l : List UInt8) (hj : ∀ j, j < 27 → nmL.getD j [] ≠ l) : opN l = -1 := by
  unfold opN
  rw [if_neg]
  intro h
  exact hj _ h ((nm_get _ h).symm.trans (List.getElem_idxOf h))
theorem toL_beq (a b : ByteArray) : (a.toList == b.toList) = decide (a.data.toList = b.data.toList) := by
  rw [ByteArray.toList_eq, ByteArray.toList_eq, Bool.eq_iff_iff]; simp
set_option maxRecDepth 100000 in
set_option maxHeartbeats 2000000 in
theorem opOf_any (s : ByteArray) (w : World) (hE : Env w) : Calls Tryd.prog 51 #[.string s] w fun e w' => e = .returned (.int .i64 (opN s.data.toList)) ∧ Below w.heap.size w w' := by
  have HE := Lib.hid hE
  clear hE
  go_enter Tryd.func51, Tryd.ntmps51
  go_wp2
  go_loopw [4] (fun i wr => ∃ k m : Nat, k ≤ 27 ∧ i = .int .i64 k ∧ (∀ j, j < k → nmL.getD j [] ≠ s.data.toList) ∧ wr = w.drewN m) (fun i _ => 27 - (intOf i).toNat)
  case atStart => exact ⟨0, 0, by omega, rfl, fun j hj => by omega, rfl⟩
  case round =>
    obtain ⟨k, m, hk, rfl, hj, rfl⟩ := hrel
    have HJ := Lib.hid hj
    clear hj
    by_cases hlt : k < 27
    · have hki : (k : Int) < 27 := by omega
      have hn := HE.out.names k hlt
      obtain ⟨nb, hnb⟩ : ∃ nb : ByteArray, nb = ⟨(nmL.getD k []).toArray⟩ := ⟨_, rfl⟩
      have hnl : nb.data.toList = nmL.getD k [] := by rw [hnb]
      rw [← hnb] at hn
      clear hnb
      by_cases he : nmL.getD k [] = s.data.toList
      · have hbq : (nb.toList == s.toList) = true := by rw [toL_beq, hnl]; simpa using he
        have HO : Hid (opN s.data.toList = k) := opN_at _ k hlt he HJ.out
        clear he hnl
        go_wp2
        go_ret
        exact ⟨by rw [HO.out]; rfl, bdn (Below.refl _ _) _⟩
      · have hbq : (nb.toList == s.toList) = false := by rw [toL_beq, hnl]; simpa using he
        have HJ2 : Hid (∀ j, j < k + 1 → nmL.getD j [] ≠ s.data.toList) := fun j hj => if e : j = k then e ▸ he else HJ.out j (by omega)
        clear he hnl
        go_wp2
        go_roundw
        case rel => exact ⟨k + 1, m, by omega, by go_num, HJ2.out, rfl⟩
        case measure => simp [intOf]; omega
    · have HO : Hid (opN s.data.toList = -1) := opN_none _ (fun j hj => HJ.out j (by omega))
      obtain rfl : k = 27 := by omega
      go_wp2
      go_ret
      exact ⟨by rw [HO.out]; rfl, bdn (Below.refl _ _) _⟩
/-- The number of a part; nought, if there is none. -/
def numL (l : List UInt8) : Int := match Lib.atoiAll (Lib.trimPrefix l [114]) with | .ok v => v | _ => 0
set_option maxRecDepth 100000 in
set_option maxHeartbeats 2000000 in
theorem number_any (s : ByteArray) (w : World) (hE : Env w) (hs : s.size ≤ 281474976710656) : Calls Tryd.prog 52 #[.string s] w fun e w' => e = .returned (.int .i64 (numL s.data.toList)) ∧ Below w.heap.size w w' := by
  have htl : (Lib.trimPrefix s.data.toList [114]).length ≤ s.size := by
    unfold Lib.trimPrefix; split <;> simp
  obtain ⟨ev1, he1, hk1⟩ := hE.es
  obtain ⟨ev2, he2, hk2⟩ := hE.er
  obtain ⟨p, hp⟩ : ∃ p : ByteArray, p = ⟨(Lib.trimPrefix s.data.toList [114]).toArray⟩ := ⟨_, rfl⟩
  have hpl : p.data.toList = Lib.trimPrefix s.data.toList [114] := by rw [hp]
  have hps : p.size ≤ 281474976710656 := by rw [hp]; exact Nat.le_trans htl hs
  have HTP : Hid (∀ W, Calls Tryd.prog 63 #[.string s, .string ⟨#[114]⟩] W fun e w' => e = .returned (.string p) ∧ w' = W) := fun W => by rw [hp]; exact Tryd.strings_TrimPrefix s ⟨#[114]⟩ W
  have HN : Hid (numL s.data.toList = match Lib.atoiAll p.data.toList with | .ok v => v | _ => 0) := by rw [hpl]; rfl
  clear hp hpl htl
  cases hA : Lib.atoiAll p.data.toList with
  | ok v =>
    have hC := Tryd.strconv_Atoi_ok p (by omega) v hA w
    have HV : Hid (numL s.data.toList = v) := by simp only [Hid]; rw [HN.out, hA]
    clear hA
    go_enter Tryd.func52, Tryd.ntmps52
    go_wp2_with (first | (go_at_call 63; refine (HTP.out _).mono ?_; rintro e w' ⟨rfl, hw'⟩; rw [hw']; clear hw' w') | (go_at_call 62; refine hC.mono ?_; rintro e w1 ⟨rfl, hw1⟩))
    go_ret
    refine ⟨by rw [HV.out]; rfl, ?_⟩
    rcases hw1 with rfl | ⟨t, rfl⟩
    · exact Below.refl _ _
    · exact bytesWorld_below _ _ _
  | «syntax» =>
    have hC := Tryd.strconv_Atoi_syntax p hps hA ev1 w he1 hk1
    have HV : Hid (numL s.data.toList = 0) := by simp only [Hid]; rw [HN.out, hA]
    clear hA
    go_enter Tryd.func52, Tryd.ntmps52
    go_wp2_with (first | (go_at_call 63; refine (HTP.out _).mono ?_; rintro e w' ⟨rfl, hw'⟩; rw [hw']; clear hw' w') | (go_at_call 62; refine hC.mono ?_; rintro e w1 ⟨N, rfl, hN, hN2, hb⟩))
    go_ret
    exact ⟨by rw [HV.out]; rfl, hb⟩
  | range =>
    have hC := Tryd.strconv_Atoi_range p hps hA ev2 w he2 hk2
    have HV : Hid (numL s.data.toList = 0) := by simp only [Hid]; rw [HN.out, hA]
    clear hA
    go_enter Tryd.func52, Tryd.ntmps52
    go_wp2_with (first | (go_at_call 63; refine (HTP.out _).mono ?_; rintro e w' ⟨rfl, hw'⟩; rw [hw']; clear hw' w') | (go_at_call 62; refine hC.mono ?_; rintro e w1 ⟨N, rfl, hN, hN2, hb⟩))
    go_ret
    exact ⟨by rw [HV.out]; rfl, hb⟩
end Go.Proofs.YtgldkmabhmlijaaDoor
