/- DirBytes: the law's walk. -/
import Derived.Test.YthifejdphflfpaaDoorRDec
namespace Go.Proofs.YthifejdphflfpaaDoor
open Go.RowKit Go.Sort
theorem par_long {s : ByteArray} (h : ¬ s.size ≤ 4096) : parS s = none := by unfold parS; rw [if_neg (fun h' => h h'.1)]
theorem Decode_all (s : ByteArray) (w : World) : Calls Tryd.prog 16 #[.string s] w fun e w' => ∃ v, e = .returned (.tuple #[v, .int .i64 (decE s)]) ∧ OwnP w.heap.size (decL s) v w' ∧ Below w.heap.size w w' := by
  by_cases h : s.size ≤ 4096
  · exact Decode_any s w h
  · obtain ⟨h1, h2⟩ := dec_none (par_long h)
    rw [h1, h2]
    exact (Decode_long s w (by omega)).mono fun e w' ⟨h3, h4⟩ => ⟨_, h3, OwnP.nil _ _, h4⟩
theorem refDecode_all (s : ByteArray) (w : World) : Calls Tryd.prog 17 #[.string s] w fun e w' => ∃ v B, e = .returned (.tuple #[v, .bool B]) ∧ (B = false ∧ decE s = 2 ∨ B = true ∧ decE s = 0 ∧ OwnP w.heap.size (decL s) v w') ∧ Below w.heap.size w w' := by
  by_cases h : s.size ≤ 4096
  · exact refDecode_any s w h
  · obtain ⟨h1, h2⟩ := dec_none (par_long h)
    exact (refDecode_long s w (by omega)).mono fun e w' ⟨h3, h4⟩ => ⟨_, _, h3, .inl ⟨rfl, h1⟩, h4⟩
theorem dec_two (s : ByteArray) (h : decE s = 2) : decL s = [] := by
  cases hp : parS s with
  | none => exact (dec_none hp).2
  | some l =>
    obtain ⟨h1, h2⟩ := dec_par hp
    rw [h1] at h
    by_cases hr : rightL l = true
    · rw [if_pos hr] at h; cases h
    · rw [h2, if_neg hr]
set_option maxRecDepth 100000 in
set_option maxHeartbeats 4000000 in
theorem DirBytes_any (p : Option Addr) (cp : Nat) (l : List Nm) (s : ByteArray) (w : World) (hE : Env w) (hl : RAt w p cp l) (hcap : l.length * 32 ≤ 140737488351232) :
    Calls Tryd.prog 4 #[.slice p l.length cp, .string s] w fun e w' => e = .returned (.bool true) ∧ Below w.heap.size w w' := by
  have HLv := Lib.hid (lives_any w hE)
  have hlm : l.length ≤ maxLen := Nat.le_trans hl.len hl.top
  have hl4 : l.length ≤ 4398046511104 := by omega
  have HL : Hid (∀ W, Below w.heap.size w W → RAt W p cp l) := fun W h => hl.below h
  have HRR := Lib.hid (fun W (h : Below w.heap.size w W) => refRight_any p cp l W hl4 (HL.out W h).row)
  have HRt := Lib.hid (fun W (h : Below w.heap.size w W) => Right_any p cp l W hlm (HL.out W h).row)
  have HEn := Lib.hid (fun W (h : Below w.heap.size w W) => Encode_any p cp l W hlm (HL.out W h).row)
  have HDe := Lib.hid (Decode_all s)
  clear hl hE hcap hl4 hlm
  go_enter Tryd.func4, Tryd.ntmps4
  go_wp2_with (go_at_call 9; refine HLv.out.mono ?_; rintro e w1 ⟨rfl, hx⟩; refine Hid.out ?_)
  refine Lib.hid ?_
  clear HLv
  cases hr : rightL l
  · have hE0 : encE l = 2 := by unfold encE; rw [if_neg (by simp [hr])]
    have hS0 : encS l = ⟨#[]⟩ := by unfold encS; rw [if_neg (by simp [hr])]
    rw [hr] at HRR HRt
    rw [hE0, hS0] at HEn
    clear hE0 hS0 hr
    go_wp2_with (first
      | (go_at_call 13; refine (HRR.out _ hx).mono ?_; rintro e w' ⟨rfl, hb'⟩; replace hx := hx.trans (hb'.mono hx.size); clear hb')
      | (go_at_call 14; refine (HEn.out _ hx).mono ?_; rintro e w' ⟨rfl, hb'⟩; replace hx := hx.trans (hb'.mono hx.size); clear hb')
      | (go_at_call 12; refine (HRt.out _ hx).mono ?_; rintro e w' ⟨rfl, hb'⟩; replace hx := hx.trans (hb'.mono hx.size); clear hb')
      | (go_at_call 16; refine (HDe.out _).mono ?_; rintro e w6 ⟨v6, rfl, ho6, hb6⟩; refine Hid.out ?_))
    refine Lib.hid ?_
    replace hx := hx.trans (hb6.mono hx.size)
    obtain ⟨p6, c6, rfl, -, hR6⟩ := own_rat ho6
    have HRD := Lib.hid (refDecode_all s w6)
    have HDD := Lib.hid (dec_two s)
    obtain ⟨D, hD⟩ : ∃ D, decE s = D := ⟨_, rfl⟩
    obtain ⟨L, hL⟩ : ∃ L, decL s = L := ⟨_, rfl⟩
    rw [hD, hL] at HRD HDD
    rw [hD]
    rw [hL] at hR6 ⊢
    clear hD hL ho6 hb6 HDe HL HRt HEn
    go_wp2_with (go_at_call 17; refine HRD.out.mono ?_; rintro e w7 ⟨v7, B, rfl, hcase, hb7⟩; refine Hid.out ?_)
    refine Lib.hid ?_
    replace hx := hx.trans (hb7.mono hx.size)
    rcases hcase with ⟨rfl, hD2⟩ | ⟨rfl, hD0, ho7⟩
    · have hL0 := HDD.out hD2
      subst hD2
      subst hL0
      clear HRD HDD hR6 hb7
      rw [List.length_nil]
      go_wp2
      go_ret
      exact ⟨ret_bool (by simp), hx⟩
    · subst hD0
      obtain ⟨p7, c7, rfl, -, hR7⟩ := own_rat ho7
      have HSm := Lib.hid (Same_any p6 p7 c6 c7 L L w7 (Nat.le_trans hR6.len hR6.top) (hR6.below hb7).row hR7.row)
      rw [decide_eq_true rfl] at HSm
      clear ho7 hR7 hR6 HRD HDD hb7
      go_wp2_with (go_at_call 11; refine HSm.out.mono ?_; rintro e w8 ⟨rfl, hb8⟩; replace hx := hx.trans (hb8.mono hx.size); clear hb8)
      go_ret
      exact ⟨ret_bool (by simp), hx⟩
  · have hE0 : encE l = 0 := by unfold encE; rw [if_pos hr]
    have HRE := Lib.hid (fun W (h : Below w.heap.size w W) => refEncode_any p cp l W hr (HL.out W h).row)
    obtain ⟨S, hS⟩ : ∃ S, encS l = S := ⟨_, rfl⟩
    rw [hr] at HRR HRt
    rw [hE0, hS] at HEn
    rw [hS] at HRE
    clear hE0 hS hr
    go_wp2_with (first
      | (go_at_call 13; refine (HRR.out _ hx).mono ?_; rintro e w' ⟨rfl, hb'⟩; replace hx := hx.trans (hb'.mono hx.size); clear hb')
      | (go_at_call 14; refine (HEn.out _ hx).mono ?_; rintro e w' ⟨rfl, hb'⟩; replace hx := hx.trans (hb'.mono hx.size); clear hb')
      | (go_at_call 12; refine (HRt.out _ hx).mono ?_; rintro e w' ⟨rfl, hb'⟩; replace hx := hx.trans (hb'.mono hx.size); clear hb')
      | (go_at_call 15; refine (HRE.out _ hx).mono ?_; rintro e w' ⟨rfl, hb'⟩; replace hx := hx.trans (hb'.mono hx.size); clear hb')
      | (go_at_call 16; refine (HDe.out _).mono ?_; rintro e w6 ⟨v6, rfl, ho6, hb6⟩; refine Hid.out ?_))
    clear HRE
    refine Lib.hid ?_
    replace hx := hx.trans (hb6.mono hx.size)
    obtain ⟨p6, c6, rfl, -, hR6⟩ := own_rat ho6
    have HRD := Lib.hid (refDecode_all s w6)
    have HDD := Lib.hid (dec_two s)
    obtain ⟨D, hD⟩ : ∃ D, decE s = D := ⟨_, rfl⟩
    obtain ⟨L, hL⟩ : ∃ L, decL s = L := ⟨_, rfl⟩
    rw [hD, hL] at HRD HDD
    rw [hD]
    rw [hL] at hR6 ⊢
    clear hD hL ho6 hb6 HDe HL HRt HEn
    go_wp2_with (go_at_call 17; refine HRD.out.mono ?_; rintro e w7 ⟨v7, B, rfl, hcase, hb7⟩; refine Hid.out ?_)
    refine Lib.hid ?_
    replace hx := hx.trans (hb7.mono hx.size)
    rcases hcase with ⟨rfl, hD2⟩ | ⟨rfl, hD0, ho7⟩
    · have hL0 := HDD.out hD2
      subst hD2
      subst hL0
      clear HRD HDD hR6 hb7
      rw [List.length_nil]
      go_wp2
      go_ret
      exact ⟨ret_bool (by simp), hx⟩
    · subst hD0
      obtain ⟨p7, c7, rfl, -, hR7⟩ := own_rat ho7
      have HSm := Lib.hid (Same_any p6 p7 c6 c7 L L w7 (Nat.le_trans hR6.len hR6.top) (hR6.below hb7).row hR7.row)
      rw [decide_eq_true rfl] at HSm
      clear ho7 hR7 hR6 HRD HDD hb7
      go_wp2_with (go_at_call 11; refine HSm.out.mono ?_; rintro e w8 ⟨rfl, hb8⟩; replace hx := hx.trans (hb8.mono hx.size); clear hb8)
      go_ret
      exact ⟨ret_bool (by simp), hx⟩
end Go.Proofs.YthifejdphflfpaaDoor
