/- More bytes are taken. -/
import Derived.Test.YtfcmgodeehjnoaaDoorAddM
namespace Go.Proofs.YtfcmgodeehjnoaaDoor
open Go.RowKit Go.Sort
theorem sizeU8 : ∀ w, (Go.sizeOf 5).run Tryd.prog w = .ok 1 w := Tryd.sizeOf5
theorem zeroU8 : ∀ w, (zeroValue 5).run Tryd.prog w = .ok (.int .u8 0) w := Tryd.zeroValue5
/-- What is left of a string behind its first n bytes. -/
theorem cut_str (s : ByteArray) (n : Nat) : (s.extract n s.size).data.toList = s.data.toList.drop n := by
  have h : s.data.toList.length = s.size := by simp
  simp only [ByteArray.data_extract, Array.toList_extract, List.extract]
  exact List.take_of_length_le (by rw [List.length_drop]; omega)
theorem tlE (s : ByteArray) : s.toList = s.data.toList := Lib.toList_data s
theorem str_full {s : ByteArray} (h : 0 < s.size) : s.toList.isEmpty = false := by
  rw [tlE]
  have h2 : s.data.toList.length = s.size := by simp
  cases hd : s.data.toList with
  | nil => rw [hd] at h2; simp at h2; omega
  | cons a r => rfl
set_option maxRecDepth 100000 in
set_option maxHeartbeats 4000000 in
theorem Add_any (g : Nat) (l : List UInt8) (S : ByteArray) (w : World) (hE : w.rangeAt 0 0 (U kN)) (h : HAt w g l) (hg0 : 0 ≠ g) (hG : 0 < w.heap.size) (hs : l.length + S.size ≤ 1000000000) :
    Calls Tryd.prog 19 #[.pointer (some ⟨g, 0, none⟩), .string S] w fun e w' => e = .returned (.tuple #[]) ∧ Oth g w w' ∧ HAt w' g (l ++ S.data.toList) := by
  have hg := h.lt
  go_enter Tryd.func19, Tryd.ntmps19
  go_wp2_with fail
  go_loopw [1] (fun v wr => ∃ (s : ByteArray) (t : List UInt8), v = .string s ∧ t ++ s.data.toList = S.data.toList ∧ HAt wr g (l ++ t) ∧ Oth g w wr) (fun v _ => match v with | .string s => s.size | _ => 0)
  case atStart => exact ⟨S, [], rfl, rfl, by rw [List.append_nil]; exact h, Oth.refl _ _⟩
  case round =>
    obtain ⟨s, t, rfl, hst, hA, hO⟩ := hrel
    clear h
    obtain ⟨L, hL⟩ : ∃ L, l ++ t = L := ⟨_, rfl⟩
    rw [hL] at hA
    have hsz : L.length + s.size ≤ 1000000000 := by
      have e1 : t.length + s.data.toList.length = S.data.toList.length := by rw [← hst, List.length_append]
      have e2 : s.data.toList.length = s.size := by simp
      have e3 : S.data.toList.length = S.size := by simp
      rw [← hL, List.length_append]; omega
    by_cases he : s.size = 0
    · have hem : s.toList.isEmpty = true := by
        rw [tlE, List.isEmpty_iff]
        exact List.eq_nil_of_length_eq_zero (by simpa using he)
      have hl0 : t = S.data.toList := by
        have h0 : s.data.toList = [] := List.eq_nil_of_length_eq_zero (by simpa using he)
        rw [h0, List.append_nil] at hst; exact hst
      rw [← hL, hl0] at hA
      clear hst hl0 hL hsz he
      go_wp2
      exact bodyPost_end (v := .tuple #[]) (by simp [results, Tryd.results19]) rfl ⟨rfl, hO, hA⟩
    · have hpos : 0 < s.size := by omega
      have hie := str_full hpos
      have hK := kept_lt L
      have hKl := kept_len L
      obtain ⟨c, hc⟩ : ∃ c, (keptN L).length = c := ⟨_, rfl⟩
      obtain ⟨k, hk⟩ : ∃ k, min s.size (64 - c) = k := ⟨_, rfl⟩
      obtain ⟨v, hv⟩ : ∃ v, s.data.toList.take k = v := ⟨_, rfl⟩
      have hds : s.data.toList.length = s.size := by simp
      have hvl : v.length = k := by rw [← hv, List.length_take, hds]; omega
      rw [hc] at hK hKl
      have hP : (padK (keptN L)).length = 64 := padK_len _ (by omega)
      have hM : At wr g 0 (midC (goneN L) (padK (keptN L)) L.length) := hA
      have c72 := mid_cell hM hP
      obtain ⟨N, hN⟩ : ∃ N, L.length = N := ⟨_, rfl⟩
      rw [hN] at hKl c72 hsz hM
      have e1 : (N : Int) % 64 = (c : Int) := by omega
      have HCP : Hid (∀ nq, (Builtin.copy_ #[35, 9] 3 #[.slice (some ⟨g, 8 + c, none⟩) (64 - c) (64 - c), .string s]).run Tryd.prog (wr.drewN nq) = .ok (.int .i64 (k : Int)) ((wr.drewN nq).setCells g (8 + c) (B v))) := fun nq => by
        rw [← hv]
        refine run_copy_min (wr.drewN nq) _ _ _ 5 g (8 + c) _ _ s k hk Tryd.underlying35 sizeU8 (fun j hj => ?_) (fun j hj => ?_)
        · have := (hM.there (8 + c + j) (by rw [mid_len, hP]; omega)).1
          rw [Nat.zero_add] at this; exact this
        · have := (hM.there (8 + c + j) (by rw [mid_len, hP]; omega)).2
          rw [Nat.zero_add] at this; exact this
      have HX : Hid (∀ nq, At ((wr.drewN nq).setCells g (8 + c) (B v)) g 0 (midC (goneN L) (padK (keptN L ++ v)) N)) := fun nq => by
        have := mid_sets (hM.drewN nq) c v (by rw [hP]; omega)
        rw [show (padK (keptN L)).take c ++ v ++ (padK (keptN L)).drop (c + v.length) = padK (keptN L ++ v) from by rw [← hc]; exact pad_put _ _ (by omega)] at this
        exact this
      have HO := Lib.hid hO
      have HC : Hid ((keptN L).length = c) := hc
      have HV : Hid (v.length = k) := hvl
      have HN : Hid (L.length = N) := hN
      have HS : Hid (v ++ (s.extract k s.size).data.toList = s.data.toList) := by rw [cut_str, ← hv]; exact List.take_append_drop _ _
      have hks : (k : Int) ≤ (s.size : Int) := by omega
      have hk0 : k ≤ s.size := by omega
      have hk64 : c + k ≤ 64 := by omega
      have hkp : 0 < k := by omega
      have hc64 : (c : Int) ≤ 64 := by omega
      have HT : Hid (t ++ s.data.toList = S.data.toList) := hst
      have HL : Hid (l ++ t = L) := hL
      have HKl : Hid (c = N % 64) := hKl
      have hNk : (N : Int) + (k : Int) ≤ 1000000000 := by omega
      clear hA hM hO hc hk hv hds hvl hN hst hL hP hKl
      go_upto_region 2 with fail
      refine wp_region_tail_d 10 (by kernel_rfl) (by kernel_rfl) ?_
      simp only [List.take_succ_cons, List.take_zero, List.drop_succ_cons, List.drop_zero]
      repeat (go_big_quiet_step (fail))
      refine wpQuiet_nil ?_
      intro _ hw'
      obtain ⟨nr, hw''⟩ := hw'
      subst hw''
      have hcp := HCP.out nr
      have HX2 := Lib.hid (HX.out nr)
      have HO2 : Hid (Oth g w ((wr.drewN nr).setCells g (8 + c) (B v))) := Lib.hid (HO.out.trans ((Oth.drewN _ _ _).trans (Oth.setCells _ _ _ _)))
      clear HX HCP HO
      go_upto_region 3 with fail
      obtain ⟨X, hX⟩ : ∃ X, (wr.drewN nr).setCells g (8 + c) (B v) = X := ⟨_, rfl⟩
      rw [hX] at HX2 HO2 ⊢
      clear hX hcp c72 e1
      have hP2 : (padK (keptN L ++ v)).length = 64 := padK_len _ (by rw [List.length_append, HC.out, HV.out]; exact hk64)
      have c72 := mid_cell HX2.out hP2
      have f72 := mid_fz HX2.out hP2
      have HX3 : Hid (At (X.setCell ⟨g, 72, none⟩ (.int .i64 ((N : Int) + (k : Int)))) g 0 (midC (goneN L) (padK (keptN L ++ v)) (N + k))) := by
        have := mid_n HX2.out hP2 (N + k)
        rw [Int.natCast_add] at this; exact this
      clear HX2
      have c73 := mid_cell HX3.out hP2
      rw [Int.natCast_add] at c73
      have HO3 : Hid (Oth g w (X.setCell ⟨g, 72, none⟩ (.int .i64 ((N : Int) + (k : Int))))) := Lib.hid (HO2.out.trans (Oth.setCell _ _ _ _))
      go_upto_region 5 with fail
      obtain ⟨X3, hX3⟩ : ∃ X3, X.setCell ⟨g, 72, none⟩ (.int .i64 ((N : Int) + (k : Int))) = X3 := ⟨_, rfl⟩
      rw [hX3] at HX3 HO3 c73 ⊢
      clear hX3 HO2 c72 f72
      have HLv : Hid ((L ++ v).length = N + k) := Lib.hid (by rw [List.length_append, HN.out, HV.out])
      have HTv : Hid ((t ++ v) ++ (s.extract k s.size).data.toList = S.data.toList) := Lib.hid (by rw [List.append_assoc, HS.out]; exact HT.out)
      have HLt : Hid (l ++ (t ++ v) = L ++ v) := Lib.hid (by rw [← List.append_assoc, HL.out])
      have HM : Hid ((s.extract k s.size).size < s.size) := Lib.hid (by
        have e1 : (s.extract k s.size).data.toList.length = (s.extract k s.size).size := by simp
        have e2 : s.data.toList.length = s.size := by simp
        rw [← e1, cut_str, List.length_drop]; omega)
      by_cases h64 : c + k = 64
      · have hd0 : ((N : Int) + (k : Int)) % 64 = 0 := by have := HKl.out; omega
        have hfull : (keptN L ++ v).length = 64 := by rw [List.length_append, HC.out, HV.out]; exact h64
        have hX : At X3 g 0 (midC (goneN L) (keptN L ++ v) (N + k)) := by have := HX3.out; rw [pad_full _ hfull] at this; exact this
        have hgL : Ok (goneN L) := by rw [← HL.out]; exact Ok.blocks _ _ Ok.start
        have hE3 : X3.rangeAt 0 0 (U kN) := fun j u hv => by
          have h1 := hE j u hv
          have h2 := HO3.out.block 0 hG hg0
          simp only [World.cell?, h2] at h1 ⊢; exact h1
        have HMix := Lib.hid (fun n => mix_any g (goneN L) (keptN L ++ v) [.int .i64 ((N + k : Nat) : Int)] (X3.drewN n) (fun j u hu => hE3 j u hu) hgL hfull (hX.drewN n) (by show 0 < X3.heap.size; exact Nat.lt_of_lt_of_le hG HO3.out.size))
        have HB := Lib.hid (hash_block (L := L) (v := v) (by rw [HC.out, HV.out]; exact h64))
        clear HX3 hX hgL hE3
        go_upto_region 6 with fail
        refine wp_region_tail_d 6 (by kernel_rfl) (by kernel_rfl) ?_
        simp only [List.take_succ_cons, List.take_zero, List.drop_succ_cons, List.drop_zero]
        repeat (go_big_quiet_step (fail))
        refine wpQuiet_nil ?_
        intro _ hw'
        obtain ⟨nz, hw''⟩ := hw'
        subst hw''
        go_wp2_with (go_at_call 23; refine (HMix.out _).mono ?_; rintro e w4 ⟨rfl, ho4, ha4⟩; refine Hid.out ?_)
        refine Lib.hid ?_
        have ha5 : At w4 g 0 (midC (blockN (goneN L) (keptN L ++ v)) (keptN L ++ v) (N + k)) := ha4
        have hcl := fun ty => Lib.run_clear_slice (P := Tryd.prog) w4 35 5 ty (.int .u8 0) Tryd.underlying35 zeroU8 rfl rfl g 8 64 64 (by decide)
          (fun j hj => by
            have := (ha5.there (8 + j) (by rw [mid_len, hfull]; omega)).1
            rw [Nat.zero_add] at this; exact this)
          (fun j hj => by
            have := (ha5.there (8 + j) (by rw [mid_len, hfull]; omega)).2
            rw [Nat.zero_add] at this; exact this)
        have ha6 := mid_sets ha5 0 (List.replicate 64 0) (by rw [List.length_replicate, hfull]; exact Nat.le_refl _)
        rw [List.take_zero, List.nil_append, List.length_replicate, Nat.zero_add, List.drop_of_length_le (by rw [hfull]; exact Nat.le_refl _), List.append_nil] at ha6
        have HA6 := Lib.hid ha6
        have HO6 : Hid (Oth g w (w4.setCells g 8 (List.replicate 64 (.int .u8 0)))) := Lib.hid (HO3.out.trans ((Oth.drewN _ _ _).trans (ho4.trans (Oth.setCells _ _ _ _))))
        clear ha4 ha5 ha6 ho4 HMix HO3
        go_wp2
        refine ⟨⟨_, t ++ v, rfl, HTv.out, ?_, HO6.out⟩, HM.out⟩
        unfold HAt
        rw [HLt.out, HB.out, HLv.out]
        exact HA6.out
      · obtain ⟨q, hq⟩ : ∃ q, c + k = q := ⟨_, rfl⟩
        have hd1 : ((N : Int) + (k : Int)) % 64 = (q : Int) := by have := HKl.out; omega
        have hq0 : ¬ q = 0 := by omega
        have HF := Lib.hid (hash_less (L := L) (v := v) (by rw [HC.out, HV.out]; omega))
        clear hq
        go_wp2
        refine ⟨⟨_, t ++ v, rfl, HTv.out, ?_, HO3.out⟩, HM.out⟩
        unfold HAt
        rw [HLt.out, HF.out, HLv.out]
        exact HX3.out
end Go.Proofs.YtfcmgodeehjnoaaDoor
