/- A step on a memory of one's own is what Over does with one step. -/
import Derived.Test.YtblhikmhmnkclaaPair
import Derived.Test.YtblhikmhmnkclaaStepF
import Derived.Deep.CutBlock
namespace Go.Proofs.Ytblhikmhmnkclaa
open Go.RowKit Go.Lib
theorem overS_one (r : List Int) (pc : Int) (d : List UInt8) : overS 1 r pc d = ((stepS r pc d).1, (stepS r pc d).2.1, (stepS r pc d).2.2.1, if (stepS r pc d).2.2.2 = 0 then 1 else 0, (stepS r pc d).2.2.2) := by
  obtain ⟨r2, pc2, d2, wh, hs⟩ : ∃ r2 pc2 d2 wh, stepS r pc d = (r2, pc2, d2, wh) := ⟨_, _, _, _, rfl⟩
  by_cases hw : wh = 0
  · subst hw
    rw [overS_ran hs, hs]; rfl
  · rw [overS_stop hs hw, hs]; simp [hw]
set_option maxRecDepth 100000 in
set_option maxHeartbeats 8000000 in
theorem CpuSteps_any (s : ByteArray) (r : List Int) (pc : Int) (w : World) (hk : okR r pc) :
    Calls Try.prog 3 #[.string s, stV r pc] w fun e w' => e = .returned (.bool true) ∧ Below w.heap.size w w' := by
  have hr := hk.1
  have HK := Lib.hid hk
  have HL := Lib.hid lives_any
  have hsz : (Try.prog.info? 25).map (·.size) = some (stC r pc).toArray.size := by rw [stC_size hr]; exact stInfo
  unfold stV
  obtain ⟨cs, hcs⟩ : ∃ cs, (stC r pc).toArray = cs := ⟨_, rfl⟩
  rw [hcs] at hsz ⊢
  have HCS := Lib.hid hcs
  clear hcs
  have hb1 : Below w.heap.size w (w.alloc (.cells cs 25)) := (Below.refl _ _).alloc (Nat.le_refl _) _
  have k1 : (w.alloc (.cells cs 25)).heap[w.heap.size]? = some (.cells cs 25 (0, 0)) := heap_new _ _
  have z1 : w.heap.size < (w.alloc (.cells cs 25)).heap.size := by simp
  by_cases hs4 : 4096 < (s.size : Int)
  · go_enter Try.func3, Try.ntmps3
    go_wp2_with (first
      | (go_at_call 5; refine (HL.out _).mono ?_; rintro e w2 ⟨rfl, hB2⟩))
    go_ret
    exact ⟨rfl, hb1.trans (hB2.mono hb1.size)⟩
  · have hs : s.size ≤ 4096 := by omega
    have HM := Lib.hid (fun w' => New_any s.size w' hs)
    go_enter Try.func3, Try.ntmps3
    go_wp2_with (first
      | (go_at_call 5; refine (HL.out _).mono ?_; rintro e w2 ⟨rfl, hB2⟩)
      | (go_at_call 6; refine (HM.out _).mono ?_; rintro e w3 ⟨rfl, ⟨ls3, hA3, hO3⟩, hB3⟩; refine Hid.out ?_))
    refine Lib.hid ?_
    have q2 : Below w.heap.size w w2 := hb1.trans (hB2.mono hb1.size)
    have q3 : Below w.heap.size w w3 := q2.trans (hB3.mono q2.size)
    have z2 : w.heap.size < w2.heap.size := Nat.lt_of_lt_of_le z1 hB2.size
    have k3 : w3.heap[w.heap.size]? = some (.cells cs 25 (0, 0)) := (hB3.block _ z2).trans ((hB2.block _ z1).trans k1)
    have z3 : w2.heap.size ≤ w3.heap.size := hB3.size
    generalize w2.heap.size = Ba at *
    have HA3 := Lib.hid hA3
    have Q3 := Lib.hid q3
    clear hA3 hO3 q2 q3 hB2 hB3 k1 z1 hb1 HL
    go_wp2_with (first
      | (go_at_call 6; refine (HM.out _).mono ?_; rintro e w4 ⟨rfl, ⟨ls4, hA4, hO4⟩, hB4⟩; refine Hid.out ?_))
    refine Lib.hid ?_
    have z4 : w3.heap.size ≤ w4.heap.size := hB4.size
    have z34 : w.heap.size < w3.heap.size := by omega
    have k4 : w4.heap[w.heap.size]? = some (.cells cs 25 (0, 0)) := (hB4.block _ z34).trans k3
    have Q4 := Lib.hid (Q3.out.trans (hB4.mono (by omega)))
    obtain ⟨Bb, hBb⟩ : ∃ Bb, w3.heap.size = Bb := ⟨_, rfl⟩
    rw [hBb] at hA4 hO4 z3 z4 z34 ⊢
    have HP4 := Lib.hid (Pair.first HA3.out hBb hA4 hO4 hB4)
    have hlB := hA4.bbLt
    clear HA3 Q3 hB4 k3 HM hA4 hO4 hBb
    obtain ⟨la4, ha4⟩ := HP4.out.a
    have HWa := Lib.hid (Write_yes Ba Ba 0 s _ la4 w4 ha4 (by simp))
    clear ha4
    go_wp2_with (first
      | (go_at_call 7; refine HWa.out.mono ?_; rintro e w5 ⟨rfl, hA5, hB5, hF5⟩; refine Hid.out ?_))
    refine Lib.hid ?_
    have hd0 : over (List.replicate s.size 0) 0 s.data.toList = s.data.toList := over_whole _ _ (by simp)
    rw [hd0] at hA5
    have hdl : s.data.toList.length = s.size := by simp
    have P5 := HP4.out.opA hA5 hF5.foe
    have k5 := hF5.block k4 (by decide) (by decide)
    have z5 : w4.heap.size ≤ w5.heap.size := hF5.size
    have Q5 := Lib.hid (Q4.out.trans (hB5.mono (by omega)))
    have HP5 := Lib.hid P5
    obtain ⟨lb5, hb5⟩ := P5.b
    have HWb := Lib.hid (Write_yes Bb Bb 0 s _ lb5 w5 hb5 (by simp))
    rw [hd0] at HWb
    have HD0 := Lib.hid hdl
    clear hb5 P5 hA5 hB5 hF5 k4 HP4 HWa Q4 hd0 hdl
    generalize s.data.toList = d at *
    go_wp2_with (first
      | (go_at_call 7; refine HWb.out.mono ?_; rintro e w6 ⟨rfl, hA6, hB6, hF6⟩; refine Hid.out ?_))
    refine Lib.hid ?_
    have P6 := (HP5.out.symm.opA hA6 hF6.foe).symm
    have k6 := hF6.block k5 (by decide) (by decide)
    have z6 : w5.heap.size ≤ w6.heap.size := hF6.size
    have Q6 := Lib.hid (Q5.out.trans (hB6.mono (by omega)))
    obtain ⟨W7, hW7, n7, hb7⟩ := state_laid w6 cs
    have hn6 := heap_new w6 (.cells #[.int .u64 0, .int .u64 0, .int .u64 0, .int .u64 0, .int .u64 0, .int .u64 0, .int .u64 0, .int .u64 0, .int .u64 0, .int .u64 0, .int .u64 0, .int .u64 0, .int .u64 0, .int .u64 0, .int .u64 0, .int .u64 0, .int .u64 0] 25)
    have P7 := P6.below hb7
    obtain ⟨la7, ha7⟩ := P7.a
    obtain ⟨la6, ha6⟩ := P6.a
    have HO6 := Lib.hid ha6.foe.old
    have k7 := (hb7.block _ (Array.getElem?_eq_some_iff.1 k6).1).trans k6
    have HS7 : StAt W7 w6.heap.size r pc := by unfold StAt; rw [HCS.out]; exact n7
    have hStep := Fl.Step_any Ba Ba w6.heap.size r pc d la7 W7 HK.out HS7 (by omega) ha7
    obtain ⟨r2, pc2, d2, wh, hX⟩ : ∃ r2 pc2 d2 wh, stepS r pc d = (r2, pc2, d2, wh) := ⟨_, _, _, _, rfl⟩
    have hOne := overS_one r pc d
    have hok2 := stepS_ok (d := d) HK.out
    rw [hX] at hStep hOne hok2
    simp only at hOne hok2
    unfold StepP at hStep
    simp only at hStep
    have HStep := Lib.hid hStep
    have HW7 := Lib.hid hW7
    have HP7 := Lib.hid P7
    have Q7 := Lib.hid (Q6.out.trans (hb7.mono Q6.out.size))
    have z7 : w6.heap.size < W7.heap.size := (Array.getElem?_eq_some_iff.1 n7).1
    have HQ : Hid (cs.size = 17) := by rw [← HCS.out]; exact stC_size hr
    have hone : cs.all (·.oneCell') = true := by rw [← HCS.out]; exact stC_one r pc
    have HOne := Lib.hid hOne
    have HOk2 := Lib.hid hok2
    clear hStep hW7 P7 P6 ha6 ha7 hb7 hA6 hB6 hF6 hOne hok2 hX k5 HP5 HWb HS7 Q5 Q6 n7
    go_wp2_with (first
      | (refine wpList_load_row rfl 25 _ rfl w.heap.size rfl 25 _ (0, 0) _ k6 Try.underlying25 rfl hsz ?_)
      | (refine wpList_store_row rfl 25 _ _ rfl w6.heap.size cs rfl rfl 25 _ hn6 hsz (by rw [HQ.out]; rfl) hone ?_; rw [HW7.out])
      | (go_at_call 8; refine HStep.out.mono ?_; rintro e w8 ⟨rfl, hA8⟩; refine Hid.out ?_))
    refine Lib.hid ?_
    have hneB : ∀ k, k < w6.heap.size → k ≠ w6.heap.size := fun k hk => by omega
    have P8 := HP7.out.opA hA8.mem (fun k hk hl => hA8.fr.foe k hk (hneB k (HO6.out k hk)) hl)
    have z8 : W7.heap.size ≤ w8.heap.size := hA8.fr.size
    have k8 := hA8.fr.block k7 (by omega) (by decide) (by decide)
    have m8 : w8.heap[w6.heap.size]? = some (.cells (stC r2 pc2).toArray 25 (0, 0)) := hA8.st
    have Q8 := Lib.hid (Q7.out.trans (hA8.blw.mono (by omega)))
    obtain ⟨cs2, hcs2⟩ : ∃ cs2, (stC r2 pc2).toArray = cs2 := ⟨_, rfl⟩
    rw [hcs2] at m8
    obtain ⟨hokr, hdl2⟩ := HOk2.out
    have hsz2 : (Try.prog.info? 25).map (·.size) = some cs2.size := by rw [← hcs2, stC_size hokr.1]; exact stInfo
    have HQ2 : Hid (cs2.size = 17) := by rw [← hcs2]; exact stC_size hokr.1
    have hone2 : cs2.all (·.oneCell') = true := by rw [← hcs2]; exact stC_one r2 pc2
    have HES := Lib.hid (eq_st16 hokr.1 hcs2)
    have hpc16 := st_pc16 hokr.1 hcs2
    have HP8 := Lib.hid P8
    obtain ⟨lb8, hb8⟩ := P8.b
    obtain ⟨kn, hkn⟩ : ∃ kn : Nat, (if wh = 0 then 1 else 0) = kn := ⟨_, rfl⟩
    have hOne := HOne.out
    rw [hkn] at hOne
    have HOv := Lib.hid (over_named (n := 1) (by decide) HK.out hb8 HCS.out hOne hcs2)
    have HKn := Lib.hid hkn
    have HDl2 : Hid (d2.length = s.size) := hdl2.trans HD0.out
    clear P8 hb8 hA8 k6 k7 HStep hOne HOne hcs2 hokr hdl2 HOk2 HP7 Q7 HO6 hneB hkn HK
    go_wp2_with (first
      | (refine wpList_load_row rfl 25 _ rfl w.heap.size rfl 25 _ (0, 0) _ k8 Try.underlying25 rfl hsz ?_)
      | (go_at_call 9; refine HOv.out.mono ?_; rintro e w9 ⟨rfl, hA9, hB9, hF9⟩; refine Hid.out ?_))
    refine Lib.hid ?_
    have P9 := HP8.out.symm.opA hA9 hF9.foe
    have m9 := hF9.block m8 (by decide) (by decide)
    have z9 : w8.heap.size ≤ w9.heap.size := hF9.size
    obtain ⟨W10, hW10, n10, hb10⟩ := state_laid w9 cs2
    have hn9 := heap_new w9 (.cells #[.int .u64 0, .int .u64 0, .int .u64 0, .int .u64 0, .int .u64 0, .int .u64 0, .int .u64 0, .int .u64 0, .int .u64 0, .int .u64 0, .int .u64 0, .int .u64 0, .int .u64 0, .int .u64 0, .int .u64 0, .int .u64 0, .int .u64 0] 25)
    have m10 := (hb10.block _ (Array.getElem?_eq_some_iff.1 m9).1).trans m9
    have P10 := P9.below hb10
    have Q10 := Lib.hid ((Q8.out.trans (hB9.mono (by omega))).trans (hb10.mono (by have := Q8.out.size; omega)))
    obtain ⟨la10, ha10⟩ := P10.b
    obtain ⟨lb10, hb10'⟩ := P10.a
    obtain ⟨SS, hSS⟩ : ∃ SS : ByteArray, (⟨d2.toArray⟩ : ByteArray) = SS := ⟨_, rfl⟩
    have hRd : (d2.drop 0).take s.size = d2 := by rw [List.drop_zero, List.take_of_length_le (by rw [HDl2.out]; exact Nat.le_refl _)]
    have HRa := Lib.hid (fun (X : World) (hX : Below W10.heap.size W10 X) => Read_any Ba Ba 0 s.size d2 la10 X (ha10.below hX) (by rw [HDl2.out]; omega))
    have HRb := Lib.hid (fun (X : World) (hX : Below W10.heap.size W10 X) => Read_any Bb Bb 0 s.size d2 lb10 X (hb10'.below hX) (by rw [HDl2.out]; omega))
    rw [hRd, hSS] at HRa HRb
    have HW10 := Lib.hid hW10
    have HM10 := Lib.hid m10
    have HN10 := Lib.hid n10
    clear hW10 hRd hSS P9 P10 hA9 hB9 hF9 hb10 ha10 hb10' k8 m8 m9 HOv HP8 m10 n10 HDl2 HD0 Q8
    have hFin : ∀ (X : World), Below W10.heap.size W10 X → X.heap[w6.heap.size]? = some (.cells cs2 25 (0, 0)) ∧ X.heap[w9.heap.size]? = some (.cells cs2 25 (0, 0)) := fun X hX =>
      ⟨(hX.block _ (Array.getElem?_eq_some_iff.1 HM10.out).1).trans HM10.out, (hX.block _ (Array.getElem?_eq_some_iff.1 HN10.out).1).trans HN10.out⟩
    have HFin := Lib.hid hFin
    clear hFin
    by_cases hwh : wh = 0
    · subst hwh
      obtain rfl : 1 = kn := HKn.out
      go_wp2_with (first
        | (refine wpList_store_row rfl 25 _ _ rfl w9.heap.size cs2 rfl rfl 25 _ hn9 hsz2 (by rw [HQ2.out]; rfl) hone2 ?_; rw [HW10.out])
        | (go_at_call 10; refine (HRa.out _ (Below.refl _ _)).mono ?_; rintro e w11 ⟨rfl, hB11⟩; refine Hid.out ?_))
      refine Lib.hid ?_
      go_wp2_with (first
        | (go_at_call 10; refine (HRb.out _ hB11).mono ?_; rintro e w12 ⟨rfl, hB12⟩; refine Hid.out ?_))
      refine Lib.hid ?_
      have hB12' := hB11.trans (hB12.mono hB11.size)
      obtain ⟨m12, n12⟩ := HFin.out w12 hB12'
      have heq := HES.out w12
      have HB12 := Lib.hid hB12'
      clear hB11 hB12 hB12'
      go_wp2_with (first
        | (refine wpList_load_row rfl 25 _ rfl w6.heap.size rfl 25 _ (0, 0) _ m12 Try.underlying25 rfl hsz2 ?_)
        | (refine wpList_load_row rfl 25 _ rfl w9.heap.size rfl 25 _ (0, 0) _ n12 Try.underlying25 rfl hsz2 ?_))
      go_ret
      exact ⟨rfl, Q10.out.trans (HB12.out.mono Q10.out.size)⟩
    · obtain rfl : 0 = kn := (if_neg hwh).symm.trans HKn.out
      go_wp2_with (first
        | (refine wpList_store_row rfl 25 _ _ rfl w9.heap.size cs2 rfl rfl 25 _ hn9 hsz2 (by rw [HQ2.out]; rfl) hone2 ?_; rw [HW10.out])
        | (go_at_call 10; refine (HRa.out _ (Below.refl _ _)).mono ?_; rintro e w11 ⟨rfl, hB11⟩; refine Hid.out ?_))
      refine Lib.hid ?_
      go_wp2_with (first
        | (go_at_call 10; refine (HRb.out _ hB11).mono ?_; rintro e w12 ⟨rfl, hB12⟩; refine Hid.out ?_))
      refine Lib.hid ?_
      have hB12' := hB11.trans (hB12.mono hB11.size)
      obtain ⟨m12, n12⟩ := HFin.out w12 hB12'
      have heq := HES.out w12
      have HB12 := Lib.hid hB12'
      clear hB11 hB12 hB12'
      go_wp2_with (first
        | (refine wpList_load_row rfl 25 _ rfl w6.heap.size rfl 25 _ (0, 0) _ m12 Try.underlying25 rfl hsz2 ?_)
        | (refine wpList_load_row rfl 25 _ rfl w9.heap.size rfl 25 _ (0, 0) _ n12 Try.underlying25 rfl hsz2 ?_))
      go_ret
      exact ⟨rfl, Q10.out.trans (HB12.out.mono Q10.out.size)⟩
end Go.Proofs.Ytblhikmhmnkclaa
