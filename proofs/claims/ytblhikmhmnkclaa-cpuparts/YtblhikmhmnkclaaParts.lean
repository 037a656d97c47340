/- A row of steps in two parts is the row at once. -/
import Derived.Test.YtblhikmhmnkclaaTwo
import Derived.Deep.CutBlock
namespace Go.Proofs.Ytblhikmhmnkclaa
open Go.RowKit Go.Lib
/-- What a call of Over is, with the states' cells named. -/
theorem over_named {K : Nat → Prop} {base Bb : Nat} {n : Int} {r : List Int} {pc : Int} {d : List UInt8} {ls : List (Nat × Bool)} {w : World} (hn : n ≤ 9223372036854775807) (hk : okR r pc) (h : BAt K w base Bb d ls) {cs cs2 : Array Value} (hcs : (stC r pc).toArray = cs)
    {r2 : List Int} {pc2 : Int} {d2 : List UInt8} {k2 : Nat} {wh2 : Int} (hx : overS n.toNat r pc d = (r2, pc2, d2, k2, wh2)) (hcs2 : (stC r2 pc2).toArray = cs2) :
    Calls Try.prog 9 #[.pointer (some ⟨Bb, 0, none⟩), .agg cs, .int .i64 n] w fun e w' => e = .returned (.tuple #[.agg cs2, .int .i64 k2, .int .i64 wh2]) ∧ (∃ ls', BAt K w' base Bb d2 ls') ∧ Below base w w' ∧ Fr K w w' := by
  have := Over_any base Bb n r pc d ls w hn hk h
  rw [hx] at this
  unfold OverP stV at this
  simp only at this
  rw [hcs, hcs2] at this
  exact this
set_option maxRecDepth 100000 in
set_option maxHeartbeats 8000000 in
theorem CpuParts_any (s : ByteArray) (r : List Int) (pc : Int) (n m : Int) (w : World) (hs : s.size < 4611686018427387904) (hk : okR r pc) :
    Calls Try.prog 4 #[.string s, stV r pc, .int .i64 n, .int .i64 m] w fun e w' => e = .returned (.bool true) ∧ Below w.heap.size w w' := by
  have hr := hk.1
  have HK := Lib.hid hk
  have HL := Lib.hid lives_any
  have HM := Lib.hid (fun w' => memory_any s w' hs)
  generalize memL s = d at *
  obtain ⟨nn, hnn, hnv⟩ := mod_num n 200 (by omega) (by omega)
  have hnv' : wrap64 ((IntKind.u64.wrap n).tmod 200) = (nn : Int) := hnv
  obtain ⟨mm, hmm, hmv⟩ := mod_num m 200 (by omega) (by omega)
  have hmv' : wrap64 ((IntKind.u64.wrap m).tmod 200) = (mm : Int) := hmv
  clear hnv hmv
  have hsz : (Try.prog.info? 25).map (·.size) = some (stC r pc).toArray.size := by rw [stC_size hr]; exact stInfo
  unfold stV
  obtain ⟨cs, hcs⟩ : ∃ cs, (stC r pc).toArray = cs := ⟨_, rfl⟩
  rw [hcs] at hsz ⊢
  have HCS := Lib.hid hcs
  clear hcs
  have hb1 : Below w.heap.size w (w.alloc (.cells cs 25)) := (Below.refl _ _).alloc (Nat.le_refl _) _
  have k1 : (w.alloc (.cells cs 25)).heap[w.heap.size]? = some (.cells cs 25 (0, 0)) := heap_new _ _
  have z1 : w.heap.size < (w.alloc (.cells cs 25)).heap.size := by simp
  go_enter Try.func4, Try.ntmps4
  go_wp2_with (first
    | (go_at_call 5; refine (HL.out _).mono ?_; rintro e w2 ⟨rfl, hB2⟩)
    | (go_at_call 11; refine (HM.out _).mono ?_; rintro e w3 ⟨rfl, ⟨ls3, hA3⟩, hB3⟩; refine Hid.out ?_))
  refine Lib.hid ?_
  have q2 : Below w.heap.size w w2 := hb1.trans (hB2.mono hb1.size)
  have q3 : Below w.heap.size w w3 := q2.trans (hB3.mono q2.size)
  have z2 : w.heap.size < w2.heap.size := Nat.lt_of_lt_of_le z1 hB2.size
  have k3 : w3.heap[w.heap.size]? = some (.cells cs 25 (0, 0)) := (hB3.block _ z2).trans ((hB2.block _ z1).trans k1)
  have z3 : w2.heap.size ≤ w3.heap.size := hB3.size
  generalize w2.heap.size = Ba at *
  have HA3 := Lib.hid hA3
  have Q3 := Lib.hid q3
  clear hA3 q2 q3 hB2 hB3 k1 z1 hb1 HL
  go_wp2_with (first
    | (go_at_call 11; refine (HM.out _).mono ?_; rintro e w4 ⟨rfl, ⟨ls4, hA4⟩, hB4⟩; refine Hid.out ?_))
  refine Lib.hid ?_
  have z4 : w3.heap.size ≤ w4.heap.size := hB4.size
  have z34 : w.heap.size < w3.heap.size := by omega
  have k4 : w4.heap[w.heap.size]? = some (.cells cs 25 (0, 0)) := (hB4.block _ z34).trans k3
  have Q4 := Lib.hid (Q3.out.trans (hB4.mono (by omega)))
  have hBa : Ba < w3.heap.size := by obtain ⟨v, hv, _⟩ := HA3.out.blk; exact (Array.getElem?_eq_some_iff.1 hv).1
  have hA3 : BAt (Mid w3.heap.size w4.heap.size) w4 Ba Ba d ls3 := HA3.out.later hB4 (fun k hk => hk)
  obtain ⟨Bb, hBb⟩ : ∃ Bb, w3.heap.size = Bb := ⟨_, rfl⟩
  rw [hBb] at hA3 hA4 z3 z4 z34 hBa ⊢
  have HA4 := Lib.hid hA4
  clear HA3 Q3 hB4 k3 HM hA4 hBb
  obtain ⟨rx, pcx, dx, kx, whx, hX⟩ : ∃ rx pcx dx kx whx, overS (nn + mm) r pc d = (rx, pcx, dx, kx, whx) := ⟨_, _, _, _, _, rfl⟩
  obtain ⟨r1, pc1, d1, kk1, wh1, hX1⟩ : ∃ r1 pc1 d1 kk1 wh1, overS nn r pc d = (r1, pc1, d1, kk1, wh1) := ⟨_, _, _, _, _, rfl⟩
  have hAdd := overS_add mm nn r pc d
  rw [hX, hX1] at hAdd
  simp only at hAdd
  have hokx : okR rx pcx := by have := (overS_ok (nn + mm) (d := d) HK.out).1; rw [hX] at this; exact this
  have hok1 : okR r1 pc1 := by have := (overS_ok nn (d := d) HK.out).1; rw [hX1] at this; exact this
  have hle1 : kk1 ≤ nn := by have := overS_le nn r pc d; rw [hX1] at this; exact this
  obtain ⟨csx, hcsx⟩ : ∃ csx, (stC rx pcx).toArray = csx := ⟨_, rfl⟩
  obtain ⟨cs1, hcs1⟩ : ∃ cs1, (stC r1 pc1).toArray = cs1 := ⟨_, rfl⟩
  have HOa := Lib.hid (over_named (n := (nn : Int) + (mm : Int)) (by omega) HK.out hA3 HCS.out (by rw [show ((nn : Int) + (mm : Int)).toNat = nn + mm from by omega]; exact hX) hcsx)
  have hszx : (Try.prog.info? 25).map (·.size) = some csx.size := by rw [← hcsx, stC_size hokx.1]; exact stInfo
  have HQx : Hid (csx.size = 17) := by rw [← hcsx]; exact stC_size hokx.1
  have honex : csx.all (·.oneCell') = true := by rw [← hcsx]; exact stC_one rx pcx
  have hsz1 : (Try.prog.info? 25).map (·.size) = some cs1.size := by rw [← hcs1, stC_size hok1.1]; exact stInfo
  have HQ1 : Hid (cs1.size = 17) := by rw [← hcs1]; exact stC_size hok1.1
  have hone1 : cs1.all (·.oneCell') = true := by rw [← hcs1]; exact stC_one r1 pc1
  have HAdd := Lib.hid hAdd
  have HX1 := Lib.hid hX1
  have HCSx := Lib.hid hcsx
  have HCS1 := Lib.hid hcs1
  have HOKx := Lib.hid hokx
  have HOK1 := Lib.hid hok1
  clear hAdd hX hX1 hcsx hcs1 hokx hok1 hA3
  go_wp2_with (first
    | (refine wpList_load_row rfl 25 _ rfl w.heap.size rfl 25 _ (0, 0) _ k4 Try.underlying25 rfl hsz ?_)
    | (go_at_call 9; refine HOa.out.mono ?_; rintro e w5 ⟨rfl, ⟨ls5, hA5⟩, hB5, hF5⟩; refine Hid.out ?_))
  refine Lib.hid ?_
  have z5 : w4.heap.size ≤ w5.heap.size := hF5.size
  obtain ⟨W6, hW6, n6, hb6⟩ := state_laid w5 csx
  have hn5 := heap_new w5 (.cells #[.int .u64 0, .int .u64 0, .int .u64 0, .int .u64 0, .int .u64 0, .int .u64 0, .int .u64 0, .int .u64 0, .int .u64 0, .int .u64 0, .int .u64 0, .int .u64 0, .int .u64 0, .int .u64 0, .int .u64 0, .int .u64 0, .int .u64 0] 25)
  have HW6 := Lib.hid hW6
  have k5 := hF5.block k4 (by decide) (by decide)
  have k6 := (hb6.block _ (Array.getElem?_eq_some_iff.1 k5).1).trans k5
  have z6 : w5.heap.size ≤ W6.heap.size := hb6.size
  have hA6 : BAt (Out Bb w4.heap.size W6.heap.size) W6 Bb Bb d ls4 := HA4.out.moved (Nat.lt_irrefl _)
    (fun k hk hl => (hb6.block k (Nat.lt_of_lt_of_le hl z5)).trans (hF5.foe k ⟨Nat.le_of_not_lt hk, hl⟩ hl)) (fun k hk => hk.1) (fun k hk hl => hk.2.resolve_right (by omega))
  have HOb := Lib.hid (over_named (n := (nn : Int)) (by omega) HK.out hA6 HCS.out (by rw [show ((nn : Int)).toNat = nn from by omega]; exact HX1.out) HCS1.out)
  have HA5 := Lib.hid hA5
  have Q6 := Lib.hid ((Q4.out.trans (hB5.mono (by omega))).trans (hb6.mono (by omega)))
  have HN6 := Lib.hid n6
  have z56 : w5.heap.size < W6.heap.size := (Array.getElem?_eq_some_iff.1 n6).1
  have HB6 := Lib.hid hb6
  clear hW6 hB5 hA5 hF5 hb6 k4 k5 HOa hA6 HA4 HX1 HK n6
  go_wp2_with (first
    | (refine wpList_load_row rfl 25 _ rfl w.heap.size rfl 25 _ (0, 0) _ k6 Try.underlying25 rfl hsz ?_)
    | (refine wpList_store_row rfl 25 _ _ rfl w5.heap.size csx rfl rfl 25 _ hn5 hszx (by rw [HQx.out]; rfl) honex ?_; rw [HW6.out])
    | (go_at_call 9; refine HOb.out.mono ?_; rintro e w7 ⟨rfl, ⟨ls7, hA7⟩, hB7, hF7⟩; refine Hid.out ?_))
  refine Lib.hid ?_
  have z7 : W6.heap.size ≤ w7.heap.size := hF7.size
  obtain ⟨W8, hW8, n8, hb8⟩ := state_laid w7 cs1
  have hn7 := heap_new w7 (.cells #[.int .u64 0, .int .u64 0, .int .u64 0, .int .u64 0, .int .u64 0, .int .u64 0, .int .u64 0, .int .u64 0, .int .u64 0, .int .u64 0, .int .u64 0, .int .u64 0, .int .u64 0, .int .u64 0, .int .u64 0, .int .u64 0, .int .u64 0] 25)
  have HW8 := Lib.hid hW8
  have z8 : w7.heap.size < W8.heap.size := (Array.getElem?_eq_some_iff.1 n8).1
  have HX7 := hF7.block HN6.out (by decide) (by decide)
  have x8 := (hb8.block _ (Array.getElem?_eq_some_iff.1 HX7).1).trans HX7
  have hA8 := hA7.below hb8
  have hS8 : ∀ k, ¬ Mid Bb w4.heap.size k → k < w5.heap.size → W8.heap[k]? = w5.heap[k]? := fun k hk hl => by
    have h1 : k < W6.heap.size := Nat.lt_of_lt_of_le hl z6
    have h2 : Out Bb w4.heap.size W6.heap.size k := ⟨h1, by unfold Mid at hk; omega⟩
    exact (hb8.block k (Nat.lt_of_lt_of_le h1 z7)).trans ((hF7.foe k h2 h1).trans (HB6.out.block k hl))
  have HS8 := Lib.hid hS8
  have HA8 := Lib.hid hA8
  have Q8 := Lib.hid ((Q6.out.trans (hB7.mono (by omega))).trans (hb8.mono (by have := Q6.out.size; omega)))
  have HNx := Lib.hid x8
  have HNy := Lib.hid n8
  have HMidBa : ¬ Mid Bb w4.heap.size Ba := fun h => by have := h.1; omega
  clear hW8 hb8 hA7 hF7 hB7 hA8 hS8 x8 HX7 n8 HOb k6 HB6 HN6 Q6
  by_cases hwh : wh1 = 0
  · subst hwh
    obtain ⟨r2, pc2, d2, kk2, wh2, hX2⟩ : ∃ r2 pc2 d2 kk2 wh2, overS mm r1 pc1 d1 = (r2, pc2, d2, kk2, wh2) := ⟨_, _, _, _, _, rfl⟩
    have hle2 : kk2 ≤ mm := by have := overS_le mm r1 pc1 d1; rw [hX2] at this; exact this
    have hEq := HAdd.out
    rw [if_pos rfl, hX2] at hEq
    simp only [plusK, Prod.mk.injEq] at hEq
    obtain ⟨rfl, rfl, rfl, rfl, rfl⟩ := hEq
    have HOc := Lib.hid (over_named (n := (mm : Int)) (by omega) HOK1.out HA8.out HCS1.out (by rw [show ((mm : Int)).toNat = mm from by omega]; exact hX2) HCSx.out)
    have HES := Lib.hid (eq_st16 HOKx.out.1 HCSx.out)
    have hpc16 := st_pc16 HOKx.out.1 HCSx.out
    have ny := HNy.out
    clear HCSx HCS1 HOKx HOK1 HAdd hX2
    go_wp2_with (first
      | (refine wpList_load_row rfl 25 _ rfl w7.heap.size rfl 25 _ (0, 0) _ ny Try.underlying25 rfl hsz1 ?_)
      | (refine wpList_store_row rfl 25 _ _ rfl w7.heap.size cs1 rfl rfl 25 _ hn7 hsz1 (by rw [HQ1.out]; rfl) hone1 ?_; rw [HW8.out])
      | (go_at_call 9; refine HOc.out.mono ?_; rintro e w9 ⟨rfl, ⟨ls9, hA9⟩, hB9, hF9⟩; refine Hid.out ?_))
    refine Lib.hid ?_
    have z9 : W8.heap.size ≤ w9.heap.size := hF9.size
    obtain ⟨W10, hW10, n10, hb10⟩ := state_laid w9 csx
    have hn9 := heap_new w9 (.cells #[.int .u64 0, .int .u64 0, .int .u64 0, .int .u64 0, .int .u64 0, .int .u64 0, .int .u64 0, .int .u64 0, .int .u64 0, .int .u64 0, .int .u64 0, .int .u64 0, .int .u64 0, .int .u64 0, .int .u64 0, .int .u64 0, .int .u64 0] 25)
    have HW10 := Lib.hid hW10
    have y9 := hF9.block HNy.out (by decide) (by decide)
    have y10 := (hb10.block _ (Array.getElem?_eq_some_iff.1 y9).1).trans y9
    have x9 := hF9.block HNx.out (by decide) (by decide)
    have x10 := (hb10.block _ (Array.getElem?_eq_some_iff.1 x9).1).trans x9
    obtain ⟨W11, hW11⟩ : ∃ W11, W10.setRow w7.heap.size csx = W11 := ⟨_, rfl⟩
    have z57 : w5.heap.size < w7.heap.size := by omega
    have x11 : W11.heap[w5.heap.size]? = some (.cells csx 25 (0, 0)) := by rw [← hW11, heap_setRow_ne _ _ _ (by omega)]; exact x10
    have y11 : W11.heap[w7.heap.size]? = some (.cells csx 25 (0, 0)) := by rw [← hW11]; exact heap_setRow _ _ _ _ _ y10
    have hS11 : ∀ k, ¬ Mid Bb w4.heap.size k → k < w5.heap.size → W11.heap[k]? = w5.heap[k]? := fun k hk hl => by
      have h1 : k < W6.heap.size := Nat.lt_of_lt_of_le hl z6
      have h2 : Out Bb w4.heap.size W6.heap.size k := ⟨h1, by unfold Mid at hk; omega⟩
      have h3 : k < W8.heap.size := by omega
      rw [← hW11, heap_setRow_ne _ _ _ (by omega)]
      exact (hb10.block k (by omega)).trans ((hF9.foe k h2 h3).trans (HS8.out k hk hl))
    have hA11 : BAt (Out Bb w4.heap.size W6.heap.size) W11 Bb Bb dx ls9 := by rw [← hW11]; exact setRow_other (hA9.below hb10) y10 (by decide) (by decide) (by decide) csx
    have HAa := Lib.hid (fun (X : World) (hX : Below W11.heap.size W11 X) => all_any Ba Ba dx ls5 X ((HA5.out.moved (K' := N0) HMidBa hS11 (fun _ h => h.elim) (fun _ h => h.elim)).below hX))
    have HAb := Lib.hid (fun (X : World) (hX : Below W11.heap.size W11 X) => all_any Bb Bb dx ls9 X (hA11.below hX))
    obtain ⟨SS, hSS⟩ : ∃ SS : ByteArray, (⟨dx.toArray⟩ : ByteArray) = SS := ⟨_, rfl⟩
    rw [hSS] at HAa HAb
    have q10 : Below w.heap.size w W10 := (Q8.out.trans (hB9.mono (by omega))).trans (hb10.mono (by have := Q8.out.size; omega))
    have Q11 : Hid (Below w.heap.size w W11) := by rw [← hW11]; exact ⟨q10.os, q10.tape, q10.output, by rw [size_setRow]; exact q10.size, fun k hk => (heap_setRow_ne _ _ _ (by omega)).trans (q10.block k hk)⟩
    have HW11 := Lib.hid hW11
    have heq := HES.out W11
    have HSx : Hid (csx.size = cs1.size) := HQx.out.trans HQ1.out.symm
    clear hW10 hW11 hA9 hB9 hF9 hb10 y9 x9 x10 hS11 hA11 hSS q10 ny HOc HA8 HS8 HNx HNy
    go_wp2_with (first
      | (refine wpList_load_row rfl 25 _ rfl w9.heap.size rfl 25 _ (0, 0) _ n10 Try.underlying25 rfl hszx ?_)
      | (refine wpList_load_row rfl 25 _ rfl w5.heap.size rfl 25 _ (0, 0) _ x11 Try.underlying25 rfl hszx ?_)
      | (refine wpList_load_row rfl 25 _ rfl w7.heap.size rfl 25 _ (0, 0) _ y11 Try.underlying25 rfl hszx ?_)
      | (refine wpList_store_row rfl 25 _ _ rfl w9.heap.size csx rfl rfl 25 _ hn9 hszx (by rw [HQx.out]; rfl) honex ?_; rw [HW10.out])
      | (refine wpList_store_row rfl 25 _ _ rfl w7.heap.size csx rfl rfl 25 _ y10 hszx HSx.out.symm honex ?_; rw [HW11.out])
      | (go_at_call 12; refine (HAa.out _ (Below.refl _ _)).mono ?_; rintro e w12 ⟨rfl, hB12⟩; refine Hid.out ?_))
    refine Lib.hid ?_
    go_wp2_with (first
      | (go_at_call 12; refine (HAb.out _ hB12).mono ?_; rintro e w13 ⟨rfl, hB13⟩))
    go_ret
    exact ⟨rfl, (Q11.out.trans (hB12.mono Q11.out.size)).trans (hB13.mono (Nat.le_trans Q11.out.size hB12.size))⟩
  · have hEq := HAdd.out
    rw [if_neg hwh] at hEq
    simp only [Prod.mk.injEq] at hEq
    obtain ⟨rfl, rfl, rfl, rfl, rfl⟩ := hEq
    obtain rfl : csx = cs1 := HCSx.out.symm.trans HCS1.out
    have HES := Lib.hid (eq_st16 HOKx.out.1 HCSx.out)
    have hpc16 := st_pc16 HOKx.out.1 HCSx.out
    have HAa := Lib.hid (fun (X : World) (hX : Below W8.heap.size W8 X) => all_any Ba Ba dx ls5 X ((HA5.out.moved (K' := N0) HMidBa HS8.out (fun _ h => h.elim) (fun _ h => h.elim)).below hX))
    have HAb := Lib.hid (fun (X : World) (hX : Below W8.heap.size W8 X) => all_any Bb Bb dx ls7 X (HA8.out.below hX))
    obtain ⟨SS, hSS⟩ : ∃ SS : ByteArray, (⟨dx.toArray⟩ : ByteArray) = SS := ⟨_, rfl⟩
    rw [hSS] at HAa HAb
    have nx := HNx.out
    have ny := HNy.out
    have heq := HES.out W8
    clear HCSx HCS1 HOKx HOK1 hSS HAdd
    go_wp2_with (first
      | (refine wpList_load_row rfl 25 _ rfl w5.heap.size rfl 25 _ (0, 0) _ nx Try.underlying25 rfl hszx ?_)
      | (refine wpList_load_row rfl 25 _ rfl w7.heap.size rfl 25 _ (0, 0) _ ny Try.underlying25 rfl hszx ?_)
      | (refine wpList_store_row rfl 25 _ _ rfl w7.heap.size csx rfl rfl 25 _ hn7 hszx (by rw [HQx.out]; rfl) honex ?_; rw [HW8.out])
      | (go_at_call 12; first | (refine (HAa.out _ (Below.refl _ _)).mono ?_; rintro e w9 ⟨rfl, hB9⟩; refine Hid.out ?_)))
    refine Lib.hid ?_
    go_wp2_with (first
      | (go_at_call 12; refine (HAb.out _ hB9).mono ?_; rintro e w10 ⟨rfl, hB10⟩))
    go_ret
    exact ⟨rfl, (Q8.out.trans (hB9.mono Q8.out.size)).trans (hB10.mono (Nat.le_trans Q8.out.size hB9.size))⟩
end Go.Proofs.Ytblhikmhmnkclaa
