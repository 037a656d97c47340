/- CpuReckons answers true. -/
import Derived.Test.YtmmejicmjalibaaLittle
import Derived.Deep.Cut
import Derived.Test.YtmmejicmjalibaaReck
import Derived.Test.YtmmejicmjalibaaEncDec
namespace Go.Proofs.Ytmmejicmjalibaa
open Go.RowKit Go.Lib
theorem resI_alone {op n a b c : Int} (h : 6 ≤ op) : resI op n a b c = if op ≤ 17 then resI op 0 0 b c else a := by
  unfold resI
  rw [if_neg (show ¬ op = 3 by omega), if_neg (show ¬ op = 4 by omega), if_neg (show ¬ op = 5 by omega), if_neg (show ¬ op = 3 by omega), if_neg (show ¬ op = 4 by omega), if_neg (show ¬ op = 5 by omega)]
  by_cases h17 : op ≤ 17
  · rw [if_pos h17]
    obtain ⟨k, rfl⟩ : ∃ k : Nat, op = k := ⟨op.toNat, by omega⟩
    have hk : k = 6 ∨ k = 7 ∨ k = 8 ∨ k = 9 ∨ k = 10 ∨ k = 11 ∨ k = 12 ∨ k = 13 ∨ k = 14 ∨ k = 15 ∨ k = 16 ∨ k = 17 := by omega
    rcases hk with rfl | rfl | rfl | rfl | rfl | rfl | rfl | rfl | rfl | rfl | rfl | rfl <;> rfl
  · rw [if_neg h17]
    rw [if_neg (by omega), if_neg (by omega), if_neg (by omega), if_neg (by omega), if_neg (by omega), if_neg (by omega), if_neg (by omega), if_neg (by omega), if_neg (by omega), if_neg (by omega), if_neg (by omega), if_neg (by omega)]
/-- The registers of the law. -/
def rkR (b z : Nat) (x y : Int) : List Int := (r0.set b x).set z y
theorem rkR_ok {b z : Nat} {x y : Int} (hx : u64ok x) (hy : u64ok y) : okR (rkR b z x y) 0 := ((r0_ok 0 zero_ok).set b hx).set z hy
theorem rkR_z (b z : Nat) (x y : Int) (hz : z < 16) : (rkR b z x y).getD z 0 = y := by
  unfold rkR; rw [List.getD_eq_getElem?_getD, List.getElem?_set_self (by simp [r0]; omega)]; rfl
theorem rkR_b (b z : Nat) (x y : Int) (hb : b < 16) : (rkR b z x y).getD b 0 = if b = z then y else x := by
  unfold rkR
  rw [List.getD_eq_getElem?_getD]
  by_cases h : b = z
  · subst h; rw [if_pos rfl, List.getElem?_set_self (by simp [r0]; omega)]; rfl
  · rw [if_neg h, List.getElem?_set_ne (Ne.symm h), List.getElem?_set_self (by simp [r0]; omega)]; rfl
theorem q4_mem (c : Cod) (_h : rightC c = true) : memL (q4s (bytesC c)) = (q4s (bytesC c)).data.toList ∧ (q4s (bytesC c)).data.toList.length = 4 := by
  have h4 : (q4s (bytesC c)).size = 4 := rfl
  have : (q4s (bytesC c)).data.toList.length = 4 := rfl
  exact ⟨by unfold memL; rw [List.take_of_length_le (by omega)], this⟩
theorem rk_run (c : Cod) (b z : Nat) (x y : Int) (h : rightC c = true) (hop : 6 ≤ c.op ∧ c.op ≤ 17) (hb : c.b = b) (hz : c.c = z) (hb' : b < 16) (hz' : z < 16) :
    overS 1 (rkR b z x y) 0 (memL (q4s (bytesC c))) = ((rkR b z x y).set c.a.toNat (resI c.op 0 0 (if b = z then y else x) y), 4, memL (q4s (bytesC c)), 1, 0) := by
  obtain ⟨h1, h2⟩ := q4_mem c h
  have hd : decC ⟨(((memL (q4s (bytesC c))).drop 0).take 4).toArray⟩ = some c := by
    rw [h1, List.drop_zero, List.take_of_length_le (by omega)]
    have := enc_dec c h
    rw [← this]
  have hs : stepS (rkR b z x y) 0 (memL (q4s (bytesC c))) = ((rkR b z x y).set c.a.toNat (resI c.op 0 0 (if b = z then y else x) y), 4, memL (q4s (bytesC c)), 0) := by
    unfold stepS
    rw [if_pos (by rw [h1, h2]; decide), show (0 : Int).toNat = 0 from rfl, hd]
    simp only
    unfold doS
    rw [if_neg (by omega), if_neg (by omega), if_neg (by omega), if_pos (by omega), hb, hz, Int.toNat_natCast, Int.toNat_natCast, rkR_b _ _ _ _ hb', rkR_z _ _ _ _ hz', resI_alone hop.1, if_pos hop.2]
    rfl
  rw [overS_ran hs]; rfl
set_option maxRecDepth 100000 in
set_option maxHeartbeats 4000000 in
theorem reckons_no (c : Cod) (x y : Int) (w : World) (hn : rightC c = false ∨ c.op < 6 ∨ 17 < c.op) :
    Calls Try.prog 5 #[c.v, .int .u64 x, .int .u64 y] w fun e w' => e = .returned (.bool true) ∧ Below w.heap.size w w' := by
  have HL := Lib.hid lives_any
  have HR := Lib.hid (rRight_any c)
  have hv : c.v = .agg #[.int .i64 c.op, .int .i64 c.a, .int .i64 c.b, .int .i64 c.c, .int .i64 c.n] := rfl
  rw [hv] at HR ⊢
  have hb1 : Below w.heap.size w (w.alloc (.cells #[.int .i64 c.op, .int .i64 c.a, .int .i64 c.b, .int .i64 c.c, .int .i64 c.n] 48)) := (Below.refl _ _).alloc (Nat.le_refl _) _
  have k1 := At5.new w c 48
  go_enter Try.func5, Try.ntmps5
  go_wp2_with (first
    | (go_at_call 9; refine (HL.out _).mono ?_; rintro e w2 ⟨rfl, hB2⟩; refine Hid.out ?_))
  refine Lib.hid ?_
  have q2 : Below w.heap.size w w2 := hb1.trans (hB2.mono hb1.size)
  obtain ⟨kl, ⟨a0, a1, a2, a3, a4⟩, af⟩ := k1.below hB2 (by simp)
  clear hb1 k1
  go_wp2_with (first
    | (go_at_call 18; refine (HR.out _).mono ?_; rintro e w3 ⟨rfl, hB3⟩; refine Hid.out ?_))
  refine Lib.hid ?_
  have q3 : Below w.heap.size w w3 := q2.trans (hB3.mono q2.size)
  have b0 := (hB3.cell (p := ⟨w.heap.size, 0, none⟩) kl).trans a0
  clear hB2 hB3
  by_cases hr : rightC c = true
  · rw [hr]
    by_cases h6 : c.op < 6
    · go_wp2
      go_ret
      exact ⟨rfl, q3⟩
    · have h17 : 17 < c.op := by simpa [hr, h6] using hn
      go_wp2
      go_ret
      exact ⟨rfl, q3⟩
  · have hr' : rightC c = false := by simpa using hr
    rw [hr']
    go_wp2
    go_ret
    exact ⟨rfl, q3⟩
set_option maxRecDepth 100000 in
set_option maxHeartbeats 4000000 in
theorem reckons_yes (c : Cod) (x y : Int) (w : World) (hx : u64ok x) (hy : u64ok y) (hr : rightC c = true) (hop : 6 ≤ c.op ∧ c.op ≤ 17) :
    Calls Try.prog 5 #[c.v, .int .u64 x, .int .u64 y] w fun e w' => e = .returned (.bool true) ∧ Below w.heap.size w w' := by
  obtain ⟨_, la, lb, lc, _⟩ := right_lim hr
  obtain ⟨a, ha⟩ : ∃ a : Nat, c.a = a := ⟨c.a.toNat, by omega⟩
  obtain ⟨b, hb⟩ : ∃ b : Nat, c.b = b := ⟨c.b.toNat, by omega⟩
  obtain ⟨z, hz⟩ : ∃ z : Nat, c.c = z := ⟨c.c.toNat, by omega⟩
  have ha16 : a < 16 := by omega
  have hb16 : b < 16 := by omega
  have hz16 : z < 16 := by omega
  have HRun := Lib.hid (rk_run c b z x y hr hop hb hz hb16 hz16)
  rw [ha, Int.toNat_natCast] at HRun
  have HL := Lib.hid lives_any
  have HR := Lib.hid (rRight_any c)
  rw [hr] at HR
  have HE := Lib.hid (fun W => rEncode_any c W hr)
  have hq4 : (q4s (bytesC c)).size = 4 := rfl
  have HM := Lib.hid (fun W => memory_any (q4s (bytesC c)) W (by omega))
  generalize q4s (bytesC c) = sb at *
  have HRk := Lib.hid (fun (W : World) => Reckon_any c.op (if b = z then y else x) y W hop (by split <;> assumption) hy)
  have hres : u64ok (resI c.op 0 0 (if b = z then y else x) y) := resI_ok zero_ok (by split <;> assumption) hy
  have hv : c.v = .agg #[.int .i64 c.op, .int .i64 a, .int .i64 b, .int .i64 z, .int .i64 c.n] := by rw [← ha, ← hb, ← hz]; rfl
  rw [hv] at HR HE ⊢
  have hb1 : Below w.heap.size w (w.alloc (.cells #[.int .i64 c.op, .int .i64 a, .int .i64 b, .int .i64 z, .int .i64 c.n] 48)) := (Below.refl _ _).alloc (Nat.le_refl _) _
  have k1 := At5.new w ⟨c.op, a, b, z, c.n⟩ 48
  have h6 : ¬ c.op < 6 := by omega
  have h17 : ¬ 17 < c.op := by omega
  have hai : (a : Int) < 16 := by omega
  have hbi : (b : Int) < 16 := by omega
  have hzi : (z : Int) < 16 := by omega
  clear hr hv ha hb hz la lb lc
  go_enter Try.func5, Try.ntmps5
  go_wp2_with (first
    | (go_at_call 9; refine (HL.out _).mono ?_; rintro e w2 ⟨rfl, hB2⟩; refine Hid.out ?_))
  refine Lib.hid ?_
  have q2 : Below w.heap.size w w2 := hb1.trans (hB2.mono hb1.size)
  have k2 := k1.below hB2 (by simp)
  have k2' := k2
  obtain ⟨kl, ⟨a0, a1, a2, a3, a4⟩, af⟩ := k2'
  clear hb1 k1
  go_wp2_with (first
    | (go_at_call 18; refine (HR.out _).mono ?_; rintro e w3 ⟨rfl, hB3⟩; refine Hid.out ?_))
  refine Lib.hid ?_
  have q3 : Below w.heap.size w w3 := q2.trans (hB3.mono q2.size)
  have k3 := k2.below hB3 kl
  have k3' := k3
  obtain ⟨kl3, ⟨b0, b1, b2, b3, b4⟩, bf⟩ := k3'
  clear hB2 hB3 k2 a0 a1 a2 a3 a4 af kl
  go_wp2_with (first
    | (go_at_call 19; refine (HE.out _).mono ?_; rintro e w4 ⟨rfl, hB4⟩)
    | (go_at_call 15; refine (HM.out _).mono ?_; rintro e w5 ⟨rfl, ⟨ls5, hA5⟩, hB5⟩; refine Hid.out ?_))
  refine Lib.hid ?_
  have q5 : Below w.heap.size w w5 := (q3.trans (hB4.mono q3.size)).trans (hB5.mono (Nat.le_trans q3.size hB4.size))
  have k5 := (k3.below hB4 kl3).below hB5 (Nat.lt_of_lt_of_le kl3 hB4.size)
  have hbw5 := hB5.size
  have hbw0 : w.heap.size < w4.heap.size := Nat.lt_of_lt_of_le kl3 hB4.size
  generalize w4.heap.size = Bb at *
  clear hB4 hB5 k3 b0 b1 b2 b3 b4 bf kl3
  go_upto_region 9 with fail
  have hbA : Below w5.heap.size w5 (w5.alloc (.cells #[.int .u64 0, .int .u64 0, .int .u64 0, .int .u64 0, .int .u64 0, .int .u64 0, .int .u64 0, .int .u64 0, .int .u64 0, .int .u64 0, .int .u64 0, .int .u64 0, .int .u64 0, .int .u64 0, .int .u64 0, .int .u64 0, .int .u64 0] 25)) := (Below.refl _ _).alloc (Nat.le_refl _) _
  have S6 : StAt (w5.alloc (.cells #[.int .u64 0, .int .u64 0, .int .u64 0, .int .u64 0, .int .u64 0, .int .u64 0, .int .u64 0, .int .u64 0, .int .u64 0, .int .u64 0, .int .u64 0, .int .u64 0, .int .u64 0, .int .u64 0, .int .u64 0, .int .u64 0, .int .u64 0] 25)) w5.heap.size r0 0 := heap_new _ _
  have A6 := hA5.below hbA
  have k6 := k5.below hbA k5.1
  have q6 : Below w.heap.size w (w5.alloc (.cells #[.int .u64 0, .int .u64 0, .int .u64 0, .int .u64 0, .int .u64 0, .int .u64 0, .int .u64 0, .int .u64 0, .int .u64 0, .int .u64 0, .int .u64 0, .int .u64 0, .int .u64 0, .int .u64 0, .int .u64 0, .int .u64 0, .int .u64 0] 25)) := q5.trans (hbA.mono q5.size)
  have hBs : Bb ≤ w5.heap.size := hbw5
  have hcb : w.heap.size < w5.heap.size := k5.1
  generalize w5.alloc (.cells #[.int .u64 0, .int .u64 0, .int .u64 0, .int .u64 0, .int .u64 0, .int .u64 0, .int .u64 0, .int .u64 0, .int .u64 0, .int .u64 0, .int .u64 0, .int .u64 0, .int .u64 0, .int .u64 0, .int .u64 0, .int .u64 0, .int .u64 0] 25) = W6 at *
  generalize w5.heap.size = Bs at *
  clear hA5 k5 hbA q5 hbw5
  have AF : Aft Bb Bb Bs W6 r0 0 (memL sb) W6 := ⟨S6, ⟨ls5, A6⟩, Below.refl _ _, FrB.refl _ _⟩
  have A7 := (AF.reg rfl hBs b hb16 x).reg (by simp [r0]) hBs z hz16 y
  have A6' := AF.reg rfl hBs b hb16 x
  have hne : ∀ o v (W : World) p, (W.setCell ⟨Bs, o, none⟩ v).cell? ⟨w.heap.size, p, none⟩ = W.cell? ⟨w.heap.size, p, none⟩ := fun o v W p => by simp only [World.cell?, heap_setCell_ne W ⟨Bs, o, none⟩ v (show w.heap.size ≠ Bs by omega)]
  have g1 : (W6.setCell ⟨Bs, b, none⟩ (.int .u64 x)).frozen? ⟨Bs, z, none⟩ = false := A6'.st.froz z
  have g2 := A6'.st.reg (by simp [r0]) z hz16
  obtain ⟨W7, hW7⟩ : ∃ W7, W6.setCell ⟨Bs, b, none⟩ (.int .u64 x) = W7 := ⟨_, rfl⟩
  obtain ⟨kl, ⟨a0, a1, a2, a3, a4⟩, af⟩ := k6
  have c0 := (hne b (.int .u64 x) W6 0).trans a0
  have c2 := (hne b (.int .u64 x) W6 2).trans a2
  have c3 := (hne b (.int .u64 x) W6 3).trans a3
  have f1 := S6.reg rfl b hb16
  have f2 := S6.froz b
  have hlS := S6.lt
  rw [hW7] at A6' g1 g2 c0 c2 c3
  have hl7 := A6'.st.lt
  have A7 := A6'.reg (by simp [r0]) hBs z hz16 y
  obtain ⟨W8, hW8⟩ : ∃ W8, W7.setCell ⟨Bs, z, none⟩ (.int .u64 y) = W8 := ⟨_, rfl⟩
  have d0 : (W7.setCell ⟨Bs, z, none⟩ (.int .u64 y)).cell? ⟨w.heap.size, 0, none⟩ = _ := (hne z (.int .u64 y) W7 0).trans c0
  have d1 : (W7.setCell ⟨Bs, z, none⟩ (.int .u64 y)).cell? ⟨w.heap.size, 1, none⟩ = some (.int .i64 a) := (hne z (.int .u64 y) W7 1).trans (by rw [← hW7]; exact (hne b (.int .u64 x) W6 1).trans a1)
  have d2 : (W7.setCell ⟨Bs, z, none⟩ (.int .u64 y)).cell? ⟨w.heap.size, 2, none⟩ = _ := (hne z (.int .u64 y) W7 2).trans c2
  have d3 : (W7.setCell ⟨Bs, z, none⟩ (.int .u64 y)).cell? ⟨w.heap.size, 3, none⟩ = _ := (hne z (.int .u64 y) W7 3).trans c3
  rw [hW8] at A7 d0 d1 d2 d3
  have hS8 : StAt W8 Bs (rkR b z x y) 0 := A7.st
  obtain ⟨ls8, hM8⟩ := A7.mem
  have q8 : Below w.heap.size w W8 := q6.trans (A7.blw.mono (Nat.le_of_lt hbw0))
  have HO := Over_any Bb Bb 1 (rkR b z x y) 0 _ ls8 W8 (by decide) (rkR_ok hx hy) hM8
  rw [show (1 : Int).toNat = 1 from rfl, HRun.out] at HO
  clear HRun
  obtain ⟨res, hresE⟩ : ∃ res, resI c.op 0 0 (if b = z then y else x) y = res := ⟨_, rfl⟩
  rw [hresE] at HO HRk hres
  have hokR : okR ((rkR b z x y).set a res) 4 := ((rkR_ok hx hy).set a hres).pc (by unfold u64ok; omega)
  have hsz2 : (Try.prog.info? 25).map (·.size) = some (stC ((rkR b z x y).set a res) 4).toArray.size := by rw [stC_size hokR.1]; exact stInfo
  have hone := stC_one ((rkR b z x y).set a res) 4
  have HQ : Hid ((stC ((rkR b z x y).set a res) 4).toArray.size = 17) := stC_size hokR.1
  have HO' : Hid (Calls Try.prog 13 #[.pointer (some ⟨Bb, 0, none⟩), .agg (stC (rkR b z x y) 0).toArray, .int .i64 1] W8 fun e w' => e = .returned (.tuple #[.agg (stC ((rkR b z x y).set a res) 4).toArray, .int .i64 1, .int .i64 0]) ∧ Below Bb W8 w' ∧ Fr W8 w') := HO.mono fun e w' hh => ⟨hh.1, hh.2.2.1, hh.2.2.2⟩
  have hsz1 : (Try.prog.info? 25).map (·.size) = some (stC (rkR b z x y) 0).toArray.size := by rw [stC_size (rkR_ok hx hy).1]; exact stInfo
  have hS8' : W8.heap[Bs]? = some (.cells (stC (rkR b z x y) 0).toArray 25 (0, 0)) := hS8
  have HS8 := Lib.hid hS8
  obtain ⟨cs1, hcs1⟩ : ∃ cs1, (stC (rkR b z x y) 0).toArray = cs1 := ⟨_, rfl⟩
  obtain ⟨cs2, hcs2⟩ : ∃ cs2, (stC ((rkR b z x y).set a res) 4).toArray = cs2 := ⟨_, rfl⟩
  rw [hcs1] at HO' hsz1 hS8'
  rw [hcs2] at HO' hsz2 hone HQ
  have HA8 := Lib.hid A7
  clear HO A7 A6' AF S6 A6 hM8 q6 hne hS8
  have HNe : Hid (w.heap.size ≠ Bs) := by simp only [Hid]; omega
  have hxE : (if b = z then y else x) = (if b = z then y else x) := rfl
  by_cases hbz : b = z
  · rw [if_pos hbz] at HRk
    have hbzi : ((b : Int) == (z : Int)) = true := by simp; omega
    clear hbz
    go_wp2_with (first
      | (refine wpList_load_row rfl 25 _ rfl Bs rfl 25 _ (0, 0) _ hS8' Try.underlying25 rfl hsz1 ?_)
      | (go_at_call 13; refine HO'.out.mono ?_; rintro e w9 ⟨rfl, hB9, hF9⟩; refine Hid.out ?_))
    refine Lib.hid ?_
    have q9 : Below w.heap.size w w9 := q8.trans (hB9.mono (Nat.le_of_lt hbw0))
    have e0 := (hB9.cell (p := ⟨w.heap.size, 0, none⟩) hbw0).trans d0
    have e1 := (hB9.cell (p := ⟨w.heap.size, 1, none⟩) hbw0).trans d1
    have hS9 := HS8.out.fr hF9
    have hl9 : w.heap.size < w9.heap.size := Nat.lt_of_lt_of_le hbw0 (Nat.le_trans (Nat.le_of_lt (Nat.lt_of_le_of_lt hBs HS8.out.lt)) hB9.size)
    have hn9 := heap_new w9 (.cells #[.int .u64 0, .int .u64 0, .int .u64 0, .int .u64 0, .int .u64 0, .int .u64 0, .int .u64 0, .int .u64 0, .int .u64 0, .int .u64 0, .int .u64 0, .int .u64 0, .int .u64 0, .int .u64 0, .int .u64 0, .int .u64 0, .int .u64 0] 25)
    have hb10 := below_setRow ((Below.refl w9.heap.size w9).alloc (Nat.le_refl _) (.cells #[.int .u64 0, .int .u64 0, .int .u64 0, .int .u64 0, .int .u64 0, .int .u64 0, .int .u64 0, .int .u64 0, .int .u64 0, .int .u64 0, .int .u64 0, .int .u64 0, .int .u64 0, .int .u64 0, .int .u64 0, .int .u64 0, .int .u64 0] 25)) (g := w9.heap.size) (Nat.le_refl _) cs2
    have hn10 := heap_setRow _ w9.heap.size _ cs2 _ hn9
    obtain ⟨W10, hW10⟩ : ∃ W10, (w9.alloc (.cells #[.int .u64 0, .int .u64 0, .int .u64 0, .int .u64 0, .int .u64 0, .int .u64 0, .int .u64 0, .int .u64 0, .int .u64 0, .int .u64 0, .int .u64 0, .int .u64 0, .int .u64 0, .int .u64 0, .int .u64 0, .int .u64 0, .int .u64 0] 25)).setRow w9.heap.size cs2 = W10 := ⟨_, rfl⟩
    rw [hW10] at hb10 hn10
    have HW10 := Lib.hid hW10
    clear hW10
    have hS10 := hS9.below hb10
    have hl10 : w.heap.size < W10.heap.size := Nat.lt_of_lt_of_le hl9 hb10.size
    have u0 : ∀ nn os, (gx W10 nn os).cell? ⟨w.heap.size, 0, none⟩ = some (.int .i64 c.op) := fun nn os => cell_gx (a := ⟨w.heap.size, 0, none⟩) hl10 ((hb10.cell (p := ⟨w.heap.size, 0, none⟩) hl9).trans e0) nn os
    have u1 : ∀ nn os, (gx W10 nn os).cell? ⟨w.heap.size, 1, none⟩ = some (.int .i64 a) := fun nn os => cell_gx (a := ⟨w.heap.size, 1, none⟩) hl10 ((hb10.cell (p := ⟨w.heap.size, 1, none⟩) hl9).trans e1) nn os
    have q10 : Below w.heap.size w W10 := q9.trans (hb10.mono (Nat.le_of_lt hl9))
    have hBs9 : Bs ≠ w9.heap.size := by have := hS9.lt; omega
    clear hB9 hF9 e0 e1 hS9 hb10
    go_wp2_with (first
      | (refine wpList_store_row rfl 25 _ _ rfl w9.heap.size cs2 rfl rfl 25 _ hn9 hsz2 (by rw [HQ.out]; rfl) hone ?_; rw [HW10.out]))
    refine wp_region_tail_gx 9 (by kernel_rfl) (by kernel_rfl) ?_
    simp only [List.take_succ_cons, List.take_zero, List.drop_succ_cons, List.drop_zero]
    repeat (quiet_step (first | (go_at_call 20; exact calls_gx ((HRk.out _).mono fun _ _ hh => ⟨hh.1, by rw [hh.2]; exact Below.refl _ _⟩))))
    refine wpQuiet_nil ?_
    intro w11 hw'
    obtain ⟨⟨n1, os1⟩, hw''⟩ := hw'
    have hw3 : w11 = gx W10 n1 os1 := hw''
    clear hw''
    have hB11 : Below W10.heap.size W10 w11 := by rw [hw3]; exact gx_below _ _ _
    clear hw3 u0 u1
    have hS11 := hS10.below hB11
    have n11 := (hB11.block _ (Array.getElem?_eq_some_iff.1 hn10).1).trans hn10
    have q11 : Below w.heap.size w w11 := q10.trans (hB11.mono (Nat.le_of_lt hl10))
    have v1 := hS11.reg (rkR_ok hx hy).1 a ha16
    have v2 := hS11.froz a
    have v3 := hS11.lt
    have hS12 := hS11.set (rkR_ok hx hy).1 a ha16 res
    have hl12 : ((rkR b z x y).set a res).length = 16 := hokR.1
    obtain ⟨W12, hW12⟩ : ∃ W12, w11.setCell ⟨Bs, a, none⟩ (.int .u64 res) = W12 := ⟨_, rfl⟩
    have n12 := (heap_setCell_ne w11 ⟨Bs, a, none⟩ (.int .u64 res) (show w9.heap.size ≠ Bs from Ne.symm hBs9)).trans n11
    have q12 := q11.setCell (p := ⟨Bs, a, none⟩) (Nat.le_of_lt hcb) (.int .u64 res)
    rw [hW12] at hS12 n12 q12
    have v4 := hS12.pc hl12
    have v5 := hS12.froz 16
    have v6 := hS12.lt
    have hS13 := hS12.setPc hl12 4
    obtain ⟨W13, hW13⟩ : ∃ W13, W12.setCell ⟨Bs, 16, none⟩ (.int .u64 4) = W13 := ⟨_, rfl⟩
    have n13 := (heap_setCell_ne W12 ⟨Bs, 16, none⟩ (.int .u64 4) (show w9.heap.size ≠ Bs from Ne.symm hBs9)).trans n12
    have q13 := q12.setCell (p := ⟨Bs, 16, none⟩) (Nat.le_of_lt hcb) (.int .u64 4)
    rw [hW13] at hS13 n13 q13
    have s13 : W13.heap[Bs]? = some (.cells cs2 25 (0, 0)) := by rw [← hcs2]; exact hS13
    have heq := eq_st16 hokR.1 hcs2 W13
    have hpc16 := st_pc16 hokR.1 hcs2
    clear hS13 hS12 hS11 hS10 n12 n11 q12 q11 hn10 hn9
    go_wp2_with (first
      | (refine wpList_load_row rfl 25 _ rfl w9.heap.size rfl 25 _ (0, 0) _ n13 Try.underlying25 rfl hsz2 ?_)
      | (refine wpList_load_row rfl 25 _ rfl Bs rfl 25 _ (0, 0) _ s13 Try.underlying25 rfl hsz2 ?_))
    go_ret
    exact ⟨rfl, q13⟩
  · rw [if_neg hbz] at HRk
    have hbzi : ((b : Int) == (z : Int)) = false := by simp; omega
    go_wp2_with (first
      | (refine wpList_load_row rfl 25 _ rfl Bs rfl 25 _ (0, 0) _ hS8' Try.underlying25 rfl hsz1 ?_)
      | (go_at_call 13; refine HO'.out.mono ?_; rintro e w9 ⟨rfl, hB9, hF9⟩; refine Hid.out ?_))
    refine Lib.hid ?_
    have q9 : Below w.heap.size w w9 := q8.trans (hB9.mono (Nat.le_of_lt hbw0))
    have e0 := (hB9.cell (p := ⟨w.heap.size, 0, none⟩) hbw0).trans d0
    have e1 := (hB9.cell (p := ⟨w.heap.size, 1, none⟩) hbw0).trans d1
    have hS9 := HS8.out.fr hF9
    have hl9 : w.heap.size < w9.heap.size := Nat.lt_of_lt_of_le hbw0 (Nat.le_trans (Nat.le_of_lt (Nat.lt_of_le_of_lt hBs HS8.out.lt)) hB9.size)
    have hn9 := heap_new w9 (.cells #[.int .u64 0, .int .u64 0, .int .u64 0, .int .u64 0, .int .u64 0, .int .u64 0, .int .u64 0, .int .u64 0, .int .u64 0, .int .u64 0, .int .u64 0, .int .u64 0, .int .u64 0, .int .u64 0, .int .u64 0, .int .u64 0, .int .u64 0] 25)
    have hb10 := below_setRow ((Below.refl w9.heap.size w9).alloc (Nat.le_refl _) (.cells #[.int .u64 0, .int .u64 0, .int .u64 0, .int .u64 0, .int .u64 0, .int .u64 0, .int .u64 0, .int .u64 0, .int .u64 0, .int .u64 0, .int .u64 0, .int .u64 0, .int .u64 0, .int .u64 0, .int .u64 0, .int .u64 0, .int .u64 0] 25)) (g := w9.heap.size) (Nat.le_refl _) cs2
    have hn10 := heap_setRow _ w9.heap.size _ cs2 _ hn9
    obtain ⟨W10, hW10⟩ : ∃ W10, (w9.alloc (.cells #[.int .u64 0, .int .u64 0, .int .u64 0, .int .u64 0, .int .u64 0, .int .u64 0, .int .u64 0, .int .u64 0, .int .u64 0, .int .u64 0, .int .u64 0, .int .u64 0, .int .u64 0, .int .u64 0, .int .u64 0, .int .u64 0, .int .u64 0] 25)).setRow w9.heap.size cs2 = W10 := ⟨_, rfl⟩
    rw [hW10] at hb10 hn10
    have HW10 := Lib.hid hW10
    clear hW10
    have hS10 := hS9.below hb10
    have hl10 : w.heap.size < W10.heap.size := Nat.lt_of_lt_of_le hl9 hb10.size
    have u0 : ∀ nn os, (gx W10 nn os).cell? ⟨w.heap.size, 0, none⟩ = some (.int .i64 c.op) := fun nn os => cell_gx (a := ⟨w.heap.size, 0, none⟩) hl10 ((hb10.cell (p := ⟨w.heap.size, 0, none⟩) hl9).trans e0) nn os
    have u1 : ∀ nn os, (gx W10 nn os).cell? ⟨w.heap.size, 1, none⟩ = some (.int .i64 a) := fun nn os => cell_gx (a := ⟨w.heap.size, 1, none⟩) hl10 ((hb10.cell (p := ⟨w.heap.size, 1, none⟩) hl9).trans e1) nn os
    have q10 : Below w.heap.size w W10 := q9.trans (hb10.mono (Nat.le_of_lt hl9))
    have hBs9 : Bs ≠ w9.heap.size := by have := hS9.lt; omega
    clear hB9 hF9 e0 e1 hS9 hb10
    go_wp2_with (first
      | (refine wpList_store_row rfl 25 _ _ rfl w9.heap.size cs2 rfl rfl 25 _ hn9 hsz2 (by rw [HQ.out]; rfl) hone ?_; rw [HW10.out]))
    refine wp_region_tail_gx 9 (by kernel_rfl) (by kernel_rfl) ?_
    simp only [List.take_succ_cons, List.take_zero, List.drop_succ_cons, List.drop_zero]
    repeat (quiet_step (first | (go_at_call 20; exact calls_gx ((HRk.out _).mono fun _ _ hh => ⟨hh.1, by rw [hh.2]; exact Below.refl _ _⟩))))
    refine wpQuiet_nil ?_
    intro w11 hw'
    obtain ⟨⟨n1, os1⟩, hw''⟩ := hw'
    have hw3 : w11 = gx W10 n1 os1 := hw''
    clear hw''
    have hB11 : Below W10.heap.size W10 w11 := by rw [hw3]; exact gx_below _ _ _
    clear hw3 u0 u1
    have hS11 := hS10.below hB11
    have n11 := (hB11.block _ (Array.getElem?_eq_some_iff.1 hn10).1).trans hn10
    have q11 : Below w.heap.size w w11 := q10.trans (hB11.mono (Nat.le_of_lt hl10))
    have v1 := hS11.reg (rkR_ok hx hy).1 a ha16
    have v2 := hS11.froz a
    have v3 := hS11.lt
    have hS12 := hS11.set (rkR_ok hx hy).1 a ha16 res
    have hl12 : ((rkR b z x y).set a res).length = 16 := hokR.1
    obtain ⟨W12, hW12⟩ : ∃ W12, w11.setCell ⟨Bs, a, none⟩ (.int .u64 res) = W12 := ⟨_, rfl⟩
    have n12 := (heap_setCell_ne w11 ⟨Bs, a, none⟩ (.int .u64 res) (show w9.heap.size ≠ Bs from Ne.symm hBs9)).trans n11
    have q12 := q11.setCell (p := ⟨Bs, a, none⟩) (Nat.le_of_lt hcb) (.int .u64 res)
    rw [hW12] at hS12 n12 q12
    have v4 := hS12.pc hl12
    have v5 := hS12.froz 16
    have v6 := hS12.lt
    have hS13 := hS12.setPc hl12 4
    obtain ⟨W13, hW13⟩ : ∃ W13, W12.setCell ⟨Bs, 16, none⟩ (.int .u64 4) = W13 := ⟨_, rfl⟩
    have n13 := (heap_setCell_ne W12 ⟨Bs, 16, none⟩ (.int .u64 4) (show w9.heap.size ≠ Bs from Ne.symm hBs9)).trans n12
    have q13 := q12.setCell (p := ⟨Bs, 16, none⟩) (Nat.le_of_lt hcb) (.int .u64 4)
    rw [hW13] at hS13 n13 q13
    have s13 : W13.heap[Bs]? = some (.cells cs2 25 (0, 0)) := by rw [← hcs2]; exact hS13
    have heq := eq_st16 hokR.1 hcs2 W13
    have hpc16 := st_pc16 hokR.1 hcs2
    clear hS13 hS12 hS11 hS10 n12 n11 q12 q11 hn10 hn9
    go_wp2_with (first
      | (refine wpList_load_row rfl 25 _ rfl w9.heap.size rfl 25 _ (0, 0) _ n13 Try.underlying25 rfl hsz2 ?_)
      | (refine wpList_load_row rfl 25 _ rfl Bs rfl 25 _ (0, 0) _ s13 Try.underlying25 rfl hsz2 ?_))
    go_ret
    exact ⟨rfl, q13⟩
theorem CpuReckons_any (c : Cod) (x y : Int) (w : World) (hx : u64ok x) (hy : u64ok y) :
    Calls Try.prog 5 #[c.v, .int .u64 x, .int .u64 y] w fun e w' => e = .returned (.bool true) ∧ Below w.heap.size w w' := by
  by_cases h : rightC c = true ∧ 6 ≤ c.op ∧ c.op ≤ 17
  · exact reckons_yes c x y w hx hy h.1 h.2
  · refine reckons_no c x y w ?_
    by_cases hr : rightC c = true
    · right; have : ¬ (6 ≤ c.op ∧ c.op ≤ 17) := fun hh => h ⟨hr, hh⟩; omega
    · left; simpa using hr
end Go.Proofs.Ytmmejicmjalibaa
