/- What the reference's small functions of labels answer, for every label. -/
import Derived.Test.YtmgfakfiiaeofaaGreatKDo
import Derived.Test.YtmgfakfiiaeofaaGreatKReadN
import Derived.Test.YtmgfakfiiaeofaaGreatKNew
import Derived.Test.YtmgfakfiiaeofaaGreatKTh
import Derived.Test.YtmgfakfiiaeofaaGreatHoTab
/- The four calls of the chapter's examples. -/
namespace Go.Proofs.YtmgfakfiiaeofaaGreat
open Go.RowKit Go.Sort
def askZ : Ask := { op := 0, pi := 0, pj := 0, qi := 0, qj := 0, a := 0, b := 0, c := 0, ld := 0, lv := .slice none 0 0, md := 0, mv := .slice none 0 0, s := ⟨#[]⟩, at_ := 0, pg := 0, inn := 0, mid := 0, fr := 0, wr := false, rn := false }
def askCell : Ask := { askZ with op := 5, pi := 1, ld := 2, a := 100, b := 8 }
def askWrite : Ask := { askZ with op := 15, pi := 1, pj := 10, s := ⟨#[97, 98]⟩ }
def askRead : Ask := { askZ with op := 14, pi := 1, pj := 10, b := 3 }
def askNone : Ask := { askZ with op := 14, pi := 1, pj := 11 }
structure LK (K : Kn) (d : List UInt8) : Prop where
 tR : ∃ x, K.T 1 = some x /\ x.ob = ⟨1, 1, 1099511627776, 102, 1, 2, [], [2, 3, 10]⟩
 tT : ∃ x, K.T 3 = some x /\ x.ob = Ho.newOb 3 4 1 2 []
 tS : ∃ x, K.T 10 = some x /\ x.ob = Ho.newOb 10 2 100 2 []
 fS : ∃ B, K.fS (Wa.ky 10) = some B
 sd : K.sd 10 = d
 fT : ∃ B, K.fT (Wa.ky 3) = some B
 th : K.th = fun _ => ⟨4, .slice none 0 0, [], 0, 0, List.replicate 17 0, false⟩
 all : K.all = []
theorem lv_zero (d : Int) (W : World) : Pa.LV (d, []) (.agg #[.int .i64 d, .slice none 0 0]) W := ⟨none, 0, rfl, fun j hj => absurd hj (by simp), by simp, by simp⟩
theorem own_ge {lo : Nat} {W : World} {K : Kn} (h : KAt lo W K) {k : Nat} (hk : W.heap.size <= k) : K.own k = none := by
 cases ho : K.own k with
 | none => rfl
 | some g => exfalso; have := (h.lt k (by rw [ho]; simp)).2; omega
theorem do_cell {lo : Nat} {W : World} {K : Kn} (hK : KAt lo W K) (hF : KFirst K 1 2 3) :
 Calls Tryz.prog 11 #[.pointer (some ⟨K.kb, 0, none⟩), .int .i64 3, askV askCell, .int .i64 10] W fun e W' => e = .returned (.tuple #[tdV 10 ⟨#[]⟩, .int .i64 0]) /\ ∃ K', KAt lo W' K' /\ (K'.kb = K.kb /\ LK K' (List.replicate 8 0)) /\ Below lo W W' /\ ∀ k, k < W.heap.size -> K.own k = none -> W'.heap[k]? = W.heap[k]? /\ K'.own k = none := by
 obtain ⟨rT, hT3, oT3⟩ := hF.tT
 obtain ⟨rR, hT1, oR1⟩ := hF.tR
 obtain ⟨B, hfT⟩ := hF.fT
 have hfT3 : K.fT (Wa.ky 3) = some B := by rw [hfT]; unfold Wa.updF; rw [if_pos rfl]
 have hth : K.th 3 = ⟨4, .slice none 0 0, [], 0, 0, List.replicate 17 0, false⟩ := by rw [hF.th]
 have hdf : rT.ob.df = 2 := by rw [oT3]; rfl
 have hcs : rT.ob.cats = [] := by rw [oT3]; rfl
 refine do_any hK 3 (by unfold Wa.i64; decide) B hfT3 (by rw [hth]) (by rw [hF.all]; rfl) rT hT3 (by rw [hcs]; decide) askCell 10 ⟨_, _, _, rfl⟩ ⟨_, _, _, rfl⟩ 68 rowOf_cell (enters_of Tryz.func68 (by kernel_rfl) rfl) 10 0 ⟨#[]⟩ (fun K' => K'.kb = K.kb /\ LK K' (List.replicate 8 0)) ?_
 intro W1 cb v hb hC hcb hLv
 rw [hdf, hcs] at hLv
 rw [hdf] at hC
 have hK1 := hK.below hb
 have h5 := cell_ok (lo := lo) hC (own_ge hK hcb) hK1 hfT3 (by show Ho.i64 1; unfold Ho.i64; decide) rR hT1 (by rw [oR1]) (by rw [oR1]; decide) [] hLv (by rw [oR1]; show Pa.seesS 2 2 [] [] = true; decide) [] (lv_zero 2 W1) (by decide) (by decide) (by rw [hth, oR1]; show Pa.makeI (2, []) (4, []) (2, []) (2, []) = 0; decide) (by decide) (by decide) (by rw [hF.S]; decide) (hF.tN 10 (by decide) (by decide) (by decide)) (by rw [hF.fS]) (by rw [hF.sz]; decide) (by rw [oR1]; decide) (by rw [oR1]; decide) (by rw [oR1]; decide) (by rw [oR1]; decide) (by rw [hF.nS]; decide) (by rw [hF.nR]; decide) 8 rfl (by decide) (by decide)
 refine h5.mono ?_
 rintro e W' ⟨K', C, rfl, hK', ⟨D', r', s', own', hD, hr', hs', rfl⟩, hbl, hkp⟩
 refine ⟨rfl, _, hK', ⟨rfl, ?_⟩, hbl, hkp⟩
 exact ⟨⟨r', by show Ho.upd (Ho.upd K.T 1 r') 10 s' 1 = some r'; rfl, by rw [hr', oR1]; rfl⟩, ⟨rT, by show Ho.upd (Ho.upd K.T 1 r') 10 s' 3 = some rT; exact hT3, oT3⟩, ⟨s', rfl, hs'⟩, ⟨C, by show Wa.updF K.fS (Wa.ky 10) (some C) (Wa.ky 10) = some C; unfold Wa.updF; rw [if_pos rfl]⟩, rfl, ⟨B, hfT3⟩, hF.th, hF.all⟩
theorem do_write {lo : Nat} {W : World} {K : Kn} (hK : KAt lo W K) (hF : LK K (List.replicate 8 0)) :
 Calls Tryz.prog 11 #[.pointer (some ⟨K.kb, 0, none⟩), .int .i64 3, askV askWrite, .int .i64 0] W fun e W' => e = .returned (.tuple #[tdV 0 ⟨#[]⟩, .int .i64 0]) /\ ∃ K', KAt lo W' K' /\ (K'.kb = K.kb /\ LK K' [97, 98, 0, 0, 0, 0, 0, 0]) /\ Below lo W W' /\ ∀ k, k < W.heap.size -> K.own k = none -> W'.heap[k]? = W.heap[k]? /\ K'.own k = none := by
 obtain ⟨rT, hT3, oT3⟩ := hF.tT
 obtain ⟨rR, hT1, oR1⟩ := hF.tR
 obtain ⟨rS, hTS, oS1⟩ := hF.tS
 obtain ⟨B, hfT3⟩ := hF.fT
 obtain ⟨C, hfS⟩ := hF.fS
 have hth : K.th 3 = ⟨4, .slice none 0 0, [], 0, 0, List.replicate 17 0, false⟩ := by rw [hF.th]
 have hdf : rT.ob.df = 2 := by rw [oT3]; rfl
 have hcs : rT.ob.cats = [] := by rw [oT3]; rfl
 refine do_any hK 3 (by unfold Wa.i64; decide) B hfT3 (by rw [hth]) (by rw [hF.all]; rfl) rT hT3 (by rw [hcs]; decide) askWrite 0 ⟨_, _, _, rfl⟩ ⟨_, _, _, rfl⟩ 78 rowOf_write (enters_of Tryz.func78 (by kernel_rfl) rfl) 0 0 ⟨#[]⟩ (fun K' => K'.kb = K.kb /\ LK K' [97, 98, 0, 0, 0, 0, 0, 0]) ?_
 intro W1 cb v hb hC hcb hLv
 rw [hdf, hcs] at hLv
 rw [hdf] at hC
 have hK1 := hK.below hb
 have h5 := write_ok (lo := lo) hC hK1 (by show Ho.i64 1; unfold Ho.i64; decide) (by show Ho.i64 10; unfold Ho.i64; decide) rR rS hT1 (by rw [oR1]) (by rw [oR1]; decide) [] hLv (by rw [oR1]; show Pa.seesS 2 2 [] [] = true; decide) (fun q hq => by rw [Option.some.inj (hq.symm.trans hT1), oR1]; decide) (by show Ho.entE K.T 1 10 = 0; unfold Ho.entE; rw [hT1]; simp only [oR1]; decide) hTS (by rw [oS1]; decide) (by rw [oS1]; rfl) (by rw [oS1]; rfl) C hfS (by rw [oS1]; show Pa.altersS 2 2 [] [] = true; decide) (by show (0 : Int) <= _; decide) (by show 2 < _; decide) (by show Pg.fitsB (K.sd 10).length 0 2 = true; rw [hF.sd]; decide)
 refine h5.mono ?_
 rintro e W' ⟨K', rfl, hK', ⟨own', rfl⟩, hbl, hkp⟩
 refine ⟨rfl, _, hK', ⟨rfl, ?_⟩, hbl, hkp⟩
 exact ⟨⟨rR, hT1, oR1⟩, ⟨rT, hT3, oT3⟩, ⟨rS, hTS, oS1⟩, ⟨C, hfS⟩, by show Pg.over (K.sd 10) 0 [97, 98] = _; rw [hF.sd]; decide, ⟨B, hfT3⟩, hF.th, hF.all⟩
theorem do_read {lo : Nat} {W : World} {K : Kn} (hK : KAt lo W K) (hF : LK K [97, 98, 0, 0, 0, 0, 0, 0]) :
 Calls Tryz.prog 11 #[.pointer (some ⟨K.kb, 0, none⟩), .int .i64 3, askV askRead, .int .i64 0] W fun e W' => e = .returned (.tuple #[tdV 0 ⟨#[97, 98, 0]⟩, .int .i64 0]) /\ ∃ K', KAt lo W' K' /\ (K'.kb = K.kb /\ LK K' [97, 98, 0, 0, 0, 0, 0, 0]) /\ Below lo W W' /\ ∀ k, k < W.heap.size -> K.own k = none -> W'.heap[k]? = W.heap[k]? /\ K'.own k = none := by
 obtain ⟨rT, hT3, oT3⟩ := hF.tT
 obtain ⟨rR, hT1, oR1⟩ := hF.tR
 obtain ⟨rS, hTS, oS1⟩ := hF.tS
 obtain ⟨B, hfT3⟩ := hF.fT
 obtain ⟨C, hfS⟩ := hF.fS
 have hth : K.th 3 = ⟨4, .slice none 0 0, [], 0, 0, List.replicate 17 0, false⟩ := by rw [hF.th]
 have hdf : rT.ob.df = 2 := by rw [oT3]; rfl
 have hcs : rT.ob.cats = [] := by rw [oT3]; rfl
 refine do_any hK 3 (by unfold Wa.i64; decide) B hfT3 (by rw [hth]) (by rw [hF.all]; rfl) rT hT3 (by rw [hcs]; decide) askRead 0 ⟨_, _, _, rfl⟩ ⟨_, _, _, rfl⟩ 77 rowOf_read (enters_of Tryz.func77 (by kernel_rfl) rfl) 0 0 ⟨#[97, 98, 0]⟩ (fun K' => K'.kb = K.kb /\ LK K' [97, 98, 0, 0, 0, 0, 0, 0]) ?_
 intro W1 cb v hb hC hcb hLv
 rw [hdf, hcs] at hLv
 rw [hdf] at hC
 have hK1 := hK.below hb
 have h5 := read_ok (lo := lo) hC hK1 (by show Ho.i64 1; unfold Ho.i64; decide) (by show Ho.i64 10; unfold Ho.i64; decide) rR rS hT1 (by rw [oR1]) (by rw [oR1]; decide) [] hLv (by rw [oR1]; show Pa.seesS 2 2 [] [] = true; decide) (fun q hq => by rw [Option.some.inj (hq.symm.trans hT1), oR1]; decide) (by show Ho.entE K.T 1 10 = 0; unfold Ho.entE; rw [hT1]; simp only [oR1]; decide) hTS (by rw [oS1]; decide) (by rw [oS1]; rfl) (by rw [oS1]; rfl) C hfS (by rw [oS1]; show Pa.seesS 2 2 [] [] = true; decide) 0 3 rfl rfl (by show 0 + 3 <= (K.sd 10).length; rw [hF.sd]; decide)
 refine h5.mono ?_
 rintro e W' ⟨rfl, hbl⟩
 refine ⟨?_, K, hK1.below hbl, ⟨rfl, hF⟩, hbl.mono (Nat.le_trans hK.lo_le hb.size), fun k hk ho => ⟨hbl.block k hk, ho⟩⟩
 show Ending.returned (.tuple #[.agg #[.int .i64 0, .string ⟨(((K.sd 10).drop 0).take 3).toArray⟩, .int .i64 0, .slice none 0 0, .int .i64 0, .slice none 0 0, .slice none 0 0, .slice none 0 0], .int .i64 0]) = _
 rw [hF.sd]
 rfl
theorem do_none {lo : Nat} {W : World} {K : Kn} {d : List UInt8} (hK : KAt lo W K) (hF : LK K d) :
 Calls Tryz.prog 11 #[.pointer (some ⟨K.kb, 0, none⟩), .int .i64 3, askV askNone, .int .i64 0] W fun e W' => e = .returned (.tuple #[tdV 0 ⟨#[]⟩, .int .i64 4]) /\ ∃ K', KAt lo W' K' /\ (K'.kb = K.kb /\ LK K' d) /\ Below lo W W' /\ ∀ k, k < W.heap.size -> K.own k = none -> W'.heap[k]? = W.heap[k]? /\ K'.own k = none := by
 obtain ⟨rT, hT3, oT3⟩ := hF.tT
 obtain ⟨rR, hT1, oR1⟩ := hF.tR
 obtain ⟨B, hfT3⟩ := hF.fT
 have hth : K.th 3 = ⟨4, .slice none 0 0, [], 0, 0, List.replicate 17 0, false⟩ := by rw [hF.th]
 have hdf : rT.ob.df = 2 := by rw [oT3]; rfl
 have hcs : rT.ob.cats = [] := by rw [oT3]; rfl
 refine do_any hK 3 (by unfold Wa.i64; decide) B hfT3 (by rw [hth]) (by rw [hF.all]; rfl) rT hT3 (by rw [hcs]; decide) askNone 0 ⟨_, _, _, rfl⟩ ⟨_, _, _, rfl⟩ 77 rowOf_read (enters_of Tryz.func77 (by kernel_rfl) rfl) 0 4 ⟨#[]⟩ (fun K' => K'.kb = K.kb /\ LK K' d) ?_
 intro W1 cb v hb hC hcb hLv
 rw [hdf, hcs] at hLv
 rw [hdf] at hC
 have hK1 := hK.below hb
 have h5 := read_none (lo := lo) hC hK1 (by show Ho.i64 1; unfold Ho.i64; decide) (by show Ho.i64 11; unfold Ho.i64; decide) rR hT1 (by rw [oR1]) (by rw [oR1]; decide) [] hLv (by rw [oR1]; show Pa.seesS 2 2 [] [] = true; decide) (fun q hq => by rw [Option.some.inj (hq.symm.trans hT1), oR1]; decide) (by show (Ho.entE K.T 1 11 == 0) = false; unfold Ho.entE; rw [hT1]; simp only [oR1]; decide)
 refine h5.mono ?_
 rintro e W' ⟨rfl, hbl⟩
 exact ⟨rfl, K, hK1.below hbl, ⟨rfl, hF⟩, hbl.mono (Nat.le_trans hK.lo_le hb.size), fun k hk ho => ⟨hbl.block k hk, ho⟩⟩
set_option maxRecDepth 100000 in
set_option maxHeartbeats 4000000 in
theorem Object_thr {lo : Nat} {W : World} {K : Kn} (hK : KAt lo W K) (x : Int) (hx : Ho.i64 x) (r : Ho.Rc) (hT : K.T x = some r) (hk : r.ob.kind = 4) (hm : r.ob.cats.length <= 16) (hid : r.ob.id = x) (B : Nat) (hfT : K.fT (Wa.ky x) = some B) (hth : K.th x = ⟨4, .slice none 0 0, [], 0, 0, List.replicate 17 0, false⟩) (hw : Wa.whereA K.all x = none) (hal : K.al x = []) :
 Calls Tryz.prog 25 #[.pointer (some ⟨K.kb, 0, none⟩), .int .i64 x] W fun e W' => ∃ p cap, e = .returned (.tuple #[.agg (tellT r.ob p cap).cs, .bool true]) /\ (Vw.CatsAt W' p r.ob.cats /\ (p = none -> cap = 0)) /\ Below W.heap.size W W' := by
 have Hid' := Lib.hid hid
 have HfT := Lib.hid hfT
 have Hth := Lib.hid hth
 have Hw := Lib.hid hw
 have Hal := Lib.hid hal
 have Hown := Lib.hid (fun k (hk : W.heap.size <= k) => own_ge hK hk)
 clear hid hfT hth hw hal
 have HKX := Lib.hid (fun X (hX : Below W.heap.size W X) => hK.below hX)
 have hkz : K.kb < W.heap.size := (Array.getElem?_eq_some_iff.1 hK.blk).1
 have HI := Lib.hid infoO
 have Hm : Hid (r.ob.cats.length * 16 <= 140737488355328) := Lib.hid (by omega)
 have HT := Lib.hid hT
 have Hkz := Lib.hid hkz
 clear hK hT hkz
 go_enter Tryz.func25, Tryz.ntmps25
 go_upto_region 1 with fail
 refine wp_new_block W _ _ 38 rfl (fun X0 Z4 hz4 hb0 hA4 hs0 => ?_)
 obtain ⟨b4, hb4⟩ : ∃ b4, W.heap.size = b4 := ⟨_, rfl⟩
 have HKX0 := HKX.out X0 hb0
 have k0 : X0.cell? ⟨K.kb, 0, none⟩ = some (.pointer (some ⟨K.tb, 0, none⟩)) := HKX0.cell 0
 have HInfo := Lib.hid (Ho.Info_any HKX0.tab x hx r HT.out Hm.out)
 have HB0 := Lib.hid hb0
 rw [hb4] at hA4 hs0 |-
 have HA4 := Lib.hid hA4
 have Hz4 := Lib.hid hz4
 have Hs0 : Hid (b4 < X0.heap.size) := Lib.hid (by omega)
 have Hb4 := Lib.hid hb4
 clear HKX0 hb0 hA4 hs0 hb4 hz4
 go_wp2_with (go_at_call 48; refine HInfo.out.mono ?_; rintro e W2 ⟨v, rfl, ⟨sp, c, rfl, hrow⟩, hb2⟩; refine Hid.out ?_)
 refine Lib.hid ?_
 have HB2 := Lib.hid (HB0.out.trans (hb2.mono HB0.out.size))
 have HA42 := Lib.hid (HA4.out.below hb2 Hs0.out)
 have Hs2 := Lib.hid (Nat.lt_of_lt_of_le Hs0.out hb2.size)
 obtain ⟨hc1, hc2, hc3⟩ := cats_of hrow
 have Hrow := Lib.hid hc1
 have Hcn := Lib.hid hc2
 have Hcl : Hid (∀ a, sp = some a -> b4 < a.block /\ a.block < W2.heap.size) := Lib.hid (fun a ha => ⟨Nat.lt_of_lt_of_le Hs0.out (hc3 a ha).1, (hc3 a ha).2⟩)
 clear hb2 HA4 Hs0 HB0 HInfo k0 hrow hc1 hc2 hc3
 unfold Ho.infoV
 go_upto_region 4 with fail
 obtain ⟨X2, hX2⟩ : ∃ X2, W2.alloc (.cells #[.int .i64 r.ob.id, .int .i64 4, .int .i64 r.ob.quota, .int .i64 r.ob.used, .int .i64 r.ob.links, .int .i64 r.ob.df, .slice sp r.ob.cats.length c] 89) = X2 := ⟨_, rfl⟩
 have hx2 : Below W2.heap.size W2 X2 := by rw [<- hX2]; exact (Below.refl _ _).alloc (Nat.le_refl _) _
 have hi6 : X2.heap[W2.heap.size]? = some (.cells #[.int .i64 r.ob.id, .int .i64 4, .int .i64 r.ob.quota, .int .i64 r.ob.used, .int .i64 r.ob.links, .int .i64 r.ob.df, .slice sp r.ob.cats.length c] 89 (0, 0)) := by rw [<- hX2]; exact heap_alloc_new _ _
 obtain ⟨i6, hi6e⟩ : ∃ i6, W2.heap.size = i6 := ⟨_, rfl⟩
 rw [hi6e] at hi6
 rw [hX2, hi6e]
 have HB3 := Lib.hid (HB2.out.trans (hx2.mono HB2.out.size))
 have Hz26 : Hid (W2.heap.size <= X2.heap.size) := Lib.hid hx2.size
 have HA43 := Lib.hid (HA42.out.below hx2 Hs2.out)
 have Hs3 := Lib.hid (Nat.lt_of_lt_of_le Hs2.out hx2.size)
 have Hrow3 := Lib.hid (cats_later Hrow.out hx2)
 have q0 : X2.cell? ⟨i6, 0, none⟩ = some (.int .i64 r.ob.id) := by simp [World.cell?, hi6]
 have q1 : X2.cell? ⟨i6, 1, none⟩ = some (.int .i64 4) := by simp [World.cell?, hi6]
 have q1k : r.ob.kind = 4 := hk
 have q2 : X2.cell? ⟨i6, 2, none⟩ = some (.int .i64 r.ob.quota) := by simp [World.cell?, hi6]
 have q3 : X2.cell? ⟨i6, 3, none⟩ = some (.int .i64 r.ob.used) := by simp [World.cell?, hi6]
 have q4 : X2.cell? ⟨i6, 4, none⟩ = some (.int .i64 r.ob.links) := by simp [World.cell?, hi6]
 have q5 : X2.cell? ⟨i6, 5, none⟩ = some (.int .i64 r.ob.df) := by simp [World.cell?, hi6]
 have q6 : X2.cell? ⟨i6, 6, none⟩ = some (.slice sp r.ob.cats.length c) := by simp [World.cell?, hi6]
 have Hq1 : Hid (∀ X, Below X2.heap.size X2 X -> X.cell? ⟨i6, 1, none⟩ = some (.int .i64 4)) := Lib.hid (fun X hX => (hX.cell (p := ⟨i6, 1, none⟩) (Array.getElem?_eq_some_iff.1 hi6).1).trans q1)
 clear hX2 hx2 hi6 hi6e HB2 HA42 Hs2 Hrow
 obtain ⟨o, ho⟩ : ∃ o, tellO r.ob sp c = o := ⟨_, rfl⟩
 have HL : Hid (o.cl.toArray = #[.int .i64 r.ob.id, .int .i64 4, .int .i64 r.ob.quota, .int .i64 r.ob.used, .int .i64 r.ob.links, .int .i64 r.ob.df, .slice sp r.ob.cats.length c, .slice none 0 0, .string ⟨#[]⟩, .slice none 0 0, .int .i64 0, .slice none 0 0, .int .i64 0, .int .i64 0, .int .u64 0, .int .u64 0, .int .u64 0, .int .u64 0, .int .u64 0, .int .u64 0, .int .u64 0, .int .u64 0, .int .u64 0, .int .u64 0, .int .u64 0, .int .u64 0, .int .u64 0, .int .u64 0, .int .u64 0, .int .u64 0, .int .u64 0, .int .u64 0, .int .i64 0, .int .i64 0, .int .i64 0, .slice none 0 0, .string ⟨#[]⟩, .string ⟨#[]⟩]) := Lib.hid (by rw [<- ho]; unfold tellO Vw.Ob.cl Vw.Ob.hd Vw.Ob.tl; rw [hk]; rfl)
 have Hl : Hid (o.cl.length = 38) := Lib.hid (by rw [<- ho]; rfl)
 have HOo := Lib.hid ho
 clear ho q1k
 go_upto_region 6 with fail
 go_wp2_with (refine Rg.wpList_store_new X2 _ _ rfl _ _ _ rfl o.cl rfl (congrArg Value.agg HL.out.symm) (by rw [Hl.out]; rfl) (by rw [Hl.out]; exact HI.out) (cl_one o) (fun W4 hb4 hA8 hs4 => ?_); refine Hid.out ?_)
 refine Lib.hid ?_
 obtain ⟨b8, hb8⟩ : ∃ b8, X2.heap.size = b8 := ⟨_, rfl⟩
 have HB4 := Lib.hid (HB3.out.trans (hb4.mono HB3.out.size))
 have HA44 := Lib.hid (HA43.out.below hb4 Hs3.out)
 have Hs4 := Lib.hid (Nat.lt_of_lt_of_le Hs3.out hb4.size)
 have q1 := Hq1.out W4 hb4
 have Hc4 := Lib.hid (cats_later Hrow3.out hb4)
 have hne : b8 ≠ b4 := by have := Hs3.out; omega
 have Hne := Lib.hid hne
 have Hb8' : Hid (W.heap.size <= b8) := Lib.hid (by have := HB3.out.size; omega)
 have Hb8 : Hid (W.heap.size <= b8) := Lib.hid (by have := HB3.out.size; omega)
 have Hc8 : Hid (∀ a, sp = some a -> a.block ≠ b4 /\ a.block ≠ b8) := Lib.hid (fun a ha => by have := Hcl.out a ha; have := Hz26.out; omega)
 have HK4 := HKX.out W4 HB4.out
 rw [hb8] at hA8 hs4 |-
 have HA8 := Lib.hid hA8
 have Hs8 : Hid (b8 < W4.heap.size) := Lib.hid (by omega)
 clear hb4 hA8 hs4 hb8 hne HB3 HA43 Hs3 Hq1 Hrow3 q0 q2 q3 q4 q5 q6
 have HTT := Lib.hid (tellThread_new HK4 x hx B HfT.out Hth.out Hw.out Hal.out r.ob sp c Hid'.out b8 (Hown.out b8 Hb8.out) (by rw [HOo.out]; exact HA8.out))
 clear HK4
 go_upto_region 15 with fail
 go_wp2_with (go_at_call 53; refine HTT.out.mono ?_; rintro e X ⟨rfl, hO, hA⟩; refine Hid.out ?_)
 refine Lib.hid ?_
 obtain ⟨o2, ho2⟩ : ∃ o2, tellT r.ob sp c = o2 := ⟨_, rfl⟩
 have Hl2 : Hid (o2.cl.length = 38) := Lib.hid (by rw [<- ho2]; rfl)
 rw [ho2] at hA
 have HO2 := Lib.hid ho2
 clear ho2 HTT
 have hA4x : Rg.At X b4 0 Z4 := HA44.out.of_block (hO.block b4 Hs4.out Hne.out.symm)
 have HBX : Hid (Below W.heap.size W X) := Lib.hid (hO.below HB4.out Hb8.out (Nat.le_refl _))
 have H8 : Hid (Rg.At X b8 0 o2.cl) := Lib.hid hA
 have HR := Lib.hid (store_all hA4x (cs := o2.cl) (by rw [Hz4.out, Hl2.out]))
 have HTh := Lib.hid (there_of hA4x (cs := o2.cl) (by rw [Hz4.out, Hl2.out]))
 have HC := Lib.hid (cats_oth Hc4.out (P := fun k => k ≠ b8) (fun a ha => (Hc8.out a ha).2) (fun k h0 hk => hO.block k h0 hk) hO.size)
 have HIs : Hid ((Tryz.prog.info? 91).map (·.size) = some o2.cl.toArray.size) := Lib.hid (by rw [List.size_toArray, Hl2.out]; exact HI.out)
 have HIl : Hid ((Tryz.prog.info? 91).map (·.size) = some o2.cl.length) := Lib.hid (by rw [Hl2.out]; exact HI.out)
 have HOne : Hid (o2.cl.toArray.all (·.oneCell') = true) := Lib.hid (all_oneCell_toArray (cl_one o2))
 clear hO hA hA4x q1 HL
 go_upto_region 22 with fail
 go_wp2_with (first
  | (refine wpList_load_mid rfl 91 _ rfl b8 0 rfl o2.cl _ H8.out.rng Tryz.underlying91 rfl HIl.out ?_)
  | (refine wpList_store_mid rfl 91 _ _ rfl b4 0 o2.cl.toArray rfl rfl HTh.out HIs.out HOne.out ?_; rw [List.toList_toArray]))
 have hb9 : Below W.heap.size W (X.setCells b4 0 o2.cl) := Go.below_setCells (show W.heap.size <= b4 from Nat.le_of_eq Hb4.out) o2.cl 0 X HBX.out
 refine bodyPost_ret (v := .tuple #[.agg o2.cs, .bool true]) (results_cell_tmp Tryz.results25 _ _ b4 o2.cl _ rfl HR.out.rng Tryz.underlying91 rfl HIl.out) rfl ?_
 exact ⟨sp, c, by rw [HO2.out], ⟨cats_oth HC.out (P := fun k => k ≠ b4) (fun a ha => (Hc8.out a ha).1) (fun k h0 hk => (Rg.Oth.setCells b4 0 X o2.cl).block k h0 hk) (Rg.Oth.setCells b4 0 X o2.cl).size, Hcn.out⟩, hb9⟩
end Go.Proofs.YtmgfakfiiaeofaaGreat
namespace Go.Proofs.YtmgfakfiiaeofaaGreat.Ho
open Go.RowKit Go.Sort
theorem Level_any (n : Int) (w : World) : Calls Tryz.prog 157 #[.int .i64 n] w fun e w' => e = .returned (.bool (lev n)) /\ w' = w := by
 by_cases h1 : 0 <= n <;> by_cases h2 : n <= 5 <;>
 · go_enter Tryz.func157, Tryz.ntmps157
   go_wp2
   go_ret
   exact ⟨by simp [lev, h1, h2], rfl⟩
theorem Cat_any (n : Int) (w : World) : Calls Tryz.prog 40 #[.int .i64 n] w fun e w' => e = .returned (.bool (isCt n)) /\ w' = w := by
 by_cases h1 : 1 <= n <;> by_cases h2 : n <= 2305843009213693951 <;>
 · go_enter Tryz.func40, Tryz.ntmps40
   go_wp2
   go_ret
   exact ⟨by simp [isCt, h1, h2], rfl⟩
set_option maxHeartbeats 400000 in
theorem refRight_any (d : Int) (p : Option Addr) (cap : Nat) (xs : List (Int × Int)) (w : World) (hm : xs.length <= maxLen) (hc : CatsAt w p xs) :
 Calls Tryz.prog 100 #[.agg #[.int .i64 d, .slice p xs.length cap]] w fun e w' => e = .returned (.bool (rightS d xs)) /\ Below w.heap.size w w' := by
 unfold maxLen at hm
 by_cases h1 : lev d = true
 · by_cases h2 : xs.length <= 16
   · have h2' : ¬ (16 : Int) < (xs.length : Int) := by omega
     have hW1 : Below w.heap.size w (w.alloc (.cells #[.int .i64 d, .slice p xs.length cap] 46)) := (Below.refl _ _).alloc (Nat.le_refl _) _
     go_enter Tryz.func100, Tryz.ntmps100
     go_wp2_with (first | (go_at_call 157; refine (Level_any _ _).mono ?_; rintro e w' ⟨rfl, rfl⟩))
     go_loopw [18] (fun i wr => ∃ k : Nat, k <= xs.length /\ i = .int .i64 k /\ rOk d 0 xs = rOk d (lastAt xs k) (xs.drop k) /\ Below (w.heap.size + 1) (w.alloc (.cells #[.int .i64 d, .slice p xs.length cap] 46)) wr) (fun i _ => xs.length - (intOf i).toNat)
     case atStart => exact ⟨0, Nat.zero_le _, rfl, by simp [lastAt], Below.refl _ _⟩
     case round =>
      obtain ⟨k, hk, rfl, hr, hb⟩ := hrel
      have HR : Hid (rOk d 0 xs = rOk d (lastAt xs k) (xs.drop k)) := hr; clear hr
      by_cases hlt : k < xs.length
      · have b0 : wr.cell? ⟨w.heap.size, 0, none⟩ = some (.int .i64 d) := (hb.cell (p := ⟨w.heap.size, 0, none⟩) (by simp)).trans (by simp [go_sem])
        have b1 : wr.cell? ⟨w.heap.size, 1, none⟩ = some (.slice p xs.length cap) := (hb.cell (p := ⟨w.heap.size, 1, none⟩) (by simp)).trans (by simp [go_sem])
        have hz : w.heap.size < wr.heap.size := by have := hb.size; simp at this; omega
        have hB : Below w.heap.size w wr := hW1.trans (hb.mono (by omega))
        have hsz : w.heap.size <= wr.heap.size := hB.size
        have HS : Hid (rOk d (lastAt xs k) (xs.drop k) = (can xs[k] && !(xs[k].2 == d) && !(decide (xs[k].1 <= lastAt xs k)) && rOk d xs[k].1 (xs.drop (k + 1)))) := rOk_step d _ xs k hlt
        have HL : Hid (lastAt xs (k + 1) = xs[k].1) := lastAt_succ xs k hlt
        by_cases h3 : isCt xs[k].1 = true
        · by_cases h4 : lev xs[k].2 = true
          · by_cases h5 : (xs[k].2 == d) = true
            · obtain ⟨b, off, rfl, hbl, c0, c1⟩ := hc.get hb hW1 (by omega) k hlt
              clear hc
              go_wp2
              go_quiet ((first | (go_at_call 40; exact Calls.quiet_of_same (Cat_any _ _)) | (go_at_call 157; exact Calls.quiet_of_same (Level_any _ _))))
              go_wp2
              go_ret
              exact ⟨ret_bool (by unfold rightS; rw [HR.out, HS.out]; simp [h5]), bdn (by go_grown) _⟩
            · have h5' : (xs[k].2 == d) = false := by simpa using h5
              by_cases h0 : k = 0
              · have h0' : decide (0 < k) = false := by simp; omega
                have h6 : lastAt xs k < xs[k].1 := by subst h0; simp [lastAt]; simp [isCt] at h3; omega
                clear h0
                obtain ⟨b, off, rfl, hbl, c0, c1⟩ := hc.get hb hW1 (by omega) k hlt
                clear hc
                go_wp2
                go_quiet ((first | (go_at_call 40; exact Calls.quiet_of_same (Cat_any _ _)) | (go_at_call 157; exact Calls.quiet_of_same (Level_any _ _))))
                go_wp2
                go_roundw
                case rel => exact ⟨k + 1, by omega, by go_num, by rw [HR.out, HS.out, HL.out]; simp [can, h3, h4, h5', h6], bdn (by go_grown) _⟩
                case measure => simp [intOf]; omega
              · obtain ⟨m, rfl⟩ : ∃ m, k = m + 1 := ⟨k - 1, by omega⟩
                have HM : Hid (lastAt xs (m + 1) = xs[m].1) := lastAt_succ xs m (by omega)
                obtain ⟨b, off, rfl, hbl, c0, c1⟩ := hc.get hb hW1 (by omega) (m + 1) hlt
                obtain ⟨b2, off2, he, _, c2, _⟩ := hc.get hb hW1 (by omega) m (by omega)
                simp only [Option.some.injEq, Addr.mk.injEq, and_true] at he
                obtain ⟨rfl, rfl⟩ := he
                clear hc
                have hwm : IntKind.i64.wrap (m : Int) = (m : Int) := IntWalk.i64_in _ (by omega)
                have hmi : (m : Int) < (xs.length : Int) := by omega
                have hbz : b < wr.heap.size := by omega
                by_cases h6 : xs[m + 1].1 <= xs[m].1
                · go_wp2
                  go_quiet ((first | (go_at_call 40; exact Calls.quiet_of_same (Cat_any _ _)) | (go_at_call 157; exact Calls.quiet_of_same (Level_any _ _))))
                  go_wp2
                  go_ret
                  exact ⟨ret_bool (by unfold rightS; rw [HR.out, HS.out, HM.out]; simp [h6]), bdn (by go_grown) _⟩
                · go_wp2
                  go_quiet ((first | (go_at_call 40; exact Calls.quiet_of_same (Cat_any _ _)) | (go_at_call 157; exact Calls.quiet_of_same (Level_any _ _))))
                  go_wp2
                  go_roundw
                  case rel => exact ⟨m + 1 + 1, by omega, by go_num, by rw [HR.out, HS.out, HL.out, HM.out]; simp [can, h3, h4, h5', h6], bdn (by go_grown) _⟩
                  case measure => simp [intOf]; omega
          · have h4' : lev xs[k].2 = false := by simpa using h4
            obtain ⟨b, off, rfl, hbl, c0, c1⟩ := hc.get hb hW1 (by omega) k hlt
            clear hc
            go_wp2
            go_quiet ((first | (go_at_call 40; exact Calls.quiet_of_same (Cat_any _ _)) | (go_at_call 157; exact Calls.quiet_of_same (Level_any _ _))))
            go_wp2
            go_ret
            exact ⟨ret_bool (by unfold rightS; rw [HR.out, HS.out]; simp [can, h4']), bdn (by go_grown) _⟩
        · have h3' : isCt xs[k].1 = false := by simpa using h3
          obtain ⟨b, off, rfl, hbl, c0, c1⟩ := hc.get hb hW1 (by omega) k hlt
          clear hc
          go_wp2
          go_quiet ((first | (go_at_call 40; exact Calls.quiet_of_same (Cat_any _ _)) | (go_at_call 157; exact Calls.quiet_of_same (Level_any _ _))))
          go_wp2
          go_ret
          exact ⟨ret_bool (by unfold rightS; rw [HR.out, HS.out]; simp [can, h3']), bdn (by go_grown) _⟩
      · go_wp2
        go_ret
        exact ⟨ret_bool (by unfold rightS; rw [HR.out, List.drop_of_length_le (by omega)]; simp [rOk, h1, h2]), hW1.trans (hb.mono (by omega))⟩
   · have h2' : (16 : Int) < (xs.length : Int) := by omega
     go_enter Tryz.func100, Tryz.ntmps100
     go_wp2_with (first | (go_at_call 157; refine (Level_any _ _).mono ?_; rintro e w' ⟨rfl, rfl⟩))
     go_ret
     exact ⟨ret_bool (by unfold rightS; simp; omega), by go_grown⟩
 · have h1' : lev d = false := by simpa using h1
   go_enter Tryz.func100, Tryz.ntmps100
   go_wp2_with (first | (go_at_call 157; refine (Level_any _ _).mono ?_; rintro e w' ⟨rfl, rfl⟩))
   go_ret
   exact ⟨ret_bool (by unfold rightS; simp [h1']), by go_grown⟩
set_option maxHeartbeats 400000 in
theorem refHas_any (d l : Int) (p : Option Addr) (cap : Nat) (xs : List (Int × Int)) (w : World) (hm : xs.length <= maxLen) (hc : CatsAt w p xs) :
 Calls Tryz.prog 99 #[.agg #[.int .i64 d, .slice p xs.length cap], .int .i64 l] w fun e w' => e = .returned (.bool (hasS d xs l)) /\ Below w.heap.size w w' := by
 unfold maxLen at hm
 have hW1 : Below w.heap.size w (w.alloc (.cells #[.int .i64 d, .slice p xs.length cap] 46)) := (Below.refl _ _).alloc (Nat.le_refl _) _
 go_enter Tryz.func99, Tryz.ntmps99
 go_wp2
 go_loopw [10] (fun i wr => ∃ k : Nat, k <= xs.length /\ i = .int .i64 k /\ hasS d xs l = hasS d (xs.drop k) l /\ Below (w.heap.size + 1) (w.alloc (.cells #[.int .i64 d, .slice p xs.length cap] 46)) wr) (fun i _ => xs.length - (intOf i).toNat)
 case atStart => exact ⟨0, Nat.zero_le _, rfl, by simp, Below.refl _ _⟩
 case round =>
  obtain ⟨k, hk, rfl, hr, hb⟩ := hrel
  have HR : Hid (hasS d xs l = hasS d (xs.drop k) l) := hr; clear hr
  have b0 : wr.cell? ⟨w.heap.size, 0, none⟩ = some (.int .i64 d) := (hb.cell (p := ⟨w.heap.size, 0, none⟩) (by simp)).trans (by simp [go_sem])
  have hB : Below w.heap.size w wr := hW1.trans (hb.mono (by omega))
  have hsz : w.heap.size <= wr.heap.size := hB.size
  by_cases hlt : k < xs.length
  · obtain ⟨b, off, rfl, hbl, c0, c1⟩ := hc.get hb hW1 (by omega) k hlt
    clear hc
    have hz : w.heap.size < wr.heap.size := by have := hb.size; simp at this; omega
    have HS : Hid (hasS d (xs.drop k) l = ((xs[k].2 == l) || hasS d (xs.drop (k + 1)) l)) := hasS_step d l xs k hlt
    by_cases h3 : (xs[k].2 == l) = true
    · go_wp2
      go_ret
      exact ⟨ret_bool (by rw [HR.out, HS.out, h3]; rfl), by go_grown⟩
    · have h3' : (xs[k].2 == l) = false := by simpa using h3
      go_wp2
      go_roundw
      case rel => exact ⟨k + 1, by omega, by go_num, by rw [HR.out, HS.out, h3']; rfl, by go_grown⟩
      case measure => simp [intOf]; omega
  · go_wp2
    go_ret
    exact ⟨ret_bool (by rw [HR.out, List.drop_of_length_le (by omega)]; simp [hasS]), hB⟩
set_option maxHeartbeats 400000 in
theorem refPlain_any (d : Int) (p : Option Addr) (cap : Nat) (xs : List (Int × Int)) (w : World) (hm : xs.length <= maxLen) (hc : CatsAt w p xs) :
 Calls Tryz.prog 43 #[.agg #[.int .i64 d, .slice p xs.length cap]] w fun e w' => e = .returned (.bool (plainS d xs)) /\ Below w.heap.size w w' := by
 have hW1 : Below w.heap.size w (w.alloc (.cells #[.int .i64 d, .slice p xs.length cap] 46)) := (Below.refl _ _).alloc (Nat.le_refl _) _
 have hR := refRight_any d p cap xs _ hm (hc.below hW1)
 by_cases h1 : rightS d xs = true
 · go_enter Tryz.func43, Tryz.ntmps43
   go_wp2_with (first | (go_at_call 100; refine hR.mono ?_; rintro e w1 ⟨rfl, hb⟩; have b0 : w1.cell? ⟨w.heap.size, 0, none⟩ = some (.int .i64 d) := (hb.cell (p := ⟨w.heap.size, 0, none⟩) (by simp)).trans (by simp [go_sem]); have b1 : w1.cell? ⟨w.heap.size, 1, none⟩ = some (.slice p xs.length cap) := (hb.cell (p := ⟨w.heap.size, 1, none⟩) (by simp)).trans (by simp [go_sem]); have hB := hW1.trans (hb.mono (by simp)); have hH := refHas_any d 5 p cap xs _ hm (hc.below hB)) | (go_at_call 99; refine hH.mono ?_; rintro e w2 ⟨rfl, hb2⟩))
   go_ret
   exact ⟨ret_bool (by simp [plainS, h1]), hB.trans (hb2.mono hB.size)⟩
 · have h1' : rightS d xs = false := by simpa using h1
   go_enter Tryz.func43, Tryz.ntmps43
   go_wp2_with (first | (go_at_call 100; refine hR.mono ?_; rintro e w1 ⟨rfl, hb⟩))
   go_ret
   exact ⟨ret_bool (by simp [plainS, h1']), hW1.trans (hb.mono (by simp))⟩
set_option maxHeartbeats 400000 in
theorem refFree_any (d : Int) (p : Option Addr) (cap : Nat) (xs : List (Int × Int)) (w : World) (hm : xs.length <= maxLen) (hc : CatsAt w p xs) :
 Calls Tryz.prog 41 #[.agg #[.int .i64 d, .slice p xs.length cap]] w fun e w' => e = .returned (.bool (freeS d xs)) /\ Below w.heap.size w w' := by
 have hW1 : Below w.heap.size w (w.alloc (.cells #[.int .i64 d, .slice p xs.length cap] 46)) := (Below.refl _ _).alloc (Nat.le_refl _) _
 have hR := refPlain_any d p cap xs _ hm (hc.below hW1)
 by_cases h1 : plainS d xs = true
 · go_enter Tryz.func41, Tryz.ntmps41
   go_wp2_with (first | (go_at_call 43; refine hR.mono ?_; rintro e w1 ⟨rfl, hb⟩; have b0 : w1.cell? ⟨w.heap.size, 0, none⟩ = some (.int .i64 d) := (hb.cell (p := ⟨w.heap.size, 0, none⟩) (by simp)).trans (by simp [go_sem]); have b1 : w1.cell? ⟨w.heap.size, 1, none⟩ = some (.slice p xs.length cap) := (hb.cell (p := ⟨w.heap.size, 1, none⟩) (by simp)).trans (by simp [go_sem]); have hB := hW1.trans (hb.mono (by simp)); have hH := refHas_any d 0 p cap xs _ hm (hc.below hB)) | (go_at_call 99; refine hH.mono ?_; rintro e w2 ⟨rfl, hb2⟩))
   go_ret
   exact ⟨ret_bool (by simp [freeS, h1]), hB.trans (hb2.mono hB.size)⟩
 · have h1' : plainS d xs = false := by simpa using h1
   go_enter Tryz.func41, Tryz.ntmps41
   go_wp2_with (first | (go_at_call 43; refine hR.mono ?_; rintro e w1 ⟨rfl, hb⟩))
   go_ret
   exact ⟨ret_bool (by simp [freeS, h1']), hW1.trans (hb.mono (by simp))⟩
end Go.Proofs.YtmgfakfiiaeofaaGreat.Ho
