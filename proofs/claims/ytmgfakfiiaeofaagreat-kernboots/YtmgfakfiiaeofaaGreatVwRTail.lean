/- The same as Tail, within a round of a range over a function. -/
import Derived.Test.YtmgfakfiiaeofaaGreatHoRefXo
import Derived.Test.YtmgfakfiiaeofaaGreatKTh
import Derived.Test.YtmgfakfiiaeofaaGreatVwOb
import Derived.Lib.Hide
import Derived.Lib.SmallJoins
import Derived.Laws.OwnMore
import Derived.Deep.QuietTactic
import Derived.Laws.StructEq
import Derived.BigFrame
import Derived.OrdersIn
import Derived.TacticsIn
import Derived.RangeFuncCalls
/- What Object of layer 9's reference tells at first. -/
namespace Go.Proofs.YtmgfakfiiaeofaaGreat
open Go.RowKit Go.Sort
def tellR (z : Vw.Ob) (o : Ho.Ob) (p : Option Addr) (cap : Nat) (lp : Option Addr) (lc : Nat) (l : List Int) (ap : Nat) : Vw.Ob :=
 { z with id := o.id, kind := o.kind, quota := o.quota, used := o.used, links := o.links, L := ⟨o.df, p, cap, o.cats⟩, lp := lp, lc := lc, ls := l, ap := some ⟨ap, 0, none⟩, ac := 0, al := [] }
def zOf (r c t : Int) (i : Nat) : Vw.Ob := match i with | 0 => zO r | 1 => zO c | _ => zT t
def zB (id d : Int) : Vw.Ob := { zO id with C := ⟨d, none, 0, []⟩ }
theorem zOf_zB (r c t : Int) (i : Nat) : ∃ id d, zOf r c t i = zB id d := by
 unfold zOf
 split
 · exact ⟨r, 0, rfl⟩
 · exact ⟨c, 0, rfl⟩
 · exact ⟨t, 4, rfl⟩
theorem zOf_len (r c t : Int) (i : Nat) : (zOf r c t i).cl.length = 38 := by
 unfold zOf
 split <;> rfl
theorem all3_rng {W : World} {al : Nat} {r c t : Int} (ha : W.heap[al]? = some (.cells (all3 r c t).toArray 91 (0, 0))) (i : Nat) (hi : i < 3) : W.rangeAt al (i * 38) (zOf r c t i).cl := fun j v hv => by
 have hj : j < 38 := by have := (List.getElem?_eq_some_iff.1 hv).1; rwa [zOf_len] at this
 have e : (zOf r c t i).cl = ((all3 r c t).drop (i * 38)).take 38 := by
  match i, hi with
  | 0, _ => rfl
  | 1, _ => rfl
  | 2, _ => rfl
 rw [e, List.getElem?_take_of_lt hj, List.getElem?_drop] at hv
 simp only [World.cell?, ha]
 rw [List.getElem?_toArray]
 exact hv
set_option maxRecDepth 100000 in
set_option maxHeartbeats 8000000 in
theorem rObject_any {W : World} {lo kb rb rm dr al : Nat} {r c t : Int} {K : List Int} (h : RKS W lo kb rb rm dr (.slice (some ⟨al, 0, none⟩) 3 3) r c t (Ho.A2 r c t)) (ha : W.heap[al]? = some (.cells (all3 r c t).toArray 91 (0, 0))) (hinv : Ho.Inv r (Ho.A2 r c t) K) (x : Int) (i : Nat) (hi : i < 3) (hx : (ids3 r c t).getD i 0 = x) (hno : ∀ j, j < i -> (ids3 r c t).getD j 0 ≠ x) (o : Ho.Ob) (hS : Ho.A2 r c t x = some o) (hcat : o.cats = []) :
 Calls Tryz.prog 26 #[.pointer (some ⟨kb, 0, none⟩), .int .i64 x] W fun e W' => ∃ p cap lp lc ap, e = .returned (.tuple #[.agg (tellR (zOf r c t i) o p cap lp lc (Ho.listS (Ho.A2 r c t) x) ap).cs, .bool true]) /\ Vw.CatsAt W' p o.cats /\ Vw.IntsAt W' lp (Ho.listS (Ho.A2 r c t) x) /\ Below W.heap.size W W' := by
 have HK := Lib.hid h
 have Ha := Lib.hid ha
 have HInv := Lib.hid hinv
 have HS := Lib.hid hS
 have Hcat := Lib.hid hcat
 have HX := Lib.hid hx
 have HN := Lib.hid hno
 have HI := Lib.hid infoO
 have hi3 : (i : Int) < 3 := by omega
 have hin : ¬ (i : Int) < 0 := by omega
 have Hi := Lib.hid hi
 have HKX : Hid (∀ X, Below W.heap.size W X -> RKS X lo kb rb rm dr (.slice (some ⟨al, 0, none⟩) 3 3) r c t (Ho.A2 r c t) /\ X.heap[al]? = some (.cells (all3 r c t).toArray 91 (0, 0))) := Lib.hid (fun X hX => ⟨h.below hX, (hX.block al (Array.getElem?_eq_some_iff.1 ha).1).trans ha⟩)
 clear h ha hinv hS hx hno hi hcat
 go_enter Tryz.func26, Tryz.ntmps26
 go_upto_region 1 with fail
 refine wp_new_block W _ _ 38 rfl (fun X0 Z4 hz4 hb0 hA4 hs0 => ?_)
 obtain ⟨b4, hb4⟩ : ∃ b4, W.heap.size = b4 := ⟨_, rfl⟩
 have hK0 := HKX.out X0 hb0
 have ck2 : X0.cell? ⟨kb, 2, none⟩ = some (.slice (some ⟨al, 0, none⟩) 3 3) := by have := hK0.1.ker; simp [World.cell?, this]
 have HAt := Lib.hid (kAt_any X0 kb al r c t x i Hi.out HX.out HN.out ck2 hK0.2)
 have HRg := Lib.hid (all3_rng hK0.2 i Hi.out)
 have HB0 := Lib.hid hb0
 have hz0 : b4 < X0.heap.size := by omega
 rw [hb4] at hA4 |-
 have HA4 := Lib.hid hA4
 have Hz4 := Lib.hid hz4
 have Hz0 := Lib.hid hz0
 have Hb4 := Lib.hid hb4
 have HzL : Hid ((zOf r c t i).cl.length = 38) := Lib.hid (zOf_len r c t i)
 obtain ⟨id0, d0, hz⟩ := zOf_zB r c t i
 rw [hz] at HRg HzL
 have HZ := Lib.hid hz
 clear hK0 hb0 hA4 hs0 hz4 hz0 hb4 hz
 go_wp2_with (first
  | (go_at_call 55; refine HAt.out.mono ?_; rintro e w1 ⟨rfl, hw1⟩; rw [hw1]; clear hw1 w1)
  | (refine wpList_load_mid rfl 91 _ rfl al (i * 38) rfl (zB id0 d0).cl _ HRg.out Tryz.underlying91 rfl (by rw [HzL.out]; exact HI.out) ?_)
  | (refine Rg.wpList_store_new _ _ _ rfl _ _ _ rfl (zB id0 d0).cl rfl rfl (by rw [HzL.out]; rfl) (by rw [HzL.out]; exact HI.out) (cl_one (zB id0 d0)) (fun W4 hb4' hA7 hs4 => ?_); refine Hid.out ?_))
 refine Lib.hid ?_
 obtain ⟨b7, hb7⟩ : ∃ b7, X0.heap.size = b7 := ⟨_, rfl⟩
 have HB4 := Lib.hid (HB0.out.trans (hb4'.mono HB0.out.size))
 have HA44 := Lib.hid (HA4.out.below hb4' Hz0.out)
 have hne : b7 ≠ b4 := by have := Hz0.out; omega
 have Hne := Lib.hid hne
 have Hb7 : Hid (W.heap.size <= b7) := Lib.hid (by have := HB0.out.size; omega)
 have hK4 := HKX.out W4 HB4.out
 have k0 : W4.cell? ⟨kb, 0, none⟩ = some (.pointer (some ⟨rb, 0, none⟩)) := by have := hK4.1.ker; simp [World.cell?, this]
 obtain ⟨g, cap0, cs, L, hRS, hRel, -, -⟩ := hK4.1.tab
 have HIn := Lib.hid (Ho.rInfo_some hRS hRel HInv.out x HS.out)
 rw [hb7] at hA7 hs4 |-
 have HA7 := Lib.hid hA7
 have Hz7 : Hid (b7 < W4.heap.size) := Lib.hid (by omega)
 have Hz4' : Hid (b4 < W4.heap.size) := Lib.hid (by have := Hz0.out; omega)
 clear hb4' hK4 hRS hRel hA7 hs4 hb7 hne HA4 HB0 HAt HRg Hz0
 go_wp2_with (go_at_call 56; refine HIn.out.mono ?_; rintro e W5 ⟨p, cap, rfl, hC, hb5⟩; refine Hid.out ?_)
 refine Lib.hid ?_
 obtain ⟨i7, hi7⟩ : ∃ i7 : List Value, [.int .i64 o.id, .int .i64 o.kind, .int .i64 o.quota, .int .i64 o.used, .int .i64 o.links, .int .i64 o.df, .slice p o.cats.length cap] = i7 := ⟨_, rfl⟩
 have hia : #[.int .i64 o.id, .int .i64 o.kind, .int .i64 o.quota, .int .i64 o.used, .int .i64 o.links, .int .i64 o.df, .slice p o.cats.length cap] = i7.toArray := by rw [<- hi7]
 have hil : i7.length = 7 := by rw [<- hi7]; rfl
 have hi1 : i7.toArray.all (·.oneCell') = true := all_oneCell_toArray (fun v hv => by rw [<- hi7] at hv; simp only [List.mem_cons, List.not_mem_nil, or_false] at hv; rcases hv with h | h | h | h | h | h | h <;> subst h <;> rfl)
 have hA5 := HA7.out.below hb5 Hz7.out
 have hth : W5.there b7 0 i7.toArray.size := fun j hj => hA5.there j (by rw [HzL.out]; simp [hil] at hj; omega)
 have HI7 : Hid ((Tryz.prog.info? 89).map (·.size) = some i7.toArray.size) := Lib.hid (by rw [List.size_toArray, hil]; exact infoI')
 obtain ⟨z1, hz1⟩ : ∃ z1, ({ zB id0 d0 with id := o.id, kind := o.kind, quota := o.quota, used := o.used, links := o.links, L := ⟨o.df, p, cap, o.cats⟩ } : Vw.Ob) = z1 := ⟨_, rfl⟩
 have HA5 : Hid (Rg.At (W5.setCells b7 0 i7) b7 0 z1.cl) := Lib.hid (put_at hA5 (i := 0) (by rw [HzL.out, hil]; decide) (by rw [<- hz1, <- hi7]; rfl))
 have HA45 : Hid (Rg.At (W5.setCells b7 0 i7) b4 0 Z4) := Lib.hid ((HA44.out.below hb5 Hz4'.out).other _ (.inl Hne.out.symm))
 have HB5 : Hid (Below W.heap.size W (W5.setCells b7 0 i7)) := Lib.hid (Go.below_setCells Hb7.out i7 0 W5 (HB4.out.trans (hb5.mono HB4.out.size)))
 have HO5 : Hid (Rg.Oth b7 W5 (W5.setCells b7 0 i7)) := Lib.hid (Rg.Oth.setCells b7 0 W5 i7)
 have HC5 : Hid (Vw.CatsAt W5 p o.cats) := Lib.hid hC
 have Hth := Lib.hid hth
 have Hi1 := Lib.hid hi1
 have Hz1 := Lib.hid hz1
 have Hz5 : Hid (b7 < W5.heap.size /\ b4 < W5.heap.size) := Lib.hid ⟨Nat.lt_of_lt_of_le Hz7.out hb5.size, Nat.lt_of_lt_of_le Hz4'.out hb5.size⟩
 clear hC hb5 hA5 hth hi1 hil hi7 hz1 HA44 HA7 HIn k0 HB4
 go_wp2_with (refine wpList_store_mid rfl 89 _ _ rfl b7 0 i7.toArray rfl rfl Hth.out HI7.out Hi1.out ?_; rw [List.toList_toArray]; refine Hid.out ?_)
 refine Lib.hid ?_
 obtain ⟨X5, hX5⟩ : ∃ X5, W5.setCells b7 0 i7 = X5 := ⟨_, rfl⟩
 rw [hX5] at HA5 HA45 HB5 HO5 |-
 have HZ5 : Hid (b7 < X5.heap.size /\ b4 < X5.heap.size) := Lib.hid ⟨Nat.lt_of_lt_of_le Hz5.out.1 HO5.out.size, Nat.lt_of_lt_of_le Hz5.out.2 HO5.out.size⟩
 clear hX5 hia
 have hK5 := HKX.out X5 HB5.out
 have k0 : X5.cell? ⟨kb, 0, none⟩ = some (.pointer (some ⟨rb, 0, none⟩)) := by have := hK5.1.ker; simp [World.cell?, this]
 obtain ⟨g0, cap1, cs1, L1, hRS, hRel, -, -⟩ := HK.out.tab
 have hRS5 : Ho.RS X5 rb g0 cap1 cs1 r L1 (fun k => k = kb ∨ k = b7 ∨ k = b4) := hRS.keep (fun k hk _ => HB5.out.block k hk) HB5.out.size (fun k hk => by
  rcases hk with e | e | e
  · exact .inl e
  · exact .inr (by rw [e]; exact Hb7.out)
  · exact .inr (by rw [e]; exact Nat.le_of_eq Hb4.out)) (fun k hk => by
  rcases hk with e | e | e
  · rw [e]; exact (Array.getElem?_eq_some_iff.1 hK5.1.ker).1
  · rw [e]; exact HZ5.out.1
  · rw [e]; exact HZ5.out.2)
 have HLi := Lib.hid (Ho.rList_o hRS5 hRel x)
 obtain ⟨l, hl⟩ : ∃ l, Ho.listS (Ho.A2 r c t) x = l := ⟨_, rfl⟩
 rw [hl] at HLi
 have HLq := Lib.hid hl
 have hz1L : z1.cl.length = 38 := by rw [<- Hz1.out]; rfl
 have f7 := at_fz HA5.out (j := 7) (by rw [hz1L]; decide)
 have c7 := at_cell HA5.out (j := 7) (v := .slice none 0 0) (by rw [<- Hz1.out]; rfl)
 clear hK5 hRS hRS5 hRel hl
 go_wp2_with (go_at_call 57; refine HLi.out.mono ?_; rintro e w6 ⟨lp, lc, rfl, hI6, hF6, hw6⟩; rw [hw6]; clear hw6 w6; refine Hid.out ?_)
 refine Lib.hid ?_
 go_upto_region 7 with fail
 obtain ⟨z2, hz2⟩ : ∃ z2, ({ z1 with lp := lp, lc := lc, ls := l } : Vw.Ob) = z2 := ⟨_, rfl⟩
 obtain ⟨X6, hX6⟩ : ∃ X6, X5.setCell ⟨b7, 7, none⟩ (.slice lp l.length lc) = X6 := ⟨_, rfl⟩
 have HA6 : Hid (Rg.At X6 b7 0 z2.cl) := Lib.hid (by
  rw [<- hX6]
  exact put_at HA5.out (i := 7) (vs := [.slice lp l.length lc]) (by rw [hz1L]; show 7 + 1 <= 38; decide) (by rw [<- hz2, <- Hz1.out]; rfl))
 have HA46 : Hid (Rg.At X6 b4 0 Z4) := Lib.hid (by rw [<- hX6]; exact HA45.out.otherCell _ (.inl Hne.out.symm))
 have HB6 : Hid (Below W.heap.size W X6) := Lib.hid (by rw [<- hX6]; exact HB5.out.setCell (p := ⟨b7, 7, none⟩) Hb7.out _)
 have HO6 : Hid (Rg.Oth b7 X5 X6) := Lib.hid (by rw [<- hX6]; exact Rg.Oth.setCell b7 7 X5 _)
 have HI6 := Lib.hid hI6
 have HF6 := Lib.hid hF6
 have Hz2 := Lib.hid hz2
 rw [hX6]
 have hK6 := HKX.out X6 HB6.out
 have k1 : X6.cell? ⟨kb, 1, none⟩ = some (.pointer (some ⟨rm, 0, none⟩)) := by have := hK6.1.ker; simp [World.cell?, this]
 have HOf := Lib.hid (rOf_nil X6 rm x hK6.1.rms)
 have hz2L : z2.cl.length = 38 := by rw [<- hz2, <- Hz1.out]; rfl
 clear hX6 hI6 hF6 hz2 hK6 k0 f7 c7 HLi HA5 HA45 HB5 hz1L
 go_wp2_with (go_at_call 58; refine HOf.out.mono ?_; rintro e W7 ⟨rfl, hb7'⟩; refine Hid.out ?_)
 refine Lib.hid ?_
 have HZ6 : Hid (b7 < X6.heap.size /\ b4 < X6.heap.size) := Lib.hid ⟨Nat.lt_of_lt_of_le HZ5.out.1 HO6.out.size, Nat.lt_of_lt_of_le HZ5.out.2 HO6.out.size⟩
 have hA7 := HA6.out.below hb7' HZ6.out.1
 have f35 := at_fz hA7 (j := 35) (by rw [hz2L]; decide)
 have c35 := at_cell hA7 (j := 35) (v := .slice none 0 0) (by rw [<- Hz2.out, <- Hz1.out]; rfl)
 have HA7' := Lib.hid hA7
 have HA47 := Lib.hid (HA46.out.below hb7' HZ6.out.2)
 have HB7 : Hid (Below W.heap.size W W7) := Lib.hid (HB6.out.trans (hb7'.mono HB6.out.size))
 have HO7 : Hid (Rg.Oth b7 X5 W7) := Lib.hid (HO6.out.trans (Rg.Oth.of_below hb7'))
 obtain ⟨n6, hn6⟩ : ∃ n6, X6.heap.size = n6 := ⟨_, rfl⟩
 rw [hn6]
 clear hA7 hb7' k1 HOf HA6 HA46 HB6 HO6 hn6
 go_upto_region 8 with fail
 obtain ⟨z3, hz3⟩ : ∃ z3, ({ z2 with ap := some ⟨n6, 0, none⟩, ac := 0, al := [] } : Vw.Ob) = z3 := ⟨_, rfl⟩
 obtain ⟨X8, hX8⟩ : ∃ X8, W7.setCell ⟨b7, 35, none⟩ (.slice (some ⟨n6, 0, none⟩) 0 0) = X8 := ⟨_, rfl⟩
 have HA8 : Hid (Rg.At X8 b7 0 z3.cl) := Lib.hid (by
  rw [<- hX8]
  exact put_at HA7'.out (i := 35) (vs := [.slice (some ⟨n6, 0, none⟩) 0 0]) (by rw [hz2L]; show 35 + 1 <= 38; decide) (by rw [<- hz3, <- Hz2.out, <- Hz1.out]; rfl))
 have HA48 : Hid (Rg.At X8 b4 0 Z4) := Lib.hid (by rw [<- hX8]; exact HA47.out.otherCell _ (.inl Hne.out.symm))
 have HB8 : Hid (Below W.heap.size W X8) := Lib.hid (by rw [<- hX8]; exact HB7.out.setCell (p := ⟨b7, 35, none⟩) Hb7.out _)
 have HO8 : Hid (Rg.Oth b7 X5 X8) := Lib.hid (by rw [<- hX8]; exact HO7.out.trans (Rg.Oth.setCell b7 35 W7 _))
 rw [hX8]
 have hK8 := HKX.out X8 HB8.out
 have k1 : X8.cell? ⟨kb, 1, none⟩ = some (.pointer (some ⟨rm, 0, none⟩)) := by have := hK8.1.ker; simp [World.cell?, this]
 have HAt := Lib.hid (rAt_nil X8 rm x hK8.1.rms)
 have Hl3 : Hid (z3.cl.length = 38) := Lib.hid (by rw [<- hz3, <- Hz2.out, <- Hz1.out]; rfl)
 have Hz3 := Lib.hid hz3
 clear hX8 hK8 hz3 f35 c35 HA7' HA47 HB7 HO7 hz2L
 go_wp2_with (go_at_call 59; refine HAt.out.mono ?_; rintro e w9 ⟨rfl, hw9⟩; rw [hw9]; clear hw9 w9; refine Hid.out ?_)
 refine Lib.hid ?_
 go_upto_region 12 with fail
 have HR := Lib.hid (store_all HA48.out (cs := z3.cl) (by rw [Hz4.out, Hl3.out]))
 have HTh := Lib.hid (there_of HA48.out (cs := z3.cl) (by rw [Hz4.out, Hl3.out]))
 have HIs : Hid ((Tryz.prog.info? 91).map (·.size) = some z3.cl.toArray.size) := Lib.hid (by rw [List.size_toArray, Hl3.out]; exact HI.out)
 have HIl : Hid ((Tryz.prog.info? 91).map (·.size) = some z3.cl.length) := Lib.hid (by rw [Hl3.out]; exact HI.out)
 have HOne : Hid (z3.cl.toArray.all (·.oneCell') = true) := Lib.hid (all_oneCell_toArray (cl_one z3))
 clear k1 HAt
 go_wp2_with (first
  | (refine wpList_load_mid rfl 91 _ rfl b7 0 rfl z3.cl _ HA8.out.rng Tryz.underlying91 rfl HIl.out ?_)
  | (refine wpList_store_mid rfl 91 _ _ rfl b4 0 z3.cl.toArray rfl rfl HTh.out HIs.out HOne.out ?_; rw [List.toList_toArray]))
 have hb9 : Below W.heap.size W (X8.setCells b4 0 z3.cl) := Go.below_setCells (show W.heap.size <= b4 from Nat.le_of_eq Hb4.out) z3.cl 0 X8 HB8.out
 refine bodyPost_ret (v := .tuple #[.agg z3.cs, .bool true]) (results_cell_tmp Tryz.results26 _ _ b4 z3.cl _ rfl HR.out.rng Tryz.underlying91 rfl HIl.out) rfl ?_
 refine ⟨p, cap, lp, lc, n6, ?_, fun j hj => by rw [Hcat.out] at hj; simp at hj, ?_, hb9⟩
 · rw [HLq.out, HZ.out]
   rw [<- Hz3.out, <- Hz2.out, <- Hz1.out]
   rfl
 · rw [HLq.out]
   intro j hj
   obtain ⟨b, off, rfl, hbl, hc⟩ := HI6.out j hj
   have hnb := HF6.out (by omega) _ rfl
   simp only [not_or] at hnb
   have e : (X8.setCells b4 0 z3.cl).heap[b]? = X5.heap[b]? := ((Rg.Oth.setCells b4 0 X8 z3.cl).block b (Nat.lt_of_lt_of_le hbl HO8.out.size) hnb.2.2).trans (HO8.out.block b hbl hnb.2.1)
   refine ⟨b, off, rfl, ?_, ?_⟩
   · exact Nat.lt_of_lt_of_le hbl (Nat.le_trans HO8.out.size (Rg.Oth.setCells b4 0 X8 z3.cl).size)
   · rw [<- hc]; simp only [World.cell?, e]
end Go.Proofs.YtmgfakfiiaeofaaGreat
/- What SameInts and In of the reference answer, for every row of numbers. -/
namespace Go.Proofs.YtmgfakfiiaeofaaGreat.Vw
open Go.RowKit Go.Sort
theorem take_eq {a b : List Int} {k : Nat} (ha : k < a.length) (hb : k < b.length) (h : a.take k = b.take k) (he : a[k] = b[k]) : a.take (k + 1) = b.take (k + 1) := by
 rw [List.take_succ_eq_append_getElem ha, List.take_succ_eq_append_getElem hb, h, he]
theorem take_ne {a b : List Int} {k : Nat} (ha : k < a.length) (hb : k < b.length) (he : ¬ a[k] = b[k]) : a ≠ b := fun e => by subst e; exact he rfl
set_option maxRecDepth 100000 in
set_option maxHeartbeats 1000000 in
theorem SameInts_any (w : World) (p q : Option Addr) (c d : Nat) (a b : List Int) (ha : IntsAt w p a) (hb : IntsAt w q b) (hla : a.length <= maxLen) :
 Calls Tryz.prog 22 #[.slice p a.length c, .slice q b.length d] w fun e w' => e = .returned (.bool (a == b)) /\ Below w.heap.size w w' := by
 unfold maxLen at hla
 by_cases hl : a.length = b.length
 · have HL := Lib.hid hl
   have hli : ¬ ((a.length : Int) ≠ (b.length : Int)) := by omega
   have hlb : ((a.length : Int) != (b.length : Int)) = false := by simp [hl]
   clear hl
   go_enter Tryz.func22, Tryz.ntmps22
   go_wp2_with fail
   go_loopw [13] (fun y wr => ∃ k : Nat, y = .int .i64 k /\ k <= a.length /\ a.take k = b.take k /\ Below w.heap.size w wr) (fun y _ => (a.length - (RowKit.intOf y).toNat))
   case atStart => exact ⟨0, rfl, Nat.zero_le _, rfl, Below.refl _ _⟩
   case round =>
    obtain ⟨k, rfl, hk, htk, hB⟩ := hrel
    have HTK := Lib.hid htk
    have HBw := Lib.hid hB
    clear htk
    by_cases hlt : k < a.length
    · have hltb : k < b.length := by have := HL.out; omega
      have hki : (k : Int) < (a.length : Int) := by omega
      have hkj : (k : Int) < (b.length : Int) := by omega
      obtain ⟨ga, oa, rfl, hga, cga⟩ := ha k hlt
      obtain ⟨gb, ob, rfl, hgb, cgb⟩ := hb k hltb
      have d0 : ∀ n, (wr.drewN n).cell? ⟨ga, oa + k, none⟩ = some (.int .i64 a[k]) := fun n => show wr.cell? _ = _ from (hB.cell (p := ⟨ga, oa + k, none⟩) hga).trans cga
      have d1 : ∀ n, (wr.drewN n).cell? ⟨gb, ob + k, none⟩ = some (.int .i64 b[k]) := fun n => show wr.cell? _ = _ from (hB.cell (p := ⟨gb, ob + k, none⟩) hgb).trans cgb
      have HTE := fun e => Lib.hid (take_eq hlt hltb HTK.out e)
      have HNE := fun e => Lib.hid (take_ne hlt hltb e)
      obtain ⟨xa, hxa⟩ : ∃ xa, a[k] = xa := ⟨_, rfl⟩
      obtain ⟨xb, hxb⟩ : ∃ xb, b[k] = xb := ⟨_, rfl⟩
      simp only [hxa] at d0 HTE HNE
      simp only [hxb] at d1 HTE HNE
      clear ha hb cga cgb hB hxa hxb
      by_cases he : xa = xb
      · have heb : (xa != xb) = false := by simp [he]
        have HT2 := HTE he
        have heq : (xa == xb) = true := by simp [he]
        clear HTE HNE
        go_wp2_with fail
        go_quiet (fail)
        go_wp2_with fail
        go_roundw
        case rel => exact ⟨k + 1, by go_num, by omega, HT2.out, HBw.out.trans ⟨rfl, rfl, rfl, Nat.le_refl _, fun _ _ => rfl⟩⟩
        case measure => simp [RowKit.intOf]; omega
      · have heb : (xa != xb) = true := by simp [he]
        have HN2 := HNE he
        clear HTE HNE
        go_wp2_with fail
        go_quiet (fail)
        go_wp2_with fail
        go_ret
        exact ⟨by rw [show (a == b) = false from by simpa using HN2.out]; rfl, HBw.out.trans ⟨rfl, rfl, rfl, Nat.le_refl _, fun _ _ => rfl⟩⟩
    · obtain rfl : k = a.length := by omega
      have hkk : ¬ (a.length : Int) < (a.length : Int) := by omega
      have hee : a = b := by have := HTK.out; rw [List.take_length, HL.out, List.take_length] at this; exact this
      have HEE := Lib.hid hee
      clear hee ha hb hB
      go_wp2_with fail
      go_ret
      exact ⟨by rw [show (a == b) = true from by simpa using HEE.out]; rfl, HBw.out⟩
 · have hli : ((a.length : Int) ≠ (b.length : Int)) := by omega
   have hlb : ((a.length : Int) != (b.length : Int)) = true := by simpa using hli
   have HNE : Hid ((a == b) = false) := by
    show (a == b) = false
    simp only [beq_eq_false_iff_ne, ne_eq]
    intro e; exact hl (by rw [e])
   clear ha hb hl
   go_enter Tryz.func22, Tryz.ntmps22
   go_wp2_with fail
   go_ret
   exact ⟨by rw [HNE.out]; rfl, Below.refl _ _⟩

theorem sz_u64 (w : World) : (Go.sizeOf 65).run Tryz.prog w = .ok 1 w := by
 obtain ⟨i, hi⟩ := Option.isSome_iff_exists.1 (show (Tryz.prog.info? 65).isSome = true by kernel_rfl)
 have hs : (Tryz.prog.info? 65).map (·.size) = some 1 := by kernel_rfl
 rw [hi] at hs
 simp only [Option.map_some, Option.some.injEq] at hs
 simp [Go.sizeOf, typeInfo, hi, hs]
def u16 (xs ys : List Int) : Bool := (List.range' 0 16 1).all fun i => xs.getD i 0 == ys.getD i 0
theorem eq_u64s (d : Nat) (xs ys : List Int) (hx : xs.length = 16) (hy : ys.length = 16) (w : World) : (Op.equalIn (d + 2) 66 (.agg (xs.map (Value.int .u64)).toArray) (.agg (ys.map (Value.int .u64)).toArray)).run Tryz.prog w = .ok (u16 xs ys) w := by
 rw [Op.equalIn]
 simp only [Sem.run_bind, run_underlying Tryz.underlying66, Result.andThen_ok, sz_u64, Std.Legacy.Range.forIn_eq_forIn_range', Std.Legacy.Range.size, Nat.sub_zero, Nat.add_sub_cancel, Nat.div_one]
 unfold u16
 have hl : ∀ i ∈ List.range' 0 16 1, i < 16 := fun i hi => by simpa using (List.mem_range'_1.1 hi).2
 generalize List.range' 0 16 1 = l at hl |-
 induction l with
 | nil => simp
 | cons i l ih =>
  have hi : i < 16 := hl i (by simp)
  have px : (part 65 (xs.map (Value.int .u64)).toArray (i * 1)).run Tryz.prog w = .ok (.int .u64 (xs.getD i 0)) w := by
   simp [part, isAgg, run_underlying Tryz.underlying65, List.getD, List.getElem?_eq_getElem (show i < xs.length by omega)]
  have py : (part 65 (ys.map (Value.int .u64)).toArray (i * 1)).run Tryz.prog w = .ok (.int .u64 (ys.getD i 0)) w := by
   simp [part, isAgg, run_underlying Tryz.underlying65, List.getD, List.getElem?_eq_getElem (show i < ys.length by omega)]
  have pe : (Op.equalIn (d + 1) 65 (.int .u64 (xs.getD i 0)) (.int .u64 (ys.getD i 0))).run Tryz.prog w = .ok (xs.getD i 0 == ys.getD i 0) w := by
   rw [run_equalIn_int w d 65 .u64 .u64 _ _ Tryz.underlying65]
  cases hb : (xs.getD i 0 == ys.getD i 0) with
  | true =>
   rw [hb] at pe
   rw [List.all_cons, hb, Bool.true_and]
   simp only [List.forIn_cons, Sem.run_bind, px, py, pe, Result.andThen_ok, Bool.not_true, Bool.false_eq_true, if_false, Sem.run_pure]
   exact ih fun j hj => hl j (by simp [hj])
  | false =>
   rw [hb] at pe
   rw [List.all_cons, hb, Bool.false_and]
   simp only [List.forIn_cons, Sem.run_bind, px, py, pe, Result.andThen_ok, Bool.not_false, if_true, Sem.run_pure]
def stA (st : List Int) : Array Value := (st.map (Value.int .u64)).toArray
theorem eq_stA {a b : List Int} (ha : a.length = 17) (hb : b.length = 17) (w : World) : (Op.equalIn 9999 66 (.agg ((stA a).extract 0 16)) (.agg ((stA b).extract 0 16))).run Tryz.prog w = .ok (u16 (a.take 16) (b.take 16)) w := by
 have ht : ∀ {a : List Int}, (stA a).extract 0 16 = ((a.take 16).map (Value.int .u64)).toArray := fun {a} => by
  apply Array.toList_inj.1; rw [Array.toList_extract, List.extract_eq_take_drop]; simp [stA]
 rw [ht, ht]
 exact eq_u64s 9997 _ _ (by simp [ha]) (by simp [hb]) w
theorem pc_stA {a : List Int} (ha : a.length = 17) : (stA a)[16]? = some (.int .u64 (a.getD 16 0)) := by
 simp [stA, ha, List.getD]
noncomputable def eqP {α : Type} (a b : α) : Bool := @decide (a = b) (Classical.propDecidable _)
theorem eqP_yes {α : Type} {a b : α} (h : a = b) : eqP a b = true := by unfold eqP; simp [h]
theorem eqP_no {α : Type} {a b : α} (h : a ≠ b) : eqP a b = false := by unfold eqP; simp [h]
theorem eq_mp (x y : Mp) (W : World) : (Op.equalIn 10000 54 (.agg #[.int .i64 x.at_, .int .i64 x.pg, .int .i64 x.inn, .int .i64 x.id, .int .i64 x.fr, .bool x.wr, .bool x.rn]) (.agg #[.int .i64 y.at_, .int .i64 y.pg, .int .i64 y.inn, .int .i64 y.id, .int .i64 y.fr, .bool y.wr, .bool y.rn])).run Tryz.prog W = .ok (eqP x y) W := by
 rw [run_equalIn_struct W 9999 54 _ _ (by unfold Program.fieldsOf; rw [Tryz.underlying54]) (by kernel_rfl)]
 unfold Program.fieldsOf
 rw [Tryz.underlying54]
 obtain ⟨a0, a1, a2, a3, a4, a5, a6⟩ := x
 obtain ⟨b0, b1, b2, b3, b4, b5, b6⟩ := y
 by_cases h0 : a0 = b0
 · by_cases h1 : a1 = b1
   · by_cases h2 : a2 = b2
     · by_cases h3 : a3 = b3
       · by_cases h4 : a4 = b4
         · by_cases h5 : a5 = b5
           · by_cases h6 : a6 = b6
             · simp [go_sem, Op.eqFields, eqP, h0, h1, h2, h3, h4, h5, h6]
             · simp [go_sem, Op.eqFields, eqP, h0, h1, h2, h3, h4, h5, h6]
           · simp [go_sem, Op.eqFields, eqP, h0, h1, h2, h3, h4, h5]
         · simp [go_sem, Op.eqFields, eqP, h0, h1, h2, h3, h4]
       · simp [go_sem, Op.eqFields, eqP, h0, h1, h2, h3]
     · simp [go_sem, Op.eqFields, eqP, h0, h1, h2]
   · simp [go_sem, Op.eqFields, eqP, h0, h1]
 · simp [go_sem, Op.eqFields, eqP, h0]
theorem ms_get {w wr : World} {p : Option Addr} {l : List Mp} (h : MsAt w p l) (hb : Below w.heap.size w wr) (k : Nat) (hk : k < l.length) : ∃ b off, p = some ⟨b, off, none⟩ /\ b < wr.heap.size /\ wr.cell? ⟨b, off + k * 7, none⟩ = some (.int .i64 l[k].at_) /\ wr.cell? ⟨b, off + k * 7 + 1, none⟩ = some (.int .i64 l[k].pg) /\ wr.cell? ⟨b, off + k * 7 + 2, none⟩ = some (.int .i64 l[k].inn) /\ wr.cell? ⟨b, off + k * 7 + 3, none⟩ = some (.int .i64 l[k].id) /\ wr.cell? ⟨b, off + k * 7 + 4, none⟩ = some (.int .i64 l[k].fr) /\ wr.cell? ⟨b, off + k * 7 + 5, none⟩ = some (.bool l[k].wr) /\ wr.cell? ⟨b, off + k * 7 + 6, none⟩ = some (.bool l[k].rn) := by
 obtain ⟨b, off, hp, hbl, hc⟩ := h.below hb k hk
 exact ⟨b, off, hp, hbl, hc 0 _ rfl, hc 1 _ rfl, hc 2 _ rfl, hc 3 _ rfl, hc 4 _ rfl, hc 5 _ rfl, hc 6 _ rfl⟩
theorem bdnS {n : Nat} {w wr : World} (h : Below n w wr) (k : Nat) : Below n w (wr.drewN k) := h.trans ⟨rfl, rfl, rfl, Nat.le_refl _, fun _ _ => rfl⟩
set_option maxRecDepth 100000 in
set_option maxHeartbeats 2000000 in
theorem MSame_any (p q : Option Addr) (cp cq : Nat) (a b : List Mp) (w : World) (hn : a.length <= maxLen) (ha : MsAt w p a) (hb : MsAt w q b) :
 Calls Tryz.prog 61 #[.slice p a.length cp, .slice q b.length cq] w fun e w' => e = .returned (.bool (eqP a b)) /\ Below w.heap.size w w' := by
 unfold maxLen at hn
 by_cases hl : a.length = b.length
 · have hl1 : ((a.length : Int) == (b.length : Int)) = true := by simp [hl]
   have HL := Lib.hid hl
   clear hl
   go_enter Tryz.func61, Tryz.ntmps61
   go_wp2
   go_loopw [13] (fun i wr => ∃ k : Nat, k <= a.length /\ i = .int .i64 k /\ a.take k = b.take k /\ Below w.heap.size w wr) (fun i _ => a.length - (intOf i).toNat)
   case atStart => exact ⟨0, Nat.zero_le _, rfl, by simp, Below.refl _ _⟩
   case round =>
    obtain ⟨k, hk, rfl, hr, hbr⟩ := hrel
    have HR := Lib.hid hr; clear hr
    by_cases hlt : k < a.length
    · have hlt2 : k < b.length := by have := HL.out; omega
      have hki : (k : Int) < (a.length : Int) := by omega
      have hki2 : (k : Int) < (b.length : Int) := by omega
      obtain ⟨b1, o1, rfl, hb1r, c0, c1, c2, c3, c4, c5, c6⟩ := ms_get ha hbr k hlt
      obtain ⟨b2, o2, rfl, hb2r, d0, d1, d2, d3, d4, d5, d6⟩ := ms_get hb hbr k hlt2
      have EQ := eq_mp a[k] b[k]
      clear ha hb
      have HT1 := Lib.hid (List.take_succ_eq_append_getElem hlt)
      have HT2 := Lib.hid (List.take_succ_eq_append_getElem hlt2)
      by_cases he : a[k] = b[k]
      · have he' : eqP a[k] b[k] = true := eqP_yes he
        have HE := Lib.hid he
        clear he
        go_wp2
        go_quiet (fail)
        go_wp2
        go_roundw
        case rel => exact ⟨k + 1, by omega, by go_num, by rw [HT1.out, HT2.out, HR.out, HE.out], bdnS hbr _⟩
        case measure => simp [intOf]; omega
      · have he' : eqP a[k] b[k] = false := eqP_no he
        have HE := Lib.hid he
        clear he
        go_wp2
        go_quiet (fail)
        go_wp2
        go_ret
        exact ⟨ret_bool (by rw [eqP_no (fun h => by subst h; exact HE.out rfl)]), bdnS hbr _⟩
    · obtain rfl : k = a.length := by omega
      have hkk : ¬ (a.length : Int) < (a.length : Int) := by omega
      go_wp2
      go_ret
      exact ⟨ret_bool (by rw [eqP_yes (by have := HR.out; rw [List.take_length, HL.out, List.take_length] at this; exact this)]), hbr⟩
 · have hl1 : ((a.length : Int) == (b.length : Int)) = false := by simp; omega
   have HL := Lib.hid hl
   clear hl
   go_enter Tryz.func61, Tryz.ntmps61
   go_wp2
   go_ret
   exact ⟨ret_bool (by rw [eqP_no (fun h => HL.out (by rw [h]))]), Below.refl _ _⟩
def infB (a b : Ob) : Bool := (a.id == b.id) && ((a.kind == b.kind) && ((a.quota == b.quota) && ((a.used == b.used) && ((a.links == b.links) && sameS a.L.d b.L.d a.L.xs b.L.xs))))
def infV (a : Ob) : Value := .agg #[.int .i64 a.id, .int .i64 a.kind, .int .i64 a.quota, .int .i64 a.used, .int .i64 a.links, .int .i64 a.L.d, .slice a.L.p a.L.xs.length a.L.cap]
set_option maxRecDepth 100000 in
set_option maxHeartbeats 2000000 in
theorem SameInfo_any (a b : Ob) (w : World) (hma : a.L.xs.length <= maxLen) (hmb : b.L.xs.length <= maxLen) (ha : CatsAt w a.L.p a.L.xs) (hb : CatsAt w b.L.p b.L.xs) :
 Calls Tryz.prog 60 #[infV a, infV b] w fun e w' => e = .returned (.bool (infB a b)) /\ Below w.heap.size w w' := by
 have HS := Lib.hid (fun (X : World) (hX : Below w.heap.size w X) => Same_any a.L.d b.L.d a.L.p b.L.p a.L.cap b.L.cap a.L.xs b.L.xs X hma hmb (ha.below hX) (hb.below hX))
 have HF : Hid (infB a b = ((a.id == b.id) && ((a.kind == b.kind) && ((a.quota == b.quota) && ((a.used == b.used) && ((a.links == b.links) && sameS a.L.d b.L.d a.L.xs b.L.xs)))))) := Lib.hid rfl
 clear ha hb hma hmb
 generalize sameS a.L.d b.L.d a.L.xs b.L.xs = sb at *
 generalize infB a b = ib at *
 unfold infV
 obtain ⟨a0, a1, a2, a3, a4, ⟨a5, a6, a7, a8⟩, _⟩ := a
 obtain ⟨b0, b1, b2, b3, b4, ⟨b5, b6, b7, b8⟩, _⟩ := b
 simp only at HS HF |-
 generalize a8.length = n8 at *
 generalize b8.length = m8 at *
 have hW : Below w.heap.size w ((w.alloc (.cells #[.int .i64 a0, .int .i64 a1, .int .i64 a2, .int .i64 a3, .int .i64 a4, .int .i64 a5, .slice a6 n8 a7] 89)).alloc (.cells #[.int .i64 b0, .int .i64 b1, .int .i64 b2, .int .i64 b3, .int .i64 b4, .int .i64 b5, .slice b6 m8 b7] 89)) := by go_grown
 by_cases h0 : (a0 == b0) = true
 · skip
   by_cases h1 : (a1 == b1) = true
   · skip
     by_cases h2 : (a2 == b2) = true
     · skip
       by_cases h3 : (a3 == b3) = true
       · skip
         by_cases h4 : (a4 == b4) = true
         · skip
           have HE : Hid (ib = sb) := Lib.hid (by rw [HF.out, h0, h1, h2, h3, h4]; rfl)
           go_enter Tryz.func60, Tryz.ntmps60
           go_wp2_with (first
            | (go_at_call 62; refine (HS.out _ hW).mono ?_; rintro e w2 ⟨rfl, hb2⟩))
           go_ret
           exact ⟨ret_bool HE.out.symm, hW.trans (hb2.mono hW.size)⟩
         · have h4' : (a4 == b4) = false := by simpa using h4
           have HE : Hid (ib = false) := Lib.hid (by rw [HF.out, h0, h1, h2, h3, h4']; rfl)
           clear h4
           go_enter Tryz.func60, Tryz.ntmps60
           go_wp2
           go_ret
           exact ⟨ret_bool HE.out.symm, hW⟩
       · have h3' : (a3 == b3) = false := by simpa using h3
         have HE : Hid (ib = false) := Lib.hid (by rw [HF.out, h0, h1, h2, h3']; rfl)
         clear h3
         go_enter Tryz.func60, Tryz.ntmps60
         go_wp2
         go_ret
         exact ⟨ret_bool HE.out.symm, hW⟩
     · have h2' : (a2 == b2) = false := by simpa using h2
       have HE : Hid (ib = false) := Lib.hid (by rw [HF.out, h0, h1, h2']; rfl)
       clear h2
       go_enter Tryz.func60, Tryz.ntmps60
       go_wp2
       go_ret
       exact ⟨ret_bool HE.out.symm, hW⟩
   · have h1' : (a1 == b1) = false := by simpa using h1
     have HE : Hid (ib = false) := Lib.hid (by rw [HF.out, h0, h1']; rfl)
     clear h1
     go_enter Tryz.func60, Tryz.ntmps60
     go_wp2
     go_ret
     exact ⟨ret_bool HE.out.symm, hW⟩
 · have h0' : (a0 == b0) = false := by simpa using h0
   have HE : Hid (ib = false) := Lib.hid (by rw [HF.out, h0']; rfl)
   clear h0
   go_enter Tryz.func60, Tryz.ntmps60
   go_wp2
   go_ret
   exact ⟨ret_bool HE.out.symm, hW⟩
end Go.Proofs.YtmgfakfiiaeofaaGreat.Vw
