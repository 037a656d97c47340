/- create of package kern: a segment is made. -/
import Derived.Test.YtmgfakfiiaeofaaGreatKCre
import Derived.Test.YtmgfakfiiaeofaaGreatKTarg
namespace Go.Proofs.YtmgfakfiiaeofaaGreat
open Go.RowKit Go.Sort
theorem told8 {W : World} {b : Nat} {v0 v1 v2 v3 v4 v5 v6 v7 : Value} {t : TypeId} (h : W.heap[b]? = some (.cells #[v0, v1, v2, v3, v4, v5, v6, v7] t (0, 0))) :
 (W.cell? ⟨b, 0, none⟩ = some v0 /\ W.cell? ⟨b, 1, none⟩ = some v1 /\ W.cell? ⟨b, 2, none⟩ = some v2 /\ W.cell? ⟨b, 3, none⟩ = some v3 /\ W.cell? ⟨b, 4, none⟩ = some v4 /\ W.cell? ⟨b, 5, none⟩ = some v5 /\ W.cell? ⟨b, 6, none⟩ = some v6 /\ W.cell? ⟨b, 7, none⟩ = some v7) /\
  (W.frozen? ⟨b, 0, none⟩ = false /\ W.frozen? ⟨b, 1, none⟩ = false /\ W.frozen? ⟨b, 2, none⟩ = false /\ W.frozen? ⟨b, 3, none⟩ = false /\ W.frozen? ⟨b, 4, none⟩ = false /\ W.frozen? ⟨b, 5, none⟩ = false /\ W.frozen? ⟨b, 6, none⟩ = false /\ W.frozen? ⟨b, 7, none⟩ = false) := by
 refine ⟨⟨?_, ?_, ?_, ?_, ?_, ?_, ?_, ?_⟩, ⟨?_, ?_, ?_, ?_, ?_, ?_, ?_, ?_⟩⟩ <;> simp [World.cell?, World.frozen?, h]
theorem set8 {W : World} {b : Nat} {u0 u1 u2 u3 u4 u5 u6 u7 v0 v1 v2 v3 v4 v5 v6 v7 : Value} {t : TypeId} (h : W.heap[b]? = some (.cells #[u0, u1, u2, u3, u4, u5, u6, u7] t (0, 0))) :
 (W.setCells b 0 [v0, v1, v2, v3, v4, v5, v6, v7]).rangeAt b 0 [v0, v1, v2, v3, v4, v5, v6, v7] := by
 refine World.rangeAt_setCells_same W b 0 _ (fun j hj => ?_)
 have hj' : j < 8 := hj
 have h8 : ∀ j, j < 8 -> (#[u0, u1, u2, u3, u4, u5, u6, u7] : Array Value)[j]?.isSome = true := fun j hj => by simp; exact hj
 refine ⟨?_, ?_⟩
 · have := h8 j hj'
   simpa [World.cell?, h] using this
 · simp [World.frozen?, h]
theorem infoT : (Tryz.prog.info? 49).map (·.size) = some 8 := by kernel_rfl
def KSeg (K K' : Kn) (i dr a ld : Int) (lx : List (Int × Int)) (r : Ho.Rc) (B : Nat) (d : List UInt8) : Prop :=
 ∃ D' r' s' own', Maps.size D' = Maps.size K.D + 1 /\ r'.ob = { r.ob with used := r.ob.used + a, ents := r.ob.ents ++ [dr] } /\ s'.ob = Ho.newOb dr 2 a ld lx /\
  K' = { K with D := D', T := Ho.upd (Ho.upd K.T i r') dr s', own := own', nR := K.nR + 1, S := fun k => k == dr || K.S k, nS := K.nS + 1, fS := Wa.updF K.fS (Wa.ky dr) (some B), sd := fun j => if j = dr then d else K.sd j }
set_option maxRecDepth 100000 in
set_option maxHeartbeats 4000000 in
theorem create_seg {lo cb p1 p4 : Nat} {W : World} {K : Kn} {x : Ask} {y : Who} {dr : Int} (hC : ClAt W cb K.kb x y dr) (hcb : K.own cb = none) (hK : KAt lo W K) (hTh : K.fT (Wa.ky y.id) = some y.B) (id : Int) (hid : Ho.i64 id) (r : Ho.Rc) (hT : K.T id = some r) (hk : r.ob.kind = 1) (hl : r.ob.cats.length <= 16)
 (xs : List (Int × Int)) (hw : Pa.LV (y.d, xs) (.agg #[.int .i64 y.d, y.v]) W) (hs : Pa.seesS y.d r.ob.df xs r.ob.cats = true) (lx : List (Int × Int)) (hL : Pa.LV (x.ld, lx) (.agg #[.int .i64 x.ld, x.lv]) W) (hf : Pa.freeS x.ld lx = true) (hff : Ho.fitsS x.ld (Ho.low 2) lx = true)
 (hmk : Pa.makeI (y.d, xs) ((K.th y.id).cd, (K.th y.id).xs) (r.ob.df, r.ob.cats) (x.ld, lx) = 0) (ha : 1 <= x.a /\ x.a <= 1099511627776) (hdr : Ho.isCt dr = true) (hS : K.S dr = false) (hno : K.T dr = none) (hnoS : K.fS (Wa.ky dr) = none)
 (hszD : Maps.size K.D < 4096) (hq : x.a <= r.ob.quota - r.ob.used) (hu : 0 <= r.ob.used) (hqq : r.ob.quota <= 1099511627776) (hn : r.ob.ents.length < 1000000) (hnS : K.nS < 1000000) (hnR : K.nR < 1000000)
 (h1 : W.cell? ⟨p1, 0, none⟩ = some (.pointer (some ⟨cb, 0, none⟩))) (o1 : K.own p1 = none) (B : Nat) (h4 : W.cell? ⟨p4, 0, none⟩ = some (.pointer (some ⟨B, 0, none⟩))) (o4 : K.own p4 = none) (b : Nat) (hlo : lo <= b) (d : List UInt8) (ls : List (Nat × Bool)) (hB : Pg.BAt Pg.N0 W b B d ls) (hfo : ∀ k, segF W B ls k -> K.own k = none /\ lo <= k /\ k < W.heap.size) :
 Calls Tryz.prog 120 #[.pointer (some ⟨cb, 0, none⟩), .int .i64 2, .int .i64 id, .int .i64 0, .func (.func 123) #[] #[.pointer (some ⟨p4, 0, none⟩), .pointer (some ⟨p1, 0, none⟩)]] W fun e W' =>
  ∃ K', e = .returned (.tuple #[.agg #[.int .i64 dr, .string ⟨#[]⟩, .int .i64 0, .slice none 0 0, .int .i64 0, .slice none 0 0, .slice none 0 0, .slice none 0 0], .int .i64 0]) /\ KAt lo W' K' /\ KSeg K K' id dr x.a x.ld lx r B d /\ Below lo W W' /\ ∀ k, k < W.heap.size -> K.own k = none -> ¬ segF W B ls k -> W'.heap[k]? = W.heap[k]? /\ K'.own k = none := by
 have hp1 : p1 < W.heap.size := World.block_lt_of_cell? W _ h1
 have hp4 : p4 < W.heap.size := World.block_lt_of_cell? W _ h4
 obtain ⟨W0, hW0⟩ : ∃ W0, W.alloc (.cells toldZ 49) = W0 := ⟨_, rfl⟩
 have hb0 : Below W.heap.size W W0 := by rw [<- hW0]; exact (Below.refl _ _).alloc (Nat.le_refl _) _
 have hi0 : W0.heap[W.heap.size]? = some (.cells toldZ 49 (0, 0)) := by rw [<- hW0]; exact heap_alloc_new _ _
 have hz0 : W.heap.size < W0.heap.size := by rw [<- hW0]; simp
 have HMay := Lib.hid (mayCreate_any (hC.below hb0) (hK.below hb0) hTh 2 id (by decide) (by decide) hid r hT hk hl xs (hw.below hb0) hs lx (hL.below hb0) hf)
 rw [hmk] at HMay
 have hlo0 : lo <= W.heap.size := Nat.le_of_lt (Nat.lt_of_le_of_lt (hK.lt K.kb (by rw [hK.okb]; simp)).1 (hK.lt K.kb (by rw [hK.okb]; simp)).2)
 have Hlo0 := Lib.hid hlo0
 have HC := Lib.hid hC
 have HK := Lib.hid hK
 have HL := Lib.hid hL
 have HB0 := Lib.hid hb0
 have Hi0 := Lib.hid hi0
 have HN := Lib.hid isNumber_any
 have hdrI : Wa.i64 dr := key_of hdr
 obtain ⟨i10, hi10⟩ : ∃ i10, W.heap.size = i10 := ⟨_, rfl⟩
 have Hi10 := Lib.hid hi10
 have HS := Lib.hid hS
 clear hC hK hw hL hb0 hi0 hS
 unfold toldZ at hW0
 go_enter Tryz.func120, Tryz.ntmps120
 go_upto_region 1 with fail
 rw [hi10] at hz0 Hi0
 clear hW0 hi10
 go_wp2_with (go_at_call 176; refine HMay.out.mono ?_; rintro e W1 ⟨rfl, hb1⟩; refine Hid.out ?_)
 refine Lib.hid ?_
 have hb01 : Below W.heap.size W W1 := HB0.out.trans (hb1.mono HB0.out.size)
 have hC1 := HC.out.below hb01
 have hK1 := HK.out.below hb01
 have c0 : W1.cell? ⟨cb, 0, none⟩ = some (.pointer (some ⟨K.kb, 0, none⟩)) := hC1.cell 0
 have c6 : W1.cell? ⟨cb, 6, none⟩ = some (.int .i64 x.a) := hC1.cell 6
 have c25 : W1.cell? ⟨cb, 25, none⟩ = some (.int .i64 dr) := hC1.cell 25
 have HD := Lib.hid (fun n => Drawn_any (W := W1.drewN n) (hK1.below (drew_below _ W1 n)) dr hdrI)
 rw [HS.out] at HD
 have HB1 := Lib.hid hb01
 have hz1 : i10 < W1.heap.size := Nat.lt_of_lt_of_le hz0 hb1.size
 have Hi1 := Lib.hid ((hb1.block i10 hz0).trans Hi0.out)
 have a1 : ¬ x.a < 1 := by omega
 have a2 : ¬ 1099511627776 < x.a := by omega
 clear hC1 hK1 hb1 hb01 HMay
 go_upto_region 8 with fail
 refine Ko.wp_region_tail_d 15 (by kernel_rfl) (by kernel_rfl) ?_
 simp only [List.take_succ_cons, List.take_zero, List.drop_succ_cons, List.drop_zero]
 repeat (go_big_quiet_step (first | (go_at_call 30; with_reducible exact Calls.quiet_of_same (HN.out _ _))))
 refine wpQuiet_nil ?_
 intro _ hw'
 obtain ⟨nz, hw''⟩ := hw'
 subst hw''
 go_wp2_with (go_at_call 8; refine (HD.out _).mono ?_; rintro e W2 ⟨rfl, hb2⟩; refine Hid.out ?_)
 refine Lib.hid ?_
 have hb12 : Below W1.heap.size W1 W2 := (drew_below _ W1 nz).trans hb2
 have hb02 : Below W.heap.size W W2 := HB1.out.trans (hb12.mono HB1.out.size)
 have hC2 := HC.out.below hb02
 have hK2 := HK.out.below hb02
 have d0 : W2.cell? ⟨cb, 0, none⟩ = some (.pointer (some ⟨K.kb, 0, none⟩)) := hC2.cell 0
 have d25 : W2.cell? ⟨cb, 25, none⟩ = some (.int .i64 dr) := hC2.cell 25
 have d6 : W2.cell? ⟨cb, 6, none⟩ = some (.int .i64 x.a) := hC2.cell 6
 have d9 : W2.cell? ⟨cb, 9, none⟩ = some (.int .i64 x.ld) := hC2.cell 9
 have d10 : W2.cell? ⟨cb, 10, none⟩ = some x.lv := hC2.cell 10
 have k0 : W2.cell? ⟨K.kb, 0, none⟩ = some (.pointer (some ⟨K.tb, 0, none⟩)) := hK2.cell 0
 obtain ⟨pL, cL, hLv, hL1, hL2, hL3⟩ := HL.out.below hb02
 simp at hLv
 rw [hLv] at d10
 have hL3' : lx.length <= 16 := hL3
 have HM := Lib.hid (fun n => Ho.Make_ok (w := W2.drewN n) ((hK2.below (drew_below _ W2 n)).tab) id dr 2 x.a x.ld pL cL lx r (by omega) (show Ho.CatsAt (W2.drewN n) pL lx from (hL1.below (drew_below _ W2 n))) hid hT hk (by omega) ha hff hdr hno hszD hq hu hqq hn)
 have HK2 := Lib.hid hK2
 have HC2 := Lib.hid hC2
 have HB2 := Lib.hid hb02
 have hz2 : i10 < W2.heap.size := Nat.lt_of_lt_of_le hz1 hb12.size
 have Hi2 := Lib.hid ((hb12.block i10 hz1).trans Hi1.out)
 clear c0 c6 c25 hb12 hb2 hb02 hC2 hK2 hL1 hL2 hL3 hLv HD hz1
 go_upto_region 10 with fail
 refine Ko.wp_region_tail_d 23 (by kernel_rfl) (by kernel_rfl) ?_
 simp only [List.take_succ_cons, List.take_zero, List.drop_succ_cons, List.drop_zero]
 repeat (go_big_quiet_step (fail))
 refine wpQuiet_nil ?_
 intro _ hw'
 obtain ⟨ny, hw''⟩ := hw'
 subst hw''
 go_wp2_with (go_at_call 16; refine (HM.out _).mono ?_; rintro e W3 ⟨rfl, D3, r3, s3, hT3, hr3, hs3, hz3, hF3⟩; refine Hid.out ?_)
 refine Lib.hid ?_
 have hKd := HK2.out.below (drew_below _ W2 ny)
 have hK3 := hKd.made hT3 hF3
 have hsz3 : W2.heap.size <= W3.heap.size := hF3.size
 have kp3 : ∀ k, k < W2.heap.size -> K.own k = none -> W3.heap[k]? = W2.heap[k]? := fun k h1 h2 => hF3.same k h1 (fun hf => by rw [hKd.ot k hf] at h2; cases h2)
 have hot3 : ∀ k, k < W2.heap.size -> K.own k = none -> ¬ Ho.tfoot K.tb K.mb (Ho.upd (Ho.upd K.T id r3) dr s3) k := fun k h1 h2 hf => by
  rcases hF3.new k hf with h5 | h5
  · rw [hKd.ot k h5] at h2; cases h2
  · have h6 : W2.heap.size <= k := h5; omega
 have hb23 : Below lo W2 W3 := ⟨hF3.os, hF3.tape, hF3.output, hF3.size, fun k hk => hF3.same k (Nat.lt_of_lt_of_le hk (Nat.le_trans Hlo0.out HB2.out.size)) (fun hf => by have := (hKd.lt k (by rw [hKd.ot k hf]; simp)).1; omega)⟩
 have Kp3 := Lib.hid kp3
 have Ot3 := Lib.hid hot3
 obtain ⟨K1, hK1e⟩ : ∃ K1, { K with D := D3, T := Ho.upd (Ho.upd K.T id r3) dr s3, own := ownA (Ho.tfoot K.tb K.mb (Ho.upd (Ho.upd K.T id r3) dr s3)) .tab K.own } = K1 := ⟨_, rfl⟩
 rw [hK1e] at hK3
 have ekb : K1.kb = K.kb := by rw [<- hK1e]
 have hC3 : ClAt W3 cb K.kb x y dr := (kp3 cb HC2.out.lt hcb).trans HC2.out
 have g0 : W3.cell? ⟨cb, 0, none⟩ = some (.pointer (some ⟨K.kb, 0, none⟩)) := hC3.cell 0
 have g25 : W3.cell? ⟨cb, 25, none⟩ = some (.int .i64 dr) := hC3.cell 25
 have k7 : W3.cell? ⟨K.kb, 7, none⟩ = some (.map (some K1.mr)) := by have := hK3.cell 7; rw [ekb] at this; exact this
 have HK3 := Lib.hid hK3
 have HC3 := Lib.hid hC3
 have HB23 := Lib.hid hb23
 have HD3 := Lib.hid hz3
 have HR3 := Lib.hid hr3
 have HS3 := Lib.hid hs3
 clear d0 d25 d6 d9 d10 k0 hKd hK3 kp3 hot3 hb23 hF3 hT3 HM hC3 hz3 hr3 hs3 hL3'
 go_upto_region 13 with fail
 refine Ko.wp_region_tail_d 12 (by kernel_rfl) (by kernel_rfl) ?_
 simp only [List.take_succ_cons, List.take_zero, List.drop_succ_cons, List.drop_zero]
 repeat (go_big_quiet_step (fail))
 refine wpQuiet_nil ?_
 intro _ hw'
 obtain ⟨nx, hw''⟩ := hw'
 subst hw''
 have hK3n := HK3.out.below (drew_below _ W3 nx)
 obtain ⟨W4, hrun, hS4, hgr, hsz4⟩ := hK3n.mR.put (by rw [<- hK1e]; exact hnR) dr hdrI
 have hSdr : K1.S dr = false := by rw [<- hK1e]; exact HS.out
 rw [hSdr] at hS4
 have hK4 := hK3n.drew (n' := K1.nR + 1) (by simpa using hS4) hgr
 obtain ⟨K2, hK2e⟩ : ∃ K2, { K1 with nR := K1.nR + 1, S := fun k => k == dr || K1.S k } = K2 := ⟨_, rfl⟩
 rw [hK2e] at hK4
 have ekb2 : K2.kb = K.kb := by rw [<- hK2e]; exact ekb
 have hmr : K1.mr = K.mr := by rw [<- hK1e]
 have hms : K2.ms = K.ms := by rw [<- hK2e, <- hK1e]
 have nmr : ∀ k, K.own k = none -> k ≠ K1.mr := fun k h e => by rw [e, hmr, HK.out.oR] at h; cases h
 have kp4 : ∀ k, k < W2.heap.size -> K.own k = none -> W4.heap[k]? = W2.heap[k]? := fun k h1 h2 => (hgr.block k (Nat.lt_of_lt_of_le h1 hsz3) (fun e => nmr k h2 (Option.some.inj e))).trans (Kp3.out k h1 h2)
 have kpW : ∀ k, k < W.heap.size -> K.own k = none -> W4.heap[k]? = W.heap[k]? := fun k h1 h2 => (kp4 k (Nat.lt_of_lt_of_le h1 HB2.out.size) h2).trans (HB2.out.block k h1)
 have hsz24 : W2.heap.size <= W4.heap.size := Nat.le_trans hsz3 hgr.size
 have hC4 : ClAt W4 cb K2.kb x y dr := by rw [ekb2]; exact (kp4 cb HC2.out.lt hcb).trans HC2.out
 have hB4 := bat_keep hB (fun k hk => kpW k (hfo k hk).2.2 (hfo k hk).1)
 have hfo4 : ∀ k, segF W4 B ls k -> K2.own k = none /\ lo <= k /\ k < W4.heap.size := fun k hk => by
  have hB' := hfo B (.inl rfl)
  have hkW := hfo k (segF_same (kpW B hB'.2.2 hB'.1) hk)
  have hk2 := Nat.lt_of_lt_of_le hkW.2.2 HB2.out.size
  refine ⟨?_, hkW.2.1, Nat.lt_of_lt_of_le hk2 hsz24⟩
  rw [<- hK2e, <- hK1e]
  show ownA _ _ K.own k = none
  rw [ownA_no (Ot3.out k hk2 hkW.1)]; exact hkW.1
 have HCl := Lib.hid (cell1_any (K := K2) hC4 hK4 ((World.cell?_of_block (a := ⟨p1, 0, none⟩) (kpW p1 hp1 o1)).trans h1) B ((World.cell?_of_block (a := ⟨p4, 0, none⟩) (kpW p4 hp4 o4)).trans h4) dr hdrI (by rw [<- hK2e, <- hK1e]; exact hnoS) (by rw [<- hK2e, <- hK1e]; exact hnS) b hlo d ls hB4 hfo4)
 have oi : K.own i10 = none := by
  cases ho : K.own i10 with
  | none => rfl
  | some g => exfalso; have := (HK.out.lt i10 (by rw [ho]; simp)).2; have := Hi10.out; omega
 have Hi4 := Lib.hid ((kp4 i10 hz2 oi).trans Hi2.out)
 have HAll : Hid (∀ k, k < W.heap.size -> K.own k = none -> ¬ segF W B ls k -> W4.heap[k]? = W.heap[k]? /\ k < W4.heap.size /\ k ≠ K2.ms /\ ownA (segF W4 B ls) (.sg dr) K2.own k = none) := Lib.hid (fun k q1 q2 q3 => by
  have hB' := hfo B (.inl rfl)
  have q4 := Nat.lt_of_lt_of_le q1 HB2.out.size
  refine ⟨kpW k q1 q2, Nat.lt_of_lt_of_le q4 hsz24, (fun e => by rw [e, hms, HK.out.oS] at q2; cases q2), ?_⟩
  rw [ownA_no (fun hk => q3 (segF_same (kpW B hB'.2.2 hB'.1) hk)), <- hK2e, <- hK1e]
  show ownA _ _ K.own k = none
  rw [ownA_no (Ot3.out k q4 q2)]; exact q2)
 have hins : ¬ segF W4 B ls i10 := fun hk => by
  have hB' := hfo B (.inl rfl)
  have h5 := (hfo _ (segF_same (kpW B hB'.2.2 hB'.1) hk)).2.2
  have := Hi10.out; omega
 have hK2i : K2.own i10 = none := by
  rw [<- hK2e, <- hK1e]
  show ownA _ _ K.own i10 = none
  rw [ownA_no (Ot3.out i10 hz2 oi)]; exact oi
 have HoI : Hid (ownA (segF W4 B ls) (.sg dr) K2.own i10 = none) := Lib.hid ((ownA_no hins).trans hK2i)
 have HKe : Hid (KSeg K { K2 with nS := K2.nS + 1, fS := Wa.updF K2.fS (Wa.ky dr) (some B), sd := fun i => if i = dr then d else K2.sd i, own := ownA (segF W4 B ls) (.sg dr) K2.own } id dr x.a x.ld lx r B d) := Lib.hid ⟨D3, r3, s3, _, HD3.out, HR3.out, HS3.out, by rw [<- hK2e, <- hK1e]⟩
 have nms : ∀ k, K.own k = none -> k ≠ K2.ms := fun k h e => by rw [e, hms, HK.out.oS] at h; cases h
 have m25 : W4.cell? ⟨cb, 25, none⟩ = some (.int .i64 dr) := hC4.cell 25
 have hlmr : lo <= K1.mr := by rw [hmr]; exact (HK.out.lt K.mr (by rw [HK.out.oR]; simp)).1
 have hb34 : Below lo W3 W4 := (drew_below lo W3 nx).trans ((Wa.Fm.of_grown hgr).below (Nat.le_trans (Nat.le_trans Hlo0.out HB2.out.size) hsz3) (fun k hk e => by omega))
 have HB24 := Lib.hid (HB23.out.trans hb34)
 have HC4 := Lib.hid hC4
 have Hcb := Lib.hid (nms cb hcb)
 have Hci := Lib.hid (nms i10 oi)
 have hz4 : i10 < W4.heap.size := Nat.lt_of_lt_of_le hz2 hsz24
 clear hK4 hS4 hK3n kp4 kpW hB4 hfo4 hC4 hb34 g0 g25 k7 nmr nms hsz4 hgr
 rw [hmr] at hrun
 go_upto_region 14 with fail
 clear hrun
 go_wp2_with (go_at_call 123; refine HCl.out.mono ?_; rintro e W5 ⟨rfl, hK5, hb5, ho5⟩; refine Hid.out ?_)
 refine Lib.hid ?_
 have hC5 : ClAt W5 cb K2.kb x y dr := (ho5 cb HC4.out.lt Hcb.out).trans HC4.out
 have n25 : W5.cell? ⟨cb, 25, none⟩ = some (.int .i64 dr) := hC5.cell 25
 have hI5 : W5.heap[i10]? = _ := (ho5 i10 hz4 Hci.out).trans Hi4.out
 unfold toldZ at hI5
 obtain ⟨⟨y0, y1, y2, y3, y4, y5, y6, y7⟩, ⟨f0, f1, f2, f3, f4, f5, f6, f7⟩⟩ := told8 hI5
 have HI5 := Lib.hid hI5
 have HK5 := Lib.hid hK5
 have Ho5 := Lib.hid ho5
 have HB5 := Lib.hid (HB24.out.trans hb5)
 clear hK5 hb5 ho5 hC5 hI5 m25 HCl
 go_wp2
 have hr8 := set8 (v0 := .int .i64 dr) (v1 := .string ⟨#[]⟩) (v2 := .int .i64 0) (v3 := .slice none 0 0) (v4 := .int .i64 0) (v5 := .slice none 0 0) (v6 := .slice none 0 0) (v7 := .slice none 0 0) HI5.out
 have hKf := HK5.out.keep (W' := W5.setCells i10 0 [.int .i64 dr, .string ⟨#[]⟩, .int .i64 0, .slice none 0 0, .int .i64 0, .slice none 0 0, .slice none 0 0, .slice none 0 0]) (Nat.le_of_eq (setCells_size _ _ _ _).symm) (fun k hk => World.heap_setCells_other W5 i10 0 _ (HK5.out.lt k hk).2 (fun e => by rw [e] at hk; exact hk HoI.out))
 have hbe := Go.below_setCells (show lo <= i10 by have := Hi10.out; have := Hlo0.out; omega) [.int .i64 dr, .string ⟨#[]⟩, .int .i64 0, .slice none 0 0, .int .i64 0, .slice none 0 0, .slice none 0 0, .slice none 0 0] 0 W5 ((HB2.out.mono Hlo0.out).trans HB5.out)
 refine bodyPost_ret (v := .tuple #[.agg #[.int .i64 dr, .string ⟨#[]⟩, .int .i64 0, .slice none 0 0, .int .i64 0, .slice none 0 0, .slice none 0 0, .slice none 0 0], .int .i64 0]) ?_ rfl ⟨_, rfl, hKf, HKe.out, hbe, fun k q1 q2 q3 => by
  obtain ⟨g1, g2, g3, g4⟩ := HAll.out k q1 q2 q3
  have g5 := Ho5.out k g2 g3
  refine ⟨?_, g4⟩
  have hlt : k < W5.heap.size := by
   rcases Nat.lt_or_ge k W5.heap.size with h | h
   · exact h
   · exfalso; rw [Array.getElem?_eq_none h] at g5; have h9 := (Array.getElem?_eq_none_iff.1 g5.symm); omega
  exact (World.heap_setCells_other W5 i10 0 [.int .i64 dr, .string ⟨#[]⟩, .int .i64 0, .slice none 0 0, .int .i64 0, .slice none 0 0, .slice none 0 0, .slice none 0 0] hlt (by have := Hi10.out; omega)).trans (g5.trans g1)⟩
 exact results_cell_tmp Tryz.results120 _ _ i10 _ _ rfl hr8 Tryz.underlying49 rfl infoT
end Go.Proofs.YtmgfakfiiaeofaaGreat
