/- What segment of package kern answers. -/
import Derived.Test.YtmgfakfiiaeofaaGreatKBegin
import Derived.Test.YtmgfakfiiaeofaaGreatSq
import Derived.Test.YtmgfakfiiaeofaaGreatKTarA
import Derived.Test.YtmgfakfiiaeofaaGreatKCell
/- What target of package kern answers. -/
namespace Go.Proofs.YtmgfakfiiaeofaaGreat
open Go.RowKit Go.Sort
set_option maxRecDepth 100000 in
set_option maxHeartbeats 2000000 in
theorem target_none {lo cb : Nat} {W : World} {K : Kn} {x : Ask} {y : Who} {dr : Int} (hC : ClAt W cb K.kb x y dr) (hK : KAt lo W K) (pi pj kd : Int) (hpi : Ho.i64 pi) (hpj : Ho.i64 pj) (r : Ho.Rc) (hT : K.T pi = some r) (hk : r.ob.kind = 1) (hl : r.ob.cats.length <= 16)
 (xs : List (Int × Int)) (hw : Pa.LV (y.d, xs) (.agg #[.int .i64 y.d, y.v]) W) (hs : Pa.seesS y.d r.ob.df xs r.ob.cats = true) (hen : ∀ q, K.T pi = some q -> q.ob.ents.length < 1000000) (hE : (Ho.entE K.T pi pj == 0) = false) (fv : Value) :
 Calls Tryz.prog 128 #[.pointer (some ⟨cb, 0, none⟩), .agg #[.int .i64 pi, .int .i64 pj], .int .i64 kd, fv] W fun e W' => e = .returned (.tuple #[infoZ, .int .i64 4]) /\ Below W.heap.size W W' := by
 obtain ⟨W0, hW0⟩ : ∃ W0, (W.alloc (.cells #[.int .i64 pi, .int .i64 pj] 43)).alloc (.cells #[.int .i64 0, .int .i64 0, .int .i64 0, .int .i64 0, .int .i64 0, .int .i64 0, .slice none 0 0] 89) = W0 := ⟨_, rfl⟩
 have hb0 : Below W.heap.size W W0 := by rw [<- hW0]; go_grown
 have hi5 : W0.heap[W.heap.size]? = some (.cells #[.int .i64 pi, .int .i64 pj] 43 (0, 0)) := by rw [<- hW0]; rw [Below.heap_alloc _ _ _ (by simp)]; exact heap_alloc_new _ _
 have hi8 : W0.heap[W.heap.size + 1]? = some (.cells #[.int .i64 0, .int .i64 0, .int .i64 0, .int .i64 0, .int .i64 0, .int .i64 0, .slice none 0 0] 89 (0, 0)) := by rw [<- hW0]; have := heap_alloc_new (W.alloc (.cells #[.int .i64 pi, .int .i64 pj] 43)) (.cells #[.int .i64 0, .int .i64 0, .int .i64 0, .int .i64 0, .int .i64 0, .int .i64 0, .slice none 0 0] 89); rwa [show (W.alloc (.cells #[.int .i64 pi, .int .i64 pj] 43)).heap.size = W.heap.size + 1 from by simp] at this
 have hz0 : W.heap.size + 1 < W0.heap.size := by rw [<- hW0]; simp
 have q0 : W0.cell? ⟨W.heap.size, 0, none⟩ = some (.int .i64 pi) := by simp [World.cell?, hi5]
 have q1 : W0.cell? ⟨W.heap.size, 1, none⟩ = some (.int .i64 pj) := by simp [World.cell?, hi5]
 have HK := Lib.hid hK
 have HC := Lib.hid hC
 have HCo := Lib.hid (container_ok (hC.below hb0) (hK.below hb0) pi hpi r hT hk hl xs (hw.below hb0) hs)
 have HB0 := Lib.hid hb0
 have Hi5 := Lib.hid hi5
 have Hi8 := Lib.hid hi8
 obtain ⟨i5, hi5e⟩ : ∃ i5, W.heap.size = i5 := ⟨_, rfl⟩
 have Hi5e := Lib.hid hi5e
 clear hC hb0 hi5 hi8 hw hK
 go_enter Tryz.func128, Tryz.ntmps128
 go_upto_region 1 with fail
 rw [hi5e] at hz0 q0 q1 Hi5 Hi8
 clear hW0 hi5e
 go_wp2_with (go_at_call 130; refine HCo.out.mono ?_; rintro e W1 ⟨v, rfl, ⟨p1, cp1, hv1, -⟩, hb1⟩; simp at hv1; subst hv1; refine Hid.out ?_)
 refine Lib.hid ?_
 unfold Ho.infoV
 rw [hk]
 clear hk
 obtain ⟨i8, hi8e⟩ : ∃ i8, i5 + 1 = i8 := ⟨_, rfl⟩
 have h58 : i5 < i8 := by omega
 have Hi8e := Lib.hid hi8e
 rw [hi8e] at hz0 Hi8 |-
 clear hi8e
 obtain ⟨W2, hW2⟩ : ∃ W2, W1.alloc (.cells #[.int .i64 r.ob.id, .int .i64 1, .int .i64 r.ob.quota, .int .i64 r.ob.used, .int .i64 r.ob.links, .int .i64 r.ob.df, .slice p1 r.ob.cats.length cp1] 89) = W2 := ⟨_, rfl⟩
 have hb2 : Below W1.heap.size W1 W2 := by rw [<- hW2]; exact (Below.refl _ _).alloc (Nat.le_refl _) _
 have hz1 : i8 < W1.heap.size := Nat.lt_of_lt_of_le hz0 hb1.size
 have hz2 : i8 < W2.heap.size := Nat.lt_of_lt_of_le hz1 hb2.size
 have hb02 : Below W.heap.size W W2 := by
  have h5 := Hi5e.out
  exact (HB0.out.trans (hb1.mono (by omega))).trans (hb2.mono (by omega))
 have e5 : W2.heap[i5]? = W0.heap[i5]? := (hb2.block i5 (by omega)).trans (hb1.block i5 (by omega))
 have e8 : W2.heap[i8]? = W0.heap[i8]? := (hb2.block i8 (by omega)).trans (hb1.block i8 (by omega))
 have Hi8W := Lib.hid (e8.trans Hi8.out)
 have p0 : W2.cell? ⟨i5, 0, none⟩ = some (.int .i64 pi) := (World.cell?_of_block (a := ⟨i5, 0, none⟩) e5).trans q0
 have p1 : W2.cell? ⟨i5, 1, none⟩ = some (.int .i64 pj) := (World.cell?_of_block (a := ⟨i5, 1, none⟩) e5).trans q1
 have hC2 := HC.out.below hb02
 have hK2 := HK.out.below hb02
 have c0 : W2.cell? ⟨cb, 0, none⟩ = some (.pointer (some ⟨K.kb, 0, none⟩)) := hC2.cell 0
 have k0 : W2.cell? ⟨K.kb, 0, none⟩ = some (.pointer (some ⟨K.tb, 0, none⟩)) := hK2.cell 0
 have HC2 := Lib.hid hC2
 have HK2 := Lib.hid hK2
 have HB2 := Lib.hid hb02
 have HH : Hid (∀ n, Calls Tryz.prog 177 #[.pointer (some ⟨K.tb, 0, none⟩), .int .i64 pi, .int .i64 pj] (W2.drewN n) fun e W' => e = .returned (.bool false) /\ W' = W2.drewN n) := Lib.hid (fun n => by
  have := Ho.Has_any ((HK2.out.below (drew_below _ W2 n)).tab) pi pj hpi hpj hen
  rw [hE] at this
  exact this)
 clear hb1 hb2 hb02 e5 e8 q0 q1 hC2 hK2 HCo Hi8 Hi5
 go_upto_region 2 with fail
 clear hW2
 refine Ko.wp_region_tail_d 14 (by kernel_rfl) (by kernel_rfl) ?_
 simp only [List.take_succ_cons, List.take_zero, List.drop_succ_cons, List.drop_zero]
 repeat (go_big_quiet_step (fail))
 refine wpQuiet_nil ?_
 intro _ hw'
 obtain ⟨nz, hw''⟩ := hw'
 subst hw''
 go_wp2_with (go_at_call 177; refine (HH.out _).mono ?_; rintro e W3 ⟨rfl, rfl⟩; refine Hid.out ?_)
 refine Lib.hid ?_
 obtain ⟨W3, hW3⟩ : ∃ W3, W2.drewN nz = W3 := ⟨_, rfl⟩
 have hb3 : Below W2.heap.size W2 W3 := by rw [<- hW3]; exact drew_below _ _ _
 rw [hW3]
 have Hi8X := Lib.hid ((show W3.heap[i8]? = W2.heap[i8]? from by rw [<- hW3]; rfl).trans Hi8W.out)
 have HB3 := Lib.hid (HB2.out.trans (hb3.mono HB2.out.size))
 obtain ⟨⟨y0, y1, y2, y3, y4, y5, y6⟩, ⟨f0, f1, f2, f3, f4, f5, f6⟩⟩ := info7 Hi8X.out
 clear hW3 hb3 HH HC2 HK2 HB2 Hi8W p0 p1 c0 k0
 go_wp2
 have hr7 := set7 (v0 := .int .i64 0) (v1 := .int .i64 0) (v2 := .int .i64 0) (v3 := .int .i64 0) (v4 := .int .i64 0) (v5 := .int .i64 0) (v6 := .slice none 0 0) Hi8X.out
 have hbe := Go.below_setCells (show W.heap.size <= i8 by have := Hi5e.out; have := Hi8e.out; omega) [.int .i64 0, .int .i64 0, .int .i64 0, .int .i64 0, .int .i64 0, .int .i64 0, .slice none 0 0] 0 W3 HB3.out
 refine bodyPost_ret (v := .tuple #[infoZ, .int .i64 4]) ?_ rfl ⟨rfl, hbe⟩
 exact results_cell_tmp Tryz.results128 _ _ i8 _ _ rfl hr7 Tryz.underlying89 rfl infoI
theorem results_cell_tmp2 {P : Program} {fn : Func} {p q q' : Tmp} {ty : TypeId} (h : fn.results = #[.cell p ty, .tmp q, .tmp q']) (tmps : Array Value) (w : World) (b : Nat) (cs : List Value) (d : TypeDesc)
 (hp : tmps.getD p undef = .pointer (some ⟨b, 0, none⟩)) (hc : w.rangeAt b 0 cs) (hu : P.underlying ty = some d) (hd : d.isRow = true) (hi : (P.info? ty).map (·.size) = some cs.length) :
 (results fn tmps).run P w = .ok (.tuple #[.agg cs.toArray, tmps.getD q undef, tmps.getD q' undef]) w := by
 have hp' : tmps[p]?.getD undef = .pointer (some ⟨b, 0, none⟩) := by simpa using hp
 simp [results, h, hp', asAddr, run_loadVar_mid w b 0 ty cs d hc hu hd hi]
set_option maxRecDepth 100000 in
set_option maxHeartbeats 2000000 in
theorem segment_sees {lo cb : Nat} {W : World} {K : Kn} {x : Ask} {y : Who} {dr : Int} (hC : ClAt W cb K.kb x y dr) (hK : KAt lo W K) (hpi : Ho.i64 x.pi) (hpj : Ho.i64 x.pj) (r og : Ho.Rc) (hT : K.T x.pi = some r) (hk : r.ob.kind = 1) (hl : r.ob.cats.length <= 16)
 (xs : List (Int × Int)) (hw : Pa.LV (y.d, xs) (.agg #[.int .i64 y.d, y.v]) W) (hs : Pa.seesS y.d r.ob.df xs r.ob.cats = true) (hen : ∀ q, K.T x.pi = some q -> q.ob.ents.length < 1000000) (hE : Ho.entE K.T x.pi x.pj = 0) (hT2 : K.T x.pj = some og) (hl2 : og.ob.cats.length <= 16) (hkd : og.ob.kind = 2) (hoid : og.ob.id = x.pj) (B : Nat) (hfS : K.fS (Wa.ky x.pj) = some B)
 (wv : Value) (hm : ∀ W' u, Below W.heap.size W W' -> Pa.LV (og.ob.df, og.ob.cats) u W' -> Calls Tryz.prog 138 #[wv, u] W' fun e W'' => e = .returned (.bool true) /\ Below W'.heap.size W' W'') :
 Calls Tryz.prog 139 #[.pointer (some ⟨cb, 0, none⟩), .func (.func 138) #[wv] #[]] W fun e W' => ∃ sp cp, e = .returned (.tuple #[Ho.infoV og (.slice sp og.ob.cats.length cp), .pointer (some ⟨B, 0, none⟩), .int .i64 0]) /\ Below W.heap.size W W' := by
 obtain ⟨W0, hW0⟩ : ∃ W0, W.alloc (.cells #[.int .i64 0, .int .i64 0, .int .i64 0, .int .i64 0, .int .i64 0, .int .i64 0, .slice none 0 0] 89) = W0 := ⟨_, rfl⟩
 have hb0 : Below W.heap.size W W0 := by rw [<- hW0]; exact (Below.refl _ _).alloc (Nat.le_refl _) _
 have hi4 : W0.heap[W.heap.size]? = some (.cells #[.int .i64 0, .int .i64 0, .int .i64 0, .int .i64 0, .int .i64 0, .int .i64 0, .slice none 0 0] 89 (0, 0)) := by rw [<- hW0]; exact heap_alloc_new _ _
 have hz0 : W.heap.size < W0.heap.size := by rw [<- hW0]; simp
 have HTg := Lib.hid (target_sees (hC.below hb0) (hK.below hb0) x.pi x.pj 2 hpi hpj r og hT hk hl xs (hw.below hb0) hs hen hE hT2 hl2 hkd (by decide) wv (fun W' u hb hu => hm W' u (hb0.trans (hb.mono hb0.size)) hu))
 have c2 : W0.cell? ⟨cb, 2, none⟩ = some (.int .i64 x.pi) := (hC.below hb0).cell 2
 have c3 : W0.cell? ⟨cb, 3, none⟩ = some (.int .i64 x.pj) := (hC.below hb0).cell 3
 have HC := Lib.hid hC
 have HK := Lib.hid hK
 have HKd := Lib.hid hkd
 have HB0 := Lib.hid hb0
 have Hi4 := Lib.hid hi4
 obtain ⟨i4, hi4e⟩ : ∃ i4, W.heap.size = i4 := ⟨_, rfl⟩
 have Hi4e := Lib.hid hi4e
 clear hC hK hw hm hb0 hi4 hkd
 go_enter Tryz.func139, Tryz.ntmps139
 go_upto_region 1 with fail
 rw [hi4e] at hz0 Hi4
 clear hW0 hi4e
 go_wp2_with (go_at_call 128; refine HTg.out.mono ?_; rintro e W1 ⟨sp, cp, rfl, hb1⟩; refine Hid.out ?_)
 refine Lib.hid ?_
 unfold Ho.infoV
 rw [HKd.out]
 go_upto_region 4 with fail
 obtain ⟨W2, hW2⟩ : ∃ W2, W1.alloc (.cells #[.int .i64 og.ob.id, .int .i64 2, .int .i64 og.ob.quota, .int .i64 og.ob.used, .int .i64 og.ob.links, .int .i64 og.ob.df, .slice sp og.ob.cats.length cp] 89) = W2 := ⟨_, rfl⟩
 have hb2 : Below W1.heap.size W1 W2 := by rw [<- hW2]; exact (Below.refl _ _).alloc (Nat.le_refl _) _
 have hi7 : W2.heap[W1.heap.size]? = some (.cells #[.int .i64 og.ob.id, .int .i64 2, .int .i64 og.ob.quota, .int .i64 og.ob.used, .int .i64 og.ob.links, .int .i64 og.ob.df, .slice sp og.ob.cats.length cp] 89 (0, 0)) := by rw [<- hW2]; exact heap_alloc_new _ _
 have hz1 : i4 < W1.heap.size := Nat.lt_of_lt_of_le hz0 hb1.size
 obtain ⟨i7, hi7e⟩ : ∃ i7, W1.heap.size = i7 := ⟨_, rfl⟩
 have hb02 : Below W.heap.size W0 W2 := (hb1.trans (hb2.mono hb1.size)).mono HB0.out.size
 have HB2 := Lib.hid (HB0.out.trans hb02)
 have hC2 := HC.out.below HB2.out
 have hK2 := HK.out.below HB2.out
 have t0 : W2.cell? ⟨cb, 0, none⟩ = some (.pointer (some ⟨K.kb, 0, none⟩)) := hC2.cell 0
 have t2 : W2.cell? ⟨K.kb, 2, none⟩ = some (.map (some K.ms)) := hK2.cell 2
 have Hi4W := Lib.hid (show W2.heap[i4]? = _ from (hb2.block i4 hz1).trans ((hb1.block i4 hz0).trans Hi4.out))
 rw [hi7e] at hi7 hz1
 have HQ := Lib.hid (info7 hi7).1
 obtain ⟨q0, q1, q2, q3, q4, q5, q6⟩ := (info7 hi7).1
 have h4W : ∀ k, W.heap[k]? ≠ none -> k ≠ i4 := fun k hk e => by rw [e, <- Hi4e.out, Array.getElem?_eq_none (Nat.le_refl _)] at hk; exact hk rfl
 have hncb : cb ≠ i4 := h4W cb (by rw [HC.out]; simp)
 have hnkb : K.kb ≠ i4 := h4W K.kb (by rw [HK.out.blk]; simp)
 have hnms : K.ms ≠ i4 := fun e => by have := HK.out.mS.lt; have := Hi4e.out; omega
 have hni7 : i7 ≠ i4 := by omega
 have HL : Hid (∀ X : World, X.heap[K.ms]? = W2.heap[K.ms]? -> (Instr.lookup 62 (.map (some K.ms)) (.int .i64 x.pj) false).run Tryz.prog X = .ok (.pointer (some ⟨B, 0, none⟩)) X) := Lib.hid (fun X hX => by
  have h5 := (hK2.mS.same hX).look (T := 62) (e := 142) keyedI (by kernel_rfl) (by kernel_rfl) (Wa.keyI hpj)
  rw [hfS] at h5
  exact h5)
 have HOid := Lib.hid hoid
 rw [hoid]
 rw [hoid] at hi7 q0 HQ hW2
 rw [hW2, hi7e]
 clear hC2 hK2 hb1 hb2 hb02 hi7e hi7 h4W hW2
 refine Ko.wp_region_cst (fun d => match d with | 24 => .agg #[.int .i64 x.pj, .int .i64 2, .int .i64 og.ob.quota, .int .i64 og.ob.used, .int .i64 og.ob.links, .int .i64 og.ob.df, .slice sp og.ob.cats.length cp] | 25 => .pointer (some ⟨cb, 0, none⟩) | 26 => .pointer (some ⟨cb, 0, none⟩) | 27 => .pointer (some ⟨cb, 0, none⟩) | 28 => .pointer (some ⟨K.kb, 0, none⟩) | 29 => .pointer (some ⟨K.kb, 0, none⟩) | 30 => .pointer (some ⟨K.kb, 2, none⟩) | 31 => .map (some K.ms) | 32 => .pointer (some ⟨i7, 0, none⟩) | 33 => .int .i64 x.pj | 34 => .pointer (some ⟨B, 0, none⟩) | 5 => .pointer (some ⟨B, 0, none⟩) | 6 => .int .i64 0 | _ => undef) (fun li Wq => (Wq = if li.getD 11 false = true then (W2.drew.setCells i4 0 [.int .i64 x.pj, .int .i64 2, .int .i64 og.ob.quota, .int .i64 og.ob.used, .int .i64 og.ob.links, .int .i64 og.ob.df, .slice sp og.ob.cats.length cp]) else W2.drew)) (by kernel_rfl) (by kernel_rfl) (by kernel_rfl) ?_ ?_ ?_
 · rfl
 · intro a' X li hJ hs hk i o ho hli hdn hG hcb
   have hJk : ∀ li' : Array Bool, li'.getD 11 false = li.getD 11 false -> (X = if li'.getD 11 false = true then (W2.drew.setCells i4 0 [.int .i64 x.pj, .int .i64 2, .int .i64 og.ob.quota, .int .i64 og.ob.used, .int .i64 og.ob.links, .int .i64 og.ob.df, .slice sp og.ob.cats.length cp]) else W2.drew) := fun li' e9 => by
    rw [e9]; exact hJ
   have hh : ∀ k, k ≠ i4 -> X.heap[k]? = W2.heap[k]? := fun k hk => by
    rw [hJ]
    split
    · exact Ko.other_set W2.drew i4 0 _ hk
    · rfl
   match i, ho with
   | 0, ho =>
    cases ho
    have g7 : a'.eval (.tmp 7) = .pointer (some ⟨i7, 0, none⟩) := hk 7 (by kernel_rfl)
    generalize a'.eval = ev at g7 |-
    clear hG hk hdn hcb hJ
    have t0X := (World.cell?_of_block (a := ⟨cb, 0, none⟩) (hh cb hncb)).trans t0; have t2X := (World.cell?_of_block (a := ⟨K.kb, 2, none⟩) (hh K.kb hnkb)).trans t2; have i0X := (World.cell?_of_block (a := ⟨i7, 0, none⟩) (hh i7 hni7)).trans q0; clear t0 t2 q0 q1 q2 q3 q4 q5 q6
    have i1X := (World.cell?_of_block (a := ⟨i7, 1, none⟩) (hh i7 hni7)).trans HQ.out.2.1
    have i2X := (World.cell?_of_block (a := ⟨i7, 2, none⟩) (hh i7 hni7)).trans HQ.out.2.2.1
    have i3X := (World.cell?_of_block (a := ⟨i7, 3, none⟩) (hh i7 hni7)).trans HQ.out.2.2.2.1
    have i4X := (World.cell?_of_block (a := ⟨i7, 4, none⟩) (hh i7 hni7)).trans HQ.out.2.2.2.2.1
    have i5X := (World.cell?_of_block (a := ⟨i7, 5, none⟩) (hh i7 hni7)).trans HQ.out.2.2.2.2.2.1
    have i6X := (World.cell?_of_block (a := ⟨i7, 6, none⟩) (hh i7 hni7)).trans HQ.out.2.2.2.2.2.2
    exact ⟨rfl, .inl ⟨24, X, rfl, by clear hs hJk hh; go_simp, fun li' h1 h2 => hJk li' (h2 11 (by decide))⟩⟩
   | 1, ho =>
    cases ho
    have g0 : a'.eval (.tmp 0) = .pointer (some ⟨cb, 0, none⟩) := hk 0 (by kernel_rfl)
    generalize a'.eval = ev at g0 |-
    clear hG hk hdn hcb hJ
    have t0X := (World.cell?_of_block (a := ⟨cb, 0, none⟩) (hh cb hncb)).trans t0; have t2X := (World.cell?_of_block (a := ⟨K.kb, 2, none⟩) (hh K.kb hnkb)).trans t2; have i0X := (World.cell?_of_block (a := ⟨i7, 0, none⟩) (hh i7 hni7)).trans q0; clear t0 t2 q0 q1 q2 q3 q4 q5 q6
    exact ⟨rfl, .inl ⟨25, X, rfl, by clear hs hJk hh; go_simp, fun li' h1 h2 => hJk li' (h2 11 (by decide))⟩⟩
   | 2, ho =>
    cases ho
    have g25 : a'.eval (.tmp 25) = .pointer (some ⟨cb, 0, none⟩) := hG 1 25 (hdn ⟨1, .data⟩ (by simp) rfl) rfl
    generalize a'.eval = ev at g25 |-
    clear hG hk hdn hcb hJ
    have t0X := (World.cell?_of_block (a := ⟨cb, 0, none⟩) (hh cb hncb)).trans t0; have t2X := (World.cell?_of_block (a := ⟨K.kb, 2, none⟩) (hh K.kb hnkb)).trans t2; have i0X := (World.cell?_of_block (a := ⟨i7, 0, none⟩) (hh i7 hni7)).trans q0; clear t0 t2 q0 q1 q2 q3 q4 q5 q6
    exact ⟨rfl, .inl ⟨26, X, rfl, by clear hs hJk hh; go_simp, fun li' h1 h2 => hJk li' (h2 11 (by decide))⟩⟩
   | 3, ho =>
    cases ho
    have g26 : a'.eval (.tmp 26) = .pointer (some ⟨cb, 0, none⟩) := hG 2 26 (hdn ⟨2, .data⟩ (by simp) rfl) rfl
    generalize a'.eval = ev at g26 |-
    clear hG hk hdn hcb hJ
    have t0X := (World.cell?_of_block (a := ⟨cb, 0, none⟩) (hh cb hncb)).trans t0; have t2X := (World.cell?_of_block (a := ⟨K.kb, 2, none⟩) (hh K.kb hnkb)).trans t2; have i0X := (World.cell?_of_block (a := ⟨i7, 0, none⟩) (hh i7 hni7)).trans q0; clear t0 t2 q0 q1 q2 q3 q4 q5 q6
    exact ⟨rfl, .inl ⟨27, X, rfl, by clear hs hJk hh; go_simp, fun li' h1 h2 => hJk li' (h2 11 (by decide))⟩⟩
   | 4, ho =>
    cases ho
    have g27 : a'.eval (.tmp 27) = .pointer (some ⟨cb, 0, none⟩) := hG 3 27 (hdn ⟨3, .data⟩ (by simp) rfl) rfl
    generalize a'.eval = ev at g27 |-
    clear hG hk hdn hcb hJ
    have t0X := (World.cell?_of_block (a := ⟨cb, 0, none⟩) (hh cb hncb)).trans t0; have t2X := (World.cell?_of_block (a := ⟨K.kb, 2, none⟩) (hh K.kb hnkb)).trans t2; have i0X := (World.cell?_of_block (a := ⟨i7, 0, none⟩) (hh i7 hni7)).trans q0; clear t0 t2 q0 q1 q2 q3 q4 q5 q6
    exact ⟨rfl, .inl ⟨28, X, rfl, by clear hs hJk hh; go_simp, fun li' h1 h2 => hJk li' (h2 11 (by decide))⟩⟩
   | 5, ho =>
    cases ho
    have g28 : a'.eval (.tmp 28) = .pointer (some ⟨K.kb, 0, none⟩) := hG 4 28 (hdn ⟨4, .data⟩ (by simp) rfl) rfl
    generalize a'.eval = ev at g28 |-
    clear hG hk hdn hcb hJ
    have t0X := (World.cell?_of_block (a := ⟨cb, 0, none⟩) (hh cb hncb)).trans t0; have t2X := (World.cell?_of_block (a := ⟨K.kb, 2, none⟩) (hh K.kb hnkb)).trans t2; have i0X := (World.cell?_of_block (a := ⟨i7, 0, none⟩) (hh i7 hni7)).trans q0; clear t0 t2 q0 q1 q2 q3 q4 q5 q6
    exact ⟨rfl, .inl ⟨29, X, rfl, by clear hs hJk hh; go_simp, fun li' h1 h2 => hJk li' (h2 11 (by decide))⟩⟩
   | 6, ho =>
    cases ho
    have g29 : a'.eval (.tmp 29) = .pointer (some ⟨K.kb, 0, none⟩) := hG 5 29 (hdn ⟨5, .data⟩ (by simp) rfl) rfl
    generalize a'.eval = ev at g29 |-
    clear hG hk hdn hcb hJ
    have t0X := (World.cell?_of_block (a := ⟨cb, 0, none⟩) (hh cb hncb)).trans t0; have t2X := (World.cell?_of_block (a := ⟨K.kb, 2, none⟩) (hh K.kb hnkb)).trans t2; have i0X := (World.cell?_of_block (a := ⟨i7, 0, none⟩) (hh i7 hni7)).trans q0; clear t0 t2 q0 q1 q2 q3 q4 q5 q6
    exact ⟨rfl, .inl ⟨30, X, rfl, by clear hs hJk hh; go_simp, fun li' h1 h2 => hJk li' (h2 11 (by decide))⟩⟩
   | 7, ho =>
    cases ho
    have g30 : a'.eval (.tmp 30) = .pointer (some ⟨K.kb, 2, none⟩) := hG 6 30 (hdn ⟨6, .data⟩ (by simp) rfl) rfl
    generalize a'.eval = ev at g30 |-
    clear hG hk hdn hcb hJ
    have t0X := (World.cell?_of_block (a := ⟨cb, 0, none⟩) (hh cb hncb)).trans t0; have t2X := (World.cell?_of_block (a := ⟨K.kb, 2, none⟩) (hh K.kb hnkb)).trans t2; have i0X := (World.cell?_of_block (a := ⟨i7, 0, none⟩) (hh i7 hni7)).trans q0; clear t0 t2 q0 q1 q2 q3 q4 q5 q6
    exact ⟨rfl, .inl ⟨31, X, rfl, by clear hs hJk hh; go_simp, fun li' h1 h2 => hJk li' (h2 11 (by decide))⟩⟩
   | 8, ho =>
    cases ho
    have g7 : a'.eval (.tmp 7) = .pointer (some ⟨i7, 0, none⟩) := hk 7 (by kernel_rfl)
    generalize a'.eval = ev at g7 |-
    clear hG hk hdn hcb hJ
    have t0X := (World.cell?_of_block (a := ⟨cb, 0, none⟩) (hh cb hncb)).trans t0; have t2X := (World.cell?_of_block (a := ⟨K.kb, 2, none⟩) (hh K.kb hnkb)).trans t2; have i0X := (World.cell?_of_block (a := ⟨i7, 0, none⟩) (hh i7 hni7)).trans q0; clear t0 t2 q0 q1 q2 q3 q4 q5 q6
    exact ⟨rfl, .inl ⟨32, X, rfl, by clear hs hJk hh; go_simp, fun li' h1 h2 => hJk li' (h2 11 (by decide))⟩⟩
   | 9, ho =>
    cases ho
    have g32 : a'.eval (.tmp 32) = .pointer (some ⟨i7, 0, none⟩) := hG 8 32 (hdn ⟨8, .data⟩ (by simp) rfl) rfl
    generalize a'.eval = ev at g32 |-
    clear hG hk hdn hcb hJ
    have t0X := (World.cell?_of_block (a := ⟨cb, 0, none⟩) (hh cb hncb)).trans t0; have t2X := (World.cell?_of_block (a := ⟨K.kb, 2, none⟩) (hh K.kb hnkb)).trans t2; have i0X := (World.cell?_of_block (a := ⟨i7, 0, none⟩) (hh i7 hni7)).trans q0; clear t0 t2 q0 q1 q2 q3 q4 q5 q6
    exact ⟨rfl, .inl ⟨33, X, rfl, by clear hs hJk hh; go_simp, fun li' h1 h2 => hJk li' (h2 11 (by decide))⟩⟩
   | 10, ho =>
    cases ho
    have g31 : a'.eval (.tmp 31) = .map (some K.ms) := hG 7 31 (hdn ⟨7, .data⟩ (by simp) rfl) rfl
    have g33 : a'.eval (.tmp 33) = .int .i64 x.pj := hG 9 33 (hdn ⟨9, .data⟩ (by simp) rfl) rfl
    generalize a'.eval = ev at g31 g33 |-
    clear hG hk hdn hcb hJ
    have t0X := (World.cell?_of_block (a := ⟨cb, 0, none⟩) (hh cb hncb)).trans t0; have t2X := (World.cell?_of_block (a := ⟨K.kb, 2, none⟩) (hh K.kb hnkb)).trans t2; have i0X := (World.cell?_of_block (a := ⟨i7, 0, none⟩) (hh i7 hni7)).trans q0; clear t0 t2 q0 q1 q2 q3 q4 q5 q6
    have hlk := HL.out X (hh K.ms hnms)
    clear t0X t2X i0X
    exact ⟨rfl, .inl ⟨34, X, rfl, by clear hs hJk hh; go_simp, fun li' h1 h2 => hJk li' (h2 11 (by decide))⟩⟩
   | 11, ho =>
    cases ho
    have g4 : a'.eval (.tmp 4) = .pointer (some ⟨i4, 0, none⟩) := hk 4 (by kernel_rfl)
    have g24 : a'.eval (.tmp 24) = .agg #[.int .i64 x.pj, .int .i64 2, .int .i64 og.ob.quota, .int .i64 og.ob.used, .int .i64 og.ob.links, .int .i64 og.ob.df, .slice sp og.ob.cats.length cp] := hG 0 24 (hdn ⟨0, .data⟩ (by simp) rfl) rfl
    have hX : X = W2.drew := by rw [hJ, hli]; rfl
    clear hJk hJ hh
    subst hX
    refine ⟨rfl, .inr (.inl ⟨(W2.drew.setCells i4 0 [.int .i64 x.pj, .int .i64 2, .int .i64 og.ob.quota, .int .i64 og.ob.used, .int .i64 og.ob.links, .int .i64 og.ob.df, .slice sp og.ob.cats.length cp]), rfl, ?_, fun li' h1 h2 => by rw [h1]; rfl⟩)⟩
    generalize a'.eval = ev at g4 g24 |-
    clear hG hk hdn hcb
    obtain ⟨⟨y0, y1, y2, y3, y4, y5, y6⟩, ⟨f0, f1, f2, f3, f4, f5, f6⟩⟩ := info7 (W := W2.drew) Hi4W.out
    obtain ⟨Y, hY⟩ : ∃ Y, W2.drew = Y := ⟨_, rfl⟩
    rw [hY] at y0 y1 y2 y3 y4 y5 y6 f0 f1 f2 f3 f4 f5 f6 |-
    clear hY
    clear t0 t2 q0 q1 q2 q3 q4 q5 q6
    go_simp
    rfl
   | 12, ho =>
    cases ho
    have g34 : a'.eval (.tmp 34) = .pointer (some ⟨B, 0, none⟩) := hG 10 34 (hdn ⟨10, .data⟩ (by simp) rfl) rfl
    generalize a'.eval = ev at g34 |-
    clear hG hk hdn hcb hJ
    have t0X := (World.cell?_of_block (a := ⟨cb, 0, none⟩) (hh cb hncb)).trans t0; have t2X := (World.cell?_of_block (a := ⟨K.kb, 2, none⟩) (hh K.kb hnkb)).trans t2; have i0X := (World.cell?_of_block (a := ⟨i7, 0, none⟩) (hh i7 hni7)).trans q0; clear t0 t2 q0 q1 q2 q3 q4 q5 q6
    exact ⟨rfl, .inl ⟨5, X, rfl, by clear hs hJk hh; go_simp, fun li' h1 h2 => hJk li' (h2 11 (by decide))⟩⟩
   | 13, ho =>
    cases ho
    have k0 : a'.eval (.const (.int .i64 0)) = (.int .i64 0) := rfl
    generalize a'.eval = ev at k0 |-
    clear hG hk hdn hcb hJ
    have t0X := (World.cell?_of_block (a := ⟨cb, 0, none⟩) (hh cb hncb)).trans t0; have t2X := (World.cell?_of_block (a := ⟨K.kb, 2, none⟩) (hh K.kb hnkb)).trans t2; have i0X := (World.cell?_of_block (a := ⟨i7, 0, none⟩) (hh i7 hni7)).trans q0; clear t0 t2 q0 q1 q2 q3 q4 q5 q6
    exact ⟨rfl, .inl ⟨6, X, rfl, by clear hs hJk hh; go_simp, fun li' h1 h2 => hJk li' (h2 11 (by decide))⟩⟩
   | j + 14, ho => simp at ho
 · intro a' X li hJ hs hdf hk hall hG
   obtain ⟨tm, df⟩ := a'
   obtain rfl : df = [] := hdf
   have htm := arr3 [.pointer (some ⟨cb, 0, none⟩), .func (.func 138) #[wv] #[], undef, undef, .pointer (some ⟨i4, 0, none⟩), .pointer (some ⟨B, 0, none⟩), .int .i64 0, .pointer (some ⟨i7, 0, none⟩), .int .i64 0, .tuple #[.agg #[.int .i64 x.pj, .int .i64 2, .int .i64 og.ob.quota, .int .i64 og.ob.used, .int .i64 og.ob.links, .int .i64 og.ob.df, .slice sp og.ob.cats.length cp], .int .i64 0], .pointer (some ⟨cb, 0, none⟩), .pointer (some ⟨cb, 0, none⟩), .pointer (some ⟨cb, 0, none⟩), .pointer (some ⟨cb, 1, none⟩), .pointer (some ⟨cb, 2, none⟩), .agg #[.int .i64 x.pi, .int .i64 x.pj], .func (.func 138) #[wv] #[], .tuple #[.agg #[.int .i64 x.pj, .int .i64 2, .int .i64 og.ob.quota, .int .i64 og.ob.used, .int .i64 og.ob.links, .int .i64 og.ob.df, .slice sp og.ob.cats.length cp], .int .i64 0], .agg #[.int .i64 x.pj, .int .i64 2, .int .i64 og.ob.quota, .int .i64 og.ob.used, .int .i64 og.ob.links, .int .i64 og.ob.df, .slice sp og.ob.cats.length cp], .int .i64 0, .int .i64 0, .bool false, undef, undef, .agg #[.int .i64 x.pj, .int .i64 2, .int .i64 og.ob.quota, .int .i64 og.ob.used, .int .i64 og.ob.links, .int .i64 og.ob.df, .slice sp og.ob.cats.length cp], .pointer (some ⟨cb, 0, none⟩), .pointer (some ⟨cb, 0, none⟩), .pointer (some ⟨cb, 0, none⟩), .pointer (some ⟨K.kb, 0, none⟩), .pointer (some ⟨K.kb, 0, none⟩), .pointer (some ⟨K.kb, 2, none⟩), .map (some K.ms), .pointer (some ⟨i7, 0, none⟩), .int .i64 x.pj, .pointer (some ⟨B, 0, none⟩)] hs (ae 1 (by exact hk 0 rfl) (ae 2 (by exact hk 1 rfl) (ae 3 (by exact hk 2 rfl) (ae 4 (by exact hk 3 rfl) (ae 5 (by exact hk 4 rfl) (ae 6 (by exact hG 12 5 (by decide) rfl) (ae 7 (by exact hG 13 6 (by decide) rfl) (ae 8 (by exact hk 7 rfl) (ae 9 (by exact hk 8 rfl) (ae 10 (by exact hk 9 rfl) (ae 11 (by exact hk 10 rfl) (ae 12 (by exact hk 11 rfl) (ae 13 (by exact hk 12 rfl) (ae 14 (by exact hk 13 rfl) (ae 15 (by exact hk 14 rfl) (ae 16 (by exact hk 15 rfl) (ae 17 (by exact hk 16 rfl) (ae 18 (by exact hk 17 rfl) (ae 19 (by exact hk 18 rfl) (ae 20 (by exact hk 19 rfl) (ae 21 (by exact hk 20 rfl) (ae 22 (by exact hk 21 rfl) (ae 23 (by exact hk 22 rfl) (ae 24 (by exact hk 23 rfl) (ae 25 (by exact hG 0 24 (by decide) rfl) (ae 26 (by exact hG 1 25 (by decide) rfl) (ae 27 (by exact hG 2 26 (by decide) rfl) (ae 28 (by exact hG 3 27 (by decide) rfl) (ae 29 (by exact hG 4 28 (by decide) rfl) (ae 30 (by exact hG 5 29 (by decide) rfl) (ae 31 (by exact hG 6 30 (by decide) rfl) (ae 32 (by exact hG 7 31 (by decide) rfl) (ae 33 (by exact hG 8 32 (by decide) rfl) (ae 34 (by exact hG 9 33 (by decide) rfl) (ae 35 (by exact hG 10 34 (by decide) rfl) az)))))))))))))))))))))))))))))))))))
   subst htm
   rw [hall 11 (by decide)] at hJ
   obtain rfl : X = (W2.drew.setCells i4 0 [.int .i64 x.pj, .int .i64 2, .int .i64 og.ob.quota, .int .i64 og.ob.used, .int .i64 og.ob.links, .int .i64 og.ob.df, .slice sp og.ob.cats.length cp]) := hJ
   clear hG hk hs hall
   have hr7 := set7 (W := W2.drew) (v0 := .int .i64 x.pj) (v1 := .int .i64 2) (v2 := .int .i64 og.ob.quota) (v3 := .int .i64 og.ob.used) (v4 := .int .i64 og.ob.links) (v5 := .int .i64 og.ob.df) (v6 := .slice sp og.ob.cats.length cp) Hi4W.out
   have hbe := Go.below_setCells (show W.heap.size <= i4 by have := Hi4e.out; omega) [.int .i64 x.pj, .int .i64 2, .int .i64 og.ob.quota, .int .i64 og.ob.used, .int .i64 og.ob.links, .int .i64 og.ob.df, .slice sp og.ob.cats.length cp] 0 W2.drew HB2.out.drew
   have Hr7 := Lib.hid hr7
   have Hbe := Lib.hid hbe
   obtain ⟨W3, hW3⟩ : ∃ W3, W2.drew.setCells i4 0 [.int .i64 x.pj, .int .i64 2, .int .i64 og.ob.quota, .int .i64 og.ob.used, .int .i64 og.ob.links, .int .i64 og.ob.df, .slice sp og.ob.cats.length cp] = W3 := ⟨_, rfl⟩
   rw [hW3] at Hr7 Hbe |-
   clear hr7 hbe hW3 t0 t2 q0 q1 q2 q3 q4 q5 q6
   go_wp2
   refine bodyPost_ret (v := .tuple #[.agg #[.int .i64 x.pj, .int .i64 2, .int .i64 og.ob.quota, .int .i64 og.ob.used, .int .i64 og.ob.links, .int .i64 og.ob.df, .slice sp og.ob.cats.length cp], .pointer (some ⟨B, 0, none⟩), .int .i64 0]) ?_ rfl ⟨sp, cp, by unfold Ho.infoV; rw [HKd.out, HOid.out], Hbe.out⟩
   exact results_cell_tmp2 Tryz.results139 _ _ i4 _ _ rfl Hr7.out Tryz.underlying89 rfl infoI
end Go.Proofs.YtmgfakfiiaeofaaGreat
