/- Do of package kern: a call that is done by a method. -/
import Derived.Test.YtmgfakfiiaeofaaGreatKCre
import Derived.Test.YtmgfakfiiaeofaaGreatKCell
namespace Go.Proofs.YtmgfakfiiaeofaaGreat
open Go.RowKit Go.Sort
theorem fn_nilIn (d f : Nat) (W : World) : (Op.equalIn (d + 1) 102 (.func (.func f) #[] #[]) .nilFunc).run Tryz.prog W = .ok false W := by
 have h : Tryz.prog.underlying 102 = some (.func #[99] #[49, 26] false) := by kernel_rfl
 simp only [Op.equalIn, Sem.run_bind, run_underlying h, Result.andThen_ok, go_sem]
 rfl
theorem fn_nil (f : Nat) (W : World) : (binOp .eql 102 (.func (.func f) #[] #[]) .nilFunc).run Tryz.prog W = .ok (.bool false) W := by
 have h : (Op.equal 102 (.func (.func f) #[] #[]) .nilFunc).run Tryz.prog W = .ok false W := fn_nilIn 9999 f W
 simp only [binOp, Sem.run_bind, h, Result.andThen_ok, go_sem]
 rfl
def tdV (n : Int) (s : ByteArray) : Value := .agg #[.int .i64 n, .string s, .int .i64 0, .slice none 0 0, .int .i64 0, .slice none 0 0, .slice none 0 0, .slice none 0 0]
set_option maxRecDepth 100000 in
set_option maxHeartbeats 4000000 in
theorem do_any {lo : Nat} {W : World} {K : Kn} (hK : KAt lo W K) (id : Int) (hid : Wa.i64 id) (B : Nat) (hT : K.fT (Wa.ky id) = some B) (hsp : (K.th id).sp = false) (hw : Wa.whereA K.all id = none) (r : Ho.Rc) (hTb : K.T id = some r) (hl : r.ob.cats.length <= 16) (x : Ask) (dr : Int)
 (hlv : ∃ p n c, x.lv = .slice p n c) (hmv : ∃ p n c, x.mv = .slice p n c) (f : Nat) (hrow : ∀ W', Calls Tryz.prog 29 #[.int .i64 x.op] W' fun e W'' => e = .returned (.func (.func f) #[] #[]) /\ Below W'.heap.size W' W'')
 (hent : ∀ args w, (callFunc f args).run Tryz.prog w = .ok (.enter f args) w)
 (n er : Int) (s : ByteArray) (P : Kn -> Prop)
 (hm : ∀ (W1 : World) (cb : Nat) (v : Value), Below W.heap.size W W1 -> ClAt W1 cb K.kb x ⟨B, id, r.ob.df, v⟩ dr -> W.heap.size <= cb -> Pa.LV (r.ob.df, r.ob.cats) (.agg #[.int .i64 r.ob.df, v]) W1 ->
  Calls Tryz.prog f #[.pointer (some ⟨cb, 0, none⟩)] W1 fun e W' => e = .returned (.tuple #[tdV n s, .int .i64 er]) /\ ∃ K', KAt lo W' K' /\ P K' /\ Below lo W1 W' /\ ∀ k, k < W1.heap.size -> K.own k = none -> W'.heap[k]? = W1.heap[k]? /\ K'.own k = none) :
 Calls Tryz.prog 11 #[.pointer (some ⟨K.kb, 0, none⟩), .int .i64 id, askV x, .int .i64 dr] W fun e W' => e = .returned (.tuple #[tdV n s, .int .i64 er]) /\ ∃ K', KAt lo W' K' /\ P K' /\ Below lo W W' /\ ∀ k, k < W.heap.size -> K.own k = none -> W'.heap[k]? = W.heap[k]? /\ K'.own k = none := by
 have HBg := Lib.hid (fun (X : World) (hb : Below W.heap.size W X) => begin_ok (hK.below hb) id hid B hT hsp hw r hTb hl x dr hlv hmv)
 obtain ⟨lp, ln, lc, hlv⟩ := hlv
 obtain ⟨mp, mn, mc, hmv⟩ := hmv
 unfold askV at HBg |-
 rw [hlv, hmv] at HBg |-
 obtain ⟨cl, hcl⟩ : ∃ cl : List Value, [.int .i64 x.op, .int .i64 x.pi, .int .i64 x.pj, .int .i64 x.qi, .int .i64 x.qj, .int .i64 x.a, .int .i64 x.b, .int .i64 x.c, .int .i64 x.ld, .slice lp ln lc, .int .i64 x.md, .slice mp mn mc, .string x.s, .int .i64 x.at_, .int .i64 x.pg, .int .i64 x.inn, .int .i64 x.mid, .int .i64 x.fr, .bool x.wr, .bool x.rn] = cl := ⟨_, rfl⟩
 have hcs : #[.int .i64 x.op, .int .i64 x.pi, .int .i64 x.pj, .int .i64 x.qi, .int .i64 x.qj, .int .i64 x.a, .int .i64 x.b, .int .i64 x.c, .int .i64 x.ld, .slice lp ln lc, .int .i64 x.md, .slice mp mn mc, .string x.s, .int .i64 x.at_, .int .i64 x.pg, .int .i64 x.inn, .int .i64 x.mid, .int .i64 x.fr, .bool x.wr, .bool x.rn] = cl.toArray := by rw [<- hcl]
 have hcn : cl.length = 20 := by rw [<- hcl]; rfl
 rw [hcs] at HBg
 obtain ⟨W0, hW0⟩ : ∃ W0, (W.alloc (.cells cl.toArray 56)).alloc (.cells toldZ 49) = W0 := ⟨_, rfl⟩
 have hb0 : Below W.heap.size W W0 := by rw [<- hW0]; go_grown
 have hi6 : W0.heap[W.heap.size]? = some (.cells cl.toArray 56 (0, 0)) := by rw [<- hW0, Below.heap_alloc _ _ _ (by simp)]; exact heap_alloc_new _ _
 have hi8 : W0.heap[W.heap.size + 1]? = some (.cells toldZ 49 (0, 0)) := by
  rw [<- hW0]
  have := heap_alloc_new (W.alloc (.cells cl.toArray 56)) (.cells toldZ 49)
  rwa [show (W.alloc (.cells cl.toArray 56)).heap.size = W.heap.size + 1 from by simp] at this
 have hz0 : W.heap.size + 1 < W0.heap.size := by rw [<- hW0]; simp
 have HBg0 := Lib.hid (HBg.out W0 hb0)
 have HK := Lib.hid hK
 have HB0 := Lib.hid hb0
 have Hi6 : Hid (W0.rangeAt W.heap.size 0 cl) := Lib.hid (rng_of hi6)
 have Hi8 := Lib.hid hi8
 have c0 : W0.cell? ⟨W.heap.size, 0, none⟩ = some (.int .i64 x.op) := by simp [World.cell?, hi6, <- hcl]
 obtain ⟨i6, hi6e⟩ : ∃ i6, W.heap.size = i6 := ⟨_, rfl⟩
 have Hi6e := Lib.hid hi6e
 have HiC : Hid ((Tryz.prog.info? 56).map (·.size) = some cl.length) := Lib.hid (by rw [hcn]; exact infoC)
 clear hK hb0 hi6 hi8 HBg hlv hmv hcl hcn
 unfold toldZ at hW0
 go_enter Tryz.func11, Tryz.ntmps11
 go_upto_region 1 with fail
 rw [hcs]
 try rw [hW0]
 rw [hi6e] at hz0 Hi6 Hi8 c0
 clear hW0 hcs
 go_wp2_with (first
  | (go_at_call 28; refine HBg0.out.mono ?_; rintro e W1 ⟨cb, v, rfl, hcl, hcb, hLv, hb1⟩; refine Hid.out ?_)
  | (refine wpList_load_mid rfl 56 _ rfl i6 0 rfl _ _ Hi6.out Tryz.underlying56 rfl HiC.out ?_))
 refine Lib.hid ?_
 have HB1 := Lib.hid (HB0.out.trans (hb1.mono HB0.out.size))
 have hz1 : i6 + 1 < W1.heap.size := Nat.lt_of_lt_of_le hz0 hb1.size
 have c1 : W1.cell? ⟨i6, 0, none⟩ = some (.int .i64 x.op) := (hb1.cell (p := ⟨i6, 0, none⟩) (by show i6 < _; omega)).trans c0
 have Hi81 := Lib.hid ((hb1.block (i6 + 1) hz0).trans Hi8.out)
 have HCl := Lib.hid hcl
 have HLv := Lib.hid hLv
 have HR := Lib.hid (hrow W1)
 clear hb1 hcl hLv c0 HBg0 hT hsp hw hTb hl hrow
 go_wp2_with (go_at_call 29; refine HR.out.mono ?_; rintro e W2 ⟨rfl, hb2⟩; refine Hid.out ?_)
 refine Lib.hid ?_
 have HB2 := Lib.hid (HB1.out.trans (hb2.mono HB1.out.size))
 have hz2 : i6 + 1 < W2.heap.size := Nat.lt_of_lt_of_le hz1 hb2.size
 have Hi82 := Lib.hid ((hb2.block (i6 + 1) hz1).trans Hi81.out)
 have HM := Lib.hid (hm W2 cb v HB2.out (HCl.out.below hb2) (Nat.le_trans HB0.out.size hcb) (HLv.out.below hb2))
 have hfn := fn_nil f W2
 have hen := hent
 clear hb2 hm c1 hent
 go_wp2_with (refine HM.out.mono ?_; rintro e W3 ⟨rfl, K', hK', hP, hb3, hkeep⟩; refine Hid.out ?_)
 refine Lib.hid ?_
 have hown : K.own (i6 + 1) = none := by
  cases ho : K.own (i6 + 1) with
  | none => rfl
  | some g => exfalso; have := (HK.out.lt (i6 + 1) (by rw [ho]; simp)).2; have := Hi6e.out; omega
 obtain ⟨hI3, oI3⟩ := hkeep (i6 + 1) hz2 hown
 have hi83 := hI3.trans Hi82.out
 have hlo0 : lo <= i6 := by have h5 := HK.out.lt K.kb (by rw [HK.out.okb]; simp); have := Hi6e.out; omega
 have HB3 := Lib.hid ((HB2.out.mono (show lo <= W.heap.size by have := Hi6e.out; omega)).trans hb3)
 unfold toldZ at hi83
 obtain ⟨⟨y0, y1, y2, y3, y4, y5, y6, y7⟩, ⟨f0, f1, f2, f3, f4, f5, f6, f7⟩⟩ := told8 hi83
 have Hr8 := Lib.hid (set8 (v0 := .int .i64 n) (v1 := .string s) (v2 := .int .i64 0) (v3 := .slice none 0 0) (v4 := .int .i64 0) (v5 := .slice none 0 0) (v6 := .slice none 0 0) (v7 := .slice none 0 0) hi83)
 have HKE : Hid (KAt lo (W3.setCells (i6 + 1) 0 [.int .i64 n, .string s, .int .i64 0, .slice none 0 0, .int .i64 0, .slice none 0 0, .slice none 0 0, .slice none 0 0]) K') := Lib.hid (hK'.keep (Nat.le_of_eq (setCells_size _ _ _ _).symm) (fun k hk => Ko.other_set W3 (i6 + 1) 0 _ (fun e => by rw [e] at hk; exact hk oI3)))
 have HbE := Lib.hid (Go.below_setCells (show lo <= i6 + 1 by omega) [.int .i64 n, .string s, .int .i64 0, .slice none 0 0, .int .i64 0, .slice none 0 0, .slice none 0 0, .slice none 0 0] 0 W3 HB3.out)
 have HP := Lib.hid hP
 have HKp : Hid (∀ k, k < W.heap.size -> K.own k = none -> (W3.setCells (i6 + 1) 0 [.int .i64 n, .string s, .int .i64 0, .slice none 0 0, .int .i64 0, .slice none 0 0, .slice none 0 0, .slice none 0 0]).heap[k]? = W.heap[k]? /\ K'.own k = none) := Lib.hid (fun k hk ho => by
  have h5 := hkeep k (Nat.lt_of_lt_of_le hk HB2.out.size) ho
  exact ⟨(Ko.other_set W3 (i6 + 1) 0 _ (by have := Hi6e.out; omega)).trans (h5.1.trans (HB2.out.block k hk)), h5.2⟩)
 clear hkeep hK' hP hb3 hI3 oI3 hown hi83 hz2 hz1 hz0 hcb hlo0 hfn hen
 unfold tdV
 go_wp2
 refine bodyPost_ret (v := .tuple #[tdV n s, .int .i64 er]) ?_ rfl ⟨rfl, K', HKE.out, HP.out, HbE.out, HKp.out⟩
 exact results_cell_tmp Tryz.results11 _ _ (i6 + 1) _ _ rfl Hr8.out Tryz.underlying49 rfl infoT
end Go.Proofs.YtmgfakfiiaeofaaGreat
