/- What begin of package kern answers. -/
import Derived.Test.YtmgfakfiiaeofaaGreatHoCut
import Derived.Test.YtmgfakfiiaeofaaGreatSq
import Derived.Deep.MidRow
import Derived.Lib.LazyBuf
import Derived.Deep.Upon
/- What loosen of package hold does. -/
namespace Go.Proofs.YtmgfakfiiaeofaaGreat.Ho
open Go.RowKit Go.Sort
def del (T : Tab) (i : Int) : Tab := fun k => if k = i then none else T k
def decR (r : Rc) : Rc := { r with ob := { r.ob with links := r.ob.links - 1 } }
def GoodT (T : Tab) : Prop := ∀ k r, T k = some r -> i64 k /\ (∀ x ∈ r.ob.ents, i64 x) /\ r.ob.ents.length < 1000000 /\ 1 <= r.ob.links /\ r.ob.links < 1000000
theorem GoodT.del {T : Tab} (h : GoodT T) (i : Int) : GoodT (del T i) := fun k r hr => by
 unfold YtmgfakfiiaeofaaGreat.Ho.del at hr
 split at hr
 · cases hr
 · exact h k r hr
theorem GoodT.dec {T : Tab} (h : GoodT T) {i : Int} {r : Rc} (hi : T i = some r) (hl : 1 < r.ob.links) : GoodT (upd T i (decR r)) := fun k t ht => by
 unfold upd at ht
 split at ht
 · subst k
   obtain rfl : decR r = t := by simpa using ht
   obtain ⟨h0, h1, h2, h3, h4⟩ := h i r hi
   exact ⟨h0, h1, h2, by show 1 <= r.ob.links - 1; omega, by show r.ob.links - 1 < 1000000; omega⟩
 · exact h k t ht
structure LPost (w w' : World) (base tb mb gb : Nat) (D : DataW Unit) (T T' : Tab) (gone gone' : List Int) (gv gv' : Value) : Prop where
 tab : ∃ D', TAt w' base tb mb D' T' /\ gone'.length + Maps.size D' = gone.length + Maps.size D
 row : w'.ownsRow gb 3 1 gv' gone'.length (ivs gone')
 rblk : ∀ k, gv'.ownBlock = some k -> gv.ownBlock = some k ∨ w.heap.size <= k
 fm : Fm w w' (fun k => tfoot tb mb T k ∨ gv.ownBlock = some k) (fun _ => False)
 sub : ∀ k, tfoot tb mb T' k -> tfoot tb mb T k
 good : GoodT T'
theorem ivs_oneL (L : List Int) : ∀ u ∈ ivs L, u.oneCell' = true := fun u hu => by
 obtain ⟨n, _, rfl⟩ := List.mem_map.1 hu; rfl
theorem addr_plusL (b o j : Nat) : (⟨b, o, none⟩ : Addr).add j = ⟨b, o + j, none⟩ := by unfold Addr.add; split <;> simp_all
set_option maxRecDepth 100000 in
set_option maxHeartbeats 1000000 in
theorem CloneI_any (base : Nat) (v : Value) (l : List Int) (w : World) (hn : l.length < 1000000) (hr : w.ownsRow base 3 1 v l.length (ivs l)) :
 Calls Tryz.prog 161 #[v] w fun e w' => ∃ v', e = .returned v' /\ w'.ownsRow w.heap.size 3 1 v' l.length (ivs l) /\ (v' = .slice none 0 0 ↔ v = .slice none 0 0) /\ Below w.heap.size w w' := by
 obtain ⟨i0, hi, hz0, hz1, hz2⟩ := info_parts intInfo
 have hr2 := hr.2
 rcases hr2 with ⟨rfl, h0⟩ | ⟨g, cap, cur, rfl, _⟩
 · have := List.length_eq_zero_iff.1 h0
   subst this
   have hnil := fun (w : World) => Lib.run_eql_slice_nil (P := Tryz.prog) w 37 3 none 0 0 0 0 Tryz.underlying37
   clear hr
   go_enter Tryz.func161, Tryz.ntmps161
   go_wp2
   go_ret
   exact ⟨_, rfl, World.ownsRow_nil _ _ _ _, by simp, Below.refl _ _⟩
 · have hgl : 0 < l.length -> g < w.heap.size := fun _ => (hr.lt g rfl).2
   have hnil := fun (w : World) => Lib.run_eql_slice_nil (P := Tryz.prog) w 37 3 (some ⟨g, 0, none⟩) l.length cap 0 0 Tryz.underlying37
   have hown : (w.alloc (.cells #[] 3)).ownsRow w.heap.size 3 1 (.slice (some ⟨w.heap.size, 0, none⟩) 0 0) 0 [] := World.ownsRow_lit (base := w.heap.size) (e := 3) (size := 1) w #[] 0 (Nat.le_refl _) (by decide) rfl
   have hW : Below w.heap.size w (w.alloc (.cells #[] 3)) := by go_grown
   have HN : Hid (∀ j u, (ivs l)[j]? = some u -> (w.alloc (.cells #[] 3)).cell? ((⟨g, 0, none⟩ : Addr).add j) = some u) := fun j u hu => by
    have hj : j < l.length := by
     have := (List.getElem?_eq_some_iff.1 hu).1
     simpa [ivs] using this
    rw [addr_plusL, Nat.zero_add, hW.cell (p := ⟨g, j, none⟩) (hgl (by omega)), hr.cellAt j (by omega)]
    exact hu
   have h63 : 0 + l.length <= maxLen := by unfold maxLen; omega
   have hby : (0 + l.length) * 8 <= 140737488355328 := by omega
   clear hr hgl
   go_enter Tryz.func161, Tryz.ntmps161
   go_wp2_with (at_builtin; refine wpList_append_own _ rfl _ _ 37 rfl w.heap.size 3 i0 (.int .i64 0) 1 8 Tryz.underlying37 hi hz0 hz1 hz2 rfl (by decide) _ _ _ rfl hown ⟨g, 0, none⟩ l.length cap (ivs l) rfl (by simp [ivs]) HN.out (ivs_oneL l) h63 hby (by simp) ?_; intro v' w3 hown' hgrow3 hnil3)
   go_ret
   rw [Nat.zero_add, List.nil_append] at hown'
   refine ⟨v', rfl, hown', ⟨fun e => ?_, fun e => by cases e⟩, Below.grown hW hgrow3 (by simp) (fun k hk => Nat.le_of_eq (Option.some.inj (show some w.heap.size = some k from hk)))⟩
   have h2 : Value.slice (some ⟨w.heap.size, 0, none⟩) 0 0 = .slice none 0 0 := (hnil3.1 e).1
   cases h2
theorem list_any {w : World} {base : Nat} {r : Rc} (h : RAt w base r) (hn : r.ob.ents.length < 1000000) :
 Calls Tryz.prog 105 #[.pointer (some ⟨r.B, 7, none⟩)] w fun e w' => ∃ v', e = .returned v' /\ w'.ownsRow w.heap.size 3 1 v' r.ob.ents.length (ivs r.ob.ents) /\ (v' = .slice none 0 0 ↔ r.iv = .slice none 0 0) /\ Below w.heap.size w w' := by
 have c7 : w.cell? ⟨r.B, 7, none⟩ = some r.iv := by simp [World.cell?, h.blk, cellsR]
 have HC := Lib.hid (CloneI_any base r.iv r.ob.ents w hn h.row)
 obtain ⟨sp, cp, hiv⟩ := row_form h.row
 rw [hiv] at c7 HC |-
 clear h
 go_enter Tryz.func105, Tryz.ntmps105
 go_wp2_with (first
  | (go_at_call 161; refine HC.out.mono ?_; rintro e w1 ⟨v', rfl, h1, h2, h3⟩; have H1 := Lib.hid h1; have H2 := Lib.hid h2; clear h1 h2))
 go_ret
 exact ⟨v', rfl, H1.out, H2.out, h3⟩
theorem List_ok {w : World} {base tb mb : Nat} {D : DataW Unit} {T : Tab} (h : TAt w base tb mb D T) (i : Int) (hi : i64 i) (r : Rc) (hT : T i = some r) (hk : r.ob.kind = 1) (hn : r.ob.ents.length < 1000000) :
 Calls Tryz.prog 49 #[.pointer (some ⟨tb, 0, none⟩), .int .i64 i] w fun e w' => ∃ v', e = .returned (.tuple #[v', .int .i64 0]) /\ w'.ownsRow w.heap.size 3 1 v' r.ob.ents.length (ivs r.ob.ents) /\ Below w.heap.size w w' := by
 have HCo := container_any h i hi
 rw [show contP T i = .pointer (some ⟨r.B, 0, none⟩) from by unfold contP contE fnd; rw [hT]; simp [hk], show contE T i = 0 from by unfold contE; rw [hT]; simp [hk]] at HCo
 have HC := Lib.hid HCo
 have HL := Lib.hid (list_any (h.obj i r hT).1 hn)
 clear HCo h
 go_enter Tryz.func49, Tryz.ntmps49
 go_wp2_with (first
  | (go_at_call 34; refine HC.out.mono ?_; rintro e w1 ⟨rfl, hw1⟩; rw [hw1]; clear hw1 w1)
  | (go_at_call 105; refine HL.out.mono ?_; rintro e w2 ⟨v', rfl, h1, _, h3⟩; obtain ⟨sp, cp, hv⟩ := row_form h1; subst hv; have H1 := Lib.hid h1; clear h1))
 go_ret2
 exact ⟨_, rfl, H1.out, h3⟩
end Go.Proofs.YtmgfakfiiaeofaaGreat.Ho
/- What container of package kern answers. -/
namespace Go.Proofs.YtmgfakfiiaeofaaGreat
open Go.RowKit Go.Sort
theorem results_cell_tmp {P : Program} {fn : Func} {p q : Tmp} {ty : TypeId} (h : fn.results = #[.cell p ty, .tmp q]) (tmps : Array Value) (w : World) (b : Nat) (cs : List Value) (d : TypeDesc)
 (hp : tmps.getD p undef = .pointer (some ⟨b, 0, none⟩)) (hc : w.rangeAt b 0 cs) (hu : P.underlying ty = some d) (hd : d.isRow = true) (hi : (P.info? ty).map (·.size) = some cs.length) :
 (results fn tmps).run P w = .ok (.tuple #[.agg cs.toArray, tmps.getD q undef]) w := by
 have hp' : tmps[p]?.getD undef = .pointer (some ⟨b, 0, none⟩) := by simpa using hp
 simp [results, h, hp', asAddr, run_loadVar_mid w b 0 ty cs d hc hu hd hi]
theorem infoI : (Tryz.prog.info? 89).map (·.size) = some 7 := by kernel_rfl
theorem set7 {W : World} {b : Nat} {u0 u1 u2 u3 u4 u5 u6 v0 v1 v2 v3 v4 v5 v6 : Value} {t : TypeId} (h : W.heap[b]? = some (.cells #[u0, u1, u2, u3, u4, u5, u6] t (0, 0))) :
 (W.setCells b 0 [v0, v1, v2, v3, v4, v5, v6]).rangeAt b 0 [v0, v1, v2, v3, v4, v5, v6] := by
 refine World.rangeAt_setCells_same W b 0 _ (fun j hj => ?_)
 have hj' : j < 7 := hj
 have h7 : ∀ j, j < 7 -> (#[u0, u1, u2, u3, u4, u5, u6] : Array Value)[j]?.isSome = true := fun j hj => by simp; exact hj
 refine ⟨?_, ?_⟩
 · have := h7 j hj'
   simpa [World.cell?, h] using this
 · simp [World.frozen?, h]
theorem info7 {W : World} {b : Nat} {v0 v1 v2 v3 v4 v5 v6 : Value} {t : TypeId} (h : W.heap[b]? = some (.cells #[v0, v1, v2, v3, v4, v5, v6] t (0, 0))) :
 (W.cell? ⟨b, 0, none⟩ = some v0 /\ W.cell? ⟨b, 1, none⟩ = some v1 /\ W.cell? ⟨b, 2, none⟩ = some v2 /\ W.cell? ⟨b, 3, none⟩ = some v3 /\ W.cell? ⟨b, 4, none⟩ = some v4 /\ W.cell? ⟨b, 5, none⟩ = some v5 /\ W.cell? ⟨b, 6, none⟩ = some v6) /\
  (W.frozen? ⟨b, 0, none⟩ = false /\ W.frozen? ⟨b, 1, none⟩ = false /\ W.frozen? ⟨b, 2, none⟩ = false /\ W.frozen? ⟨b, 3, none⟩ = false /\ W.frozen? ⟨b, 4, none⟩ = false /\ W.frozen? ⟨b, 5, none⟩ = false /\ W.frozen? ⟨b, 6, none⟩ = false) := by
 refine ⟨⟨?_, ?_, ?_, ?_, ?_, ?_, ?_⟩, ⟨?_, ?_, ?_, ?_, ?_, ?_, ?_⟩⟩ <;> simp [World.cell?, World.frozen?, h]
def infoZ : Value := .agg #[.int .i64 0, .int .i64 0, .int .i64 0, .int .i64 0, .int .i64 0, .int .i64 0, .slice none 0 0]
set_option maxRecDepth 100000 in
set_option maxHeartbeats 1000000 in
theorem container_ok {lo cb : Nat} {W : World} {K : Kn} {x : Ask} {y : Who} {dr : Int} (hC : ClAt W cb K.kb x y dr) (hK : KAt lo W K) (id : Int) (hid : Ho.i64 id) (r : Ho.Rc) (hT : K.T id = some r) (hk : r.ob.kind = 1) (hl : r.ob.cats.length <= 16)
 (xs : List (Int × Int)) (hw : Pa.LV (y.d, xs) (.agg #[.int .i64 y.d, y.v]) W) (hs : Pa.seesS y.d r.ob.df xs r.ob.cats = true) :
 Calls Tryz.prog 130 #[.pointer (some ⟨cb, 0, none⟩), .int .i64 id] W fun e W' => ∃ v, e = .returned (.tuple #[Ho.infoV r v, .int .i64 0]) /\ Pa.LV (r.ob.df, r.ob.cats) (.agg #[.int .i64 r.ob.df, v]) W' /\ Below W.heap.size W W' := by
 obtain ⟨W0, hW0⟩ : ∃ W0, W.alloc (.cells #[.int .i64 0, .int .i64 0, .int .i64 0, .int .i64 0, .int .i64 0, .int .i64 0, .slice none 0 0] 89) = W0 := ⟨_, rfl⟩
 have hb0 : Below W.heap.size W W0 := by rw [<- hW0]; exact (Below.refl _ _).alloc (Nat.le_refl _) _
 have hC0 := hC.below hb0
 have c0 : W0.cell? ⟨cb, 0, none⟩ = some (.pointer (some ⟨K.kb, 0, none⟩)) := hC0.cell 0
 have hkb : K.kb < W.heap.size := (Array.getElem?_eq_some_iff.1 hK.blk).1
 have k0 : W0.cell? ⟨K.kb, 0, none⟩ = some (.pointer (some ⟨K.tb, 0, none⟩)) := (hb0.cell (p := ⟨K.kb, 0, none⟩) hkb).trans (hK.cell 0)
 have HI := Lib.hid (Ho.Info_any (hK.tab.below hb0) id hid r hT (by omega))
 have HC := Lib.hid hC
 have HW := Lib.hid hw
 have HB0 := Lib.hid hb0
 have hz0 : W.heap.size < W0.heap.size := by rw [<- hW0]; simp
 have hi0 : W0.heap[W.heap.size]? = some (.cells #[.int .i64 0, .int .i64 0, .int .i64 0, .int .i64 0, .int .i64 0, .int .i64 0, .slice none 0 0] 89 (0, 0)) := by rw [<- hW0]; exact heap_alloc_new _ _
 have HI0 := Lib.hid hi0
 obtain ⟨i4, hi4⟩ : ∃ i4, W.heap.size = i4 := ⟨_, rfl⟩
 clear hC hC0 hK hkb hw hb0 hi0
 go_enter Tryz.func130, Tryz.ntmps130
 go_upto_region 1 with fail
 have Hi4 := Lib.hid hi4
 rw [hi4] at hz0 HB0 HI0
 clear hW0 hi4
 go_wp2_with (go_at_call 48; refine HI.out.mono ?_; rintro e W1 ⟨v, rfl, ⟨sp, cp, rfl, hrow⟩, hb1⟩; refine Hid.out ?_)
 refine Lib.hid ?_
 unfold Ho.infoV
 rw [hk]
 have Hk := Lib.hid hk
 clear hk
 obtain ⟨W2, hW2⟩ : ∃ W2, W1.alloc (.cells #[.int .i64 r.ob.id, .int .i64 1, .int .i64 r.ob.quota, .int .i64 r.ob.used, .int .i64 r.ob.links, .int .i64 r.ob.df, .slice sp r.ob.cats.length cp] 89) = W2 := ⟨_, rfl⟩
 have hb2 : Below W1.heap.size W1 W2 := by rw [<- hW2]; exact (Below.refl _ _).alloc (Nat.le_refl _) _
 have hi6 : W2.heap[W1.heap.size]? = some (.cells #[.int .i64 r.ob.id, .int .i64 1, .int .i64 r.ob.quota, .int .i64 r.ob.used, .int .i64 r.ob.links, .int .i64 r.ob.df, .slice sp r.ob.cats.length cp] 89 (0, 0)) := by rw [<- hW2]; exact heap_alloc_new _ _
 have hz1 : i4 < W1.heap.size := Nat.lt_of_lt_of_le hz0 hb1.size
 have hz6 : W1.heap.size < W2.heap.size := by rw [<- hW2]; simp
 obtain ⟨i6, hi6e⟩ : ∃ i6, W1.heap.size = i6 := ⟨_, rfl⟩
 have hb02 : Below i4 W W2 := (HB0.out.trans (hb1.mono (Nat.le_of_lt hz0))).trans (hb2.mono (Nat.le_of_lt hz1))
 have hb02' : Below W.heap.size W W2 := by rw [Hi4.out]; exact hb02
 have hrow2 : W2.ownsRow W0.heap.size 163 2 (.slice sp r.ob.cats.length cp) r.ob.cats.length (Ho.flat r.ob.cats) := Ho.row_same hrow (fun k hk => hb2.block k (hrow.lt k hk).2)
 have HLi := Lib.hid (lv_of (d := r.ob.df) hrow2 hl)
 have HRow := Lib.hid hrow2
 have Hz0 := Lib.hid hz0
 have HLw := Lib.hid (HW.out.below hb02')
 have HC2 := Lib.hid (HC.out.below hb02')
 have HB2 := Lib.hid hb02
 have hi4W : W2.heap[i4]? = some (.cells #[.int .i64 0, .int .i64 0, .int .i64 0, .int .i64 0, .int .i64 0, .int .i64 0, .slice none 0 0] 89 (0, 0)) := (hb2.block i4 hz1).trans ((hb1.block i4 hz0).trans HI0.out)
 rw [hi6e] at hi6 hz6 hz1
 have Hi6 := Lib.hid hi6
 have Hi4W := Lib.hid hi4W
 clear hb1 hb2 hrow hrow2 hb02 hb02' HI HI0 hi6 hi4W c0 k0
 go_upto_region 2 with fail
 clear hW2 hi6e
 have w21 : W2.cell? ⟨cb, 21, none⟩ = some (.pointer (some ⟨y.B, 0, none⟩)) := HC2.out.cell 21
 have w22 : W2.cell? ⟨cb, 22, none⟩ = some (.int .i64 y.id) := HC2.out.cell 22
 have w23 : W2.cell? ⟨cb, 23, none⟩ = some (.int .i64 y.d) := HC2.out.cell 23
 have w24 : W2.cell? ⟨cb, 24, none⟩ = some y.v := HC2.out.cell 24
 have d1 : W2.cell? ⟨i6, 1, none⟩ = some (.int .i64 1) := by simp [World.cell?, Hi6.out]
 have d5 : W2.cell? ⟨i6, 5, none⟩ = some (.int .i64 r.ob.df) := by simp [World.cell?, Hi6.out]
 have d6 : W2.cell? ⟨i6, 6, none⟩ = some (.slice sp r.ob.cats.length cp) := by simp [World.cell?, Hi6.out]
 have HS : Hid (∀ n, Calls Tryz.prog 138 #[.agg #[.pointer (some ⟨y.B, 0, none⟩), .int .i64 y.id, .int .i64 y.d, y.v], .agg #[.int .i64 r.ob.df, .slice sp r.ob.cats.length cp]] (W2.drewN n) fun e W' => e = .returned (.bool true) /\ Below (W2.drewN n).heap.size (W2.drewN n) W') := Lib.hid (fun n => by
  have hbn : Below W2.heap.size W2 (W2.drewN n) := ⟨rfl, rfl, rfl, Nat.le_refl _, fun _ _ => rfl⟩
  have := sees_c (t := (y.d, xs)) (B := y.B) (id := y.id) (HLw.out.below hbn) (HLi.out.below hbn)
  rw [show Pa.seesS ((y.d, xs) : Pa.ML).1 ((r.ob.df, r.ob.cats) : Pa.ML).1 ((y.d, xs) : Pa.ML).2 ((r.ob.df, r.ob.cats) : Pa.ML).2 = true from hs] at this
  exact this)
 refine Ko.wp_region_tail_d 14 (by kernel_rfl) (by kernel_rfl) ?_
 simp only [List.take_succ_cons, List.take_zero, List.drop_succ_cons, List.drop_zero]
 repeat (go_big_quiet_step (fail))
 refine wpQuiet_nil ?_
 intro _ hw'
 obtain ⟨nz, hw''⟩ := hw'
 subst hw''
 go_wp2_with (go_at_call 138; refine (HS.out _).mono ?_; rintro e W3 ⟨rfl, hb3⟩; refine Hid.out ?_)
 refine Lib.hid ?_
 have hz3 : W2.heap.size <= W3.heap.size := hb3.size
 have hI6 : W3.heap[i6]? = some (.cells #[.int .i64 r.ob.id, .int .i64 1, .int .i64 r.ob.quota, .int .i64 r.ob.used, .int .i64 r.ob.links, .int .i64 r.ob.df, .slice sp r.ob.cats.length cp] 89 (0, 0)) := (hb3.block i6 hz6).trans Hi6.out
 have hI4 : W3.heap[i4]? = some (.cells #[.int .i64 0, .int .i64 0, .int .i64 0, .int .i64 0, .int .i64 0, .int .i64 0, .slice none 0 0] 89 (0, 0)) := (hb3.block i4 (Nat.lt_trans hz1 hz6)).trans Hi4W.out
 have HL3 := Lib.hid (HLi.out.below (W' := W3) (show Below W2.heap.size W2 W3 from ⟨hb3.os, hb3.tape, hb3.output, hb3.size, fun k hk => hb3.block k hk⟩))
 have HB3 : Hid (Below i4 W W3) := Lib.hid (HB2.out.trans (show Below i4 W2 W3 from ⟨hb3.os, hb3.tape, hb3.output, hb3.size, fun k hk => hb3.block k (Nat.lt_trans hk (Nat.lt_trans hz1 hz6))⟩))
 have hne : i4 ≠ i6 := by omega
 have HKeep : Hid (∀ vs, Pa.LV (r.ob.df, r.ob.cats) (.agg #[.int .i64 r.ob.df, .slice sp r.ob.cats.length cp]) (W3.setCells i4 0 vs)) := Lib.hid (fun vs => lv_of (Ho.row_same HRow.out (fun k hk => by
  have h5 := HRow.out.lt k hk
  rw [World.heap_setCells_other W3 i4 0 vs (Nat.lt_of_lt_of_le h5.2 hb3.size) (by have := Hz0.out; omega)]
  exact hb3.block k h5.2)) hl)
 clear w21 w22 w23 w24 d1 d5 d6 HS hb3 hz6 hz3 hz1 hz0
 obtain ⟨⟨x0, x1, x2, x3, x4, x5, x6⟩, -⟩ := info7 hI6
 obtain ⟨⟨y0, y1, y2, y3, y4, y5, y6⟩, ⟨f0, f1, f2, f3, f4, f5, f6⟩⟩ := info7 hI4
 have HI4 := Lib.hid hI4
 clear hI6 hI4
 go_wp2
 have hr7 := set7 (v0 := .int .i64 r.ob.id) (v1 := .int .i64 1) (v2 := .int .i64 r.ob.quota) (v3 := .int .i64 r.ob.used) (v4 := .int .i64 r.ob.links) (v5 := .int .i64 r.ob.df) (v6 := .slice sp r.ob.cats.length cp) HI4.out
 have hbe : Below i4 W (W3.setCells i4 0 [.int .i64 r.ob.id, .int .i64 1, .int .i64 r.ob.quota, .int .i64 r.ob.used, .int .i64 r.ob.links, .int .i64 r.ob.df, .slice sp r.ob.cats.length cp]) := Go.below_setCells (Nat.le_refl _) _ 0 W3 HB3.out
 have hlv : Pa.LV (r.ob.df, r.ob.cats) (.agg #[.int .i64 r.ob.df, .slice sp r.ob.cats.length cp]) (W3.setCells i4 0 [.int .i64 r.ob.id, .int .i64 1, .int .i64 r.ob.quota, .int .i64 r.ob.used, .int .i64 r.ob.links, .int .i64 r.ob.df, .slice sp r.ob.cats.length cp]) := HKeep.out _
 refine bodyPost_ret (v := .tuple #[.agg #[.int .i64 r.ob.id, .int .i64 1, .int .i64 r.ob.quota, .int .i64 r.ob.used, .int .i64 r.ob.links, .int .i64 r.ob.df, .slice sp r.ob.cats.length cp], .int .i64 0]) ?_ rfl ⟨.slice sp r.ob.cats.length cp, by unfold Ho.infoV; rw [Hk.out], hlv, by rw [Hi4.out]; exact hbe⟩
 exact results_cell_tmp Tryz.results130 _ _ i4 _ _ rfl hr7 Tryz.underlying89 rfl infoI
theorem lv_keep {W W' : World} {d : Int} {v : Value} {xs : List (Int × Int)} (h : Pa.LV (d, xs) (.agg #[.int .i64 d, v]) W) (hz : W.heap.size <= W'.heap.size) (hk : ∀ k, v.ownBlock = some k -> W'.heap[k]? = W.heap[k]?) : Pa.LV (d, xs) (.agg #[.int .i64 d, v]) W' := by
 obtain ⟨p, cap, hv, h1, h2, h3⟩ := h
 refine ⟨p, cap, hv, fun j hj => ?_, h2, h3⟩
 obtain ⟨b, off, hp, hb, c0, c1⟩ := h1 j hj
 have e : v = .slice p xs.length cap := by simpa using hv
 have hkb := hk b (by rw [e, hp]; rfl)
 exact ⟨b, off, hp, Nat.lt_of_lt_of_le hb hz, (World.cell?_of_block (a := ⟨b, off + j * 2, none⟩) hkb).trans c0, (World.cell?_of_block (a := ⟨b, off + j * 2 + 1, none⟩) hkb).trans c1⟩
theorem seg_keep {W W' : World} {lo B : Nat} {d : List UInt8} {own : Nat -> Option KTag} {g : KTag} (h : SegAt W lo B d own g) (hk : ∀ k, own k = some g -> W'.heap[k]? = W.heap[k]?) : SegAt W' lo B d own g := by
 obtain ⟨ls, hA, h1, h2, h3⟩ := h
 have hB := hk B h1
 refine ⟨ls, ?_, h1, h2, fun c t f a n cp hc => h3 c t f a n cp (hB.symm.trans hc)⟩
 obtain ⟨v, hv, hrow⟩ := hA.blk
 have hr : W'.ownsRow lo 185 2 v ls.length (Pg.lfs ls) := by
  refine ⟨hrow.1, ?_⟩
  rcases hrow.2 with h | ⟨b, cap, cur, e, q1, q2, q3⟩
  · exact .inl h
  · refine .inr ⟨b, cap, cur, e, q1, ?_, q3⟩
    rw [hk b (h3 _ _ _ ⟨b, 0, none⟩ ls.length cap hv (by rw [e]; rfl))]
    exact q2
 exact ⟨⟨v, hB.trans hv, hr⟩, fun i x hi => ⟨(hk x.1 (h2 x (List.mem_of_getElem? hi))).trans (hA.pgs i x hi).1, (hA.pgs i x hi).2⟩, hA.dis, hA.len, hA.cnt, hA.bb, ⟨fun _ h => h.elim, fun _ _ h => h, fun _ _ _ _ _ _ _ _ h => h⟩⟩
theorem KAt.keep {lo : Nat} {W W' : World} {K : Kn} (h : KAt lo W K) (hz : W.heap.size <= W'.heap.size) (hk : ∀ k, K.own k ≠ none -> W'.heap[k]? = W.heap[k]?) : KAt lo W' K := by
 have k1 : ∀ {k g}, K.own k = some g -> W'.heap[k]? = W.heap[k]? := fun e => hk _ (by rw [e]; simp)
 refine ⟨(k1 h.okb).trans h.blk, h.tab.same (fun k hf => k1 (h.ot k hf)), h.rms.same hz (fun k _ hf => k1 (h.orm k hf)), h.mS.same (k1 h.oS), h.mT.same (k1 h.oT), h.mR.same (k1 h.oR), fun id B hB => ?_, fun id B hB => ?_, h.okb, h.ot, h.orm, h.oS, h.oP, h.oT, h.oG, h.oD, h.oR, fun k hk' => ⟨(h.lt k hk').1, Nat.lt_of_lt_of_le (h.lt k hk').2 hz⟩⟩
 · obtain ⟨q1, q2, q3, q4, q5⟩ := h.thr id B hB
   exact ⟨(k1 q2).trans q1, q2, q3, lv_keep q4 hz (fun k e => k1 (q5 k e)), q5⟩
 · obtain ⟨b, q1, q2⟩ := h.sgs id B hB
   exact ⟨b, q1, seg_keep q2 (fun k e => k1 e)⟩
theorem KAt.below {lo : Nat} {W W' : World} {K : Kn} (h : KAt lo W K) (hb : Below W.heap.size W W') : KAt lo W' K := h.keep hb.size (fun k hk => hb.block k (h.lt k hk).2)
theorem drew_below (b : Nat) (W : World) (n : Nat) : Below b W (W.drewN n) := ⟨rfl, rfl, rfl, Nat.le_refl _, fun _ _ => rfl⟩
set_option maxRecDepth 100000 in
set_option maxHeartbeats 1000000 in
theorem does_runs {lo : Nat} {W : World} {K : Kn} (hK : KAt lo W K) (id : Int) (hid : Wa.i64 id) (B : Nat) (hT : K.fT (Wa.ky id) = some B) (hsp : (K.th id).sp = false) (hw : Wa.whereA K.all id = none) :
 Calls Tryz.prog 63 #[.pointer (some ⟨K.kb, 0, none⟩), .int .i64 id] W fun e W' => e = .returned (.int .i64 0) /\ Below W.heap.size W W' := by
 have k4 : W.cell? ⟨K.kb, 4, none⟩ = some (.map (some K.mt)) := hK.cell 4
 have k1 : W.cell? ⟨K.kb, 1, none⟩ = some (.pointer (some ⟨K.rb, 0, none⟩)) := hK.cell 1
 obtain ⟨t1, -, t3, -, -⟩ := hK.thr id B hT
 have hlk := hK.mT.look (T := 71) (e := 64) keyedI (by kernel_rfl) (by kernel_rfl) (Wa.keyI hid)
 rw [hT] at hlk
 have hlk' : (Instr.lookup 71 (.map (some K.mt)) (.int .i64 id) false).run Tryz.prog W = .ok (.pointer (some ⟨B, 0, none⟩)) W := hlk
 clear hlk
 have h21 : W.cell? ⟨B, 21, none⟩ = some (.bool false) := by
  simp only [World.cell?, t1]
  show (thC (K.th id))[21]? = _
  unfold thC
  rw [hsp]
  rw [List.getElem?_toArray, List.getElem?_append_right (by simp [t3])]
  simp [t3]
 have HW : Hid (Calls Tryz.prog 111 #[.pointer (some ⟨K.rb, 0, none⟩), .int .i64 id] W fun e w' => e = .returned (.tuple #[.int .i64 0, .int .i64 0, .bool false]) /\ Below W.heap.size W w') := Lib.hid (by
  have h5 := Wa.Where_any W K.rb K.F K.all K.al K.N id hid hK.rms
  rw [hw] at h5
  exact h5)
 clear hK t1 t3
 go_enter Tryz.func63, Tryz.ntmps63
 go_wp2_with (go_at_call 111; refine HW.out.mono ?_; rintro e W1 ⟨rfl, hb1⟩)
 go_ret
 exact ⟨rfl, hb1⟩
theorem rng_of {W : World} {b : Nat} {cs : Array Value} {t : TypeId} (h : W.heap[b]? = some (.cells cs t (0, 0))) : W.rangeAt b 0 cs.toList := fun j v hv => by
 simp only [World.cell?, Nat.zero_add, h]
 simpa using hv
theorem infoC : (Tryz.prog.info? 56).map (·.size) = some 20 := by kernel_rfl
set_option maxRecDepth 100000 in
set_option maxHeartbeats 2000000 in
theorem begin_ok {lo : Nat} {W : World} {K : Kn} (hK : KAt lo W K) (id : Int) (hid : Wa.i64 id) (B : Nat) (hT : K.fT (Wa.ky id) = some B) (hsp : (K.th id).sp = false) (hw : Wa.whereA K.all id = none) (r : Ho.Rc) (hTb : K.T id = some r) (hl : r.ob.cats.length <= 16) (x : Ask) (dr : Int)
 (hlv : ∃ p n c, x.lv = .slice p n c) (hmv : ∃ p n c, x.mv = .slice p n c) :
 Calls Tryz.prog 28 #[.pointer (some ⟨K.kb, 0, none⟩), .int .i64 id, askV x, .int .i64 dr] W fun e W' => ∃ cb v, e = .returned (.tuple #[.pointer (some ⟨cb, 0, none⟩), .int .i64 0]) /\ ClAt W' cb K.kb x ⟨B, id, r.ob.df, v⟩ dr /\ W.heap.size <= cb /\ Pa.LV (r.ob.df, r.ob.cats) (.agg #[.int .i64 r.ob.df, v]) W' /\ Below W.heap.size W W' := by
 obtain ⟨lp, ln, lc, hlv⟩ := hlv
 obtain ⟨mp, mn, mc, hmv⟩ := hmv
 obtain ⟨W0, hW0⟩ : ∃ W0, W.alloc (.cells #[.int .i64 x.op, .int .i64 x.pi, .int .i64 x.pj, .int .i64 x.qi, .int .i64 x.qj, .int .i64 x.a, .int .i64 x.b, .int .i64 x.c, .int .i64 x.ld, .slice lp ln lc, .int .i64 x.md, .slice mp mn mc, .string x.s, .int .i64 x.at_, .int .i64 x.pg, .int .i64 x.inn, .int .i64 x.mid, .int .i64 x.fr, .bool x.wr, .bool x.rn] 56) = W0 := ⟨_, rfl⟩
 have hb0 : Below W.heap.size W W0 := by rw [<- hW0]; exact (Below.refl _ _).alloc (Nat.le_refl _) _
 have hi6 : W0.heap[W.heap.size]? = some (.cells #[.int .i64 x.op, .int .i64 x.pi, .int .i64 x.pj, .int .i64 x.qi, .int .i64 x.qj, .int .i64 x.a, .int .i64 x.b, .int .i64 x.c, .int .i64 x.ld, .slice lp ln lc, .int .i64 x.md, .slice mp mn mc, .string x.s, .int .i64 x.at_, .int .i64 x.pg, .int .i64 x.inn, .int .i64 x.mid, .int .i64 x.fr, .bool x.wr, .bool x.rn] 56 (0, 0)) := by rw [<- hW0]; exact heap_alloc_new _ _
 have hz0 : W.heap.size < W0.heap.size := by rw [<- hW0]; simp
 have hK0 := hK.below hb0
 have k4 : W0.cell? ⟨K.kb, 4, none⟩ = some (.map (some K.mt)) := hK0.cell 4
 have hlk : (Instr.lookup 71 (.map (some K.mt)) (.int .i64 id) false).run Tryz.prog W0 = .ok (.pointer (some ⟨B, 0, none⟩)) W0 := by
  have h5 := hK0.mT.look (T := 71) (e := 64) keyedI (by kernel_rfl) (by kernel_rfl) (Wa.keyI hid)
  rw [hT] at h5
  exact h5
 have HD := Lib.hid (does_runs hK0 id hid B hT hsp hw)
 have HK := Lib.hid hK
 have HB0 := Lib.hid hb0
 have Hi6 := Lib.hid hi6
 obtain ⟨i6, hi6e⟩ : ∃ i6, W.heap.size = i6 := ⟨_, rfl⟩
 have Hi6e := Lib.hid hi6e
 have Hlv := Lib.hid hlv
 have Hmv := Lib.hid hmv
 clear hK hK0 hb0 hi6
 unfold askV
 rw [hlv, hmv]
 clear hlv hmv
 go_enter Tryz.func28, Tryz.ntmps28
 go_upto_region 1 with fail
 rw [hi6e] at hz0 Hi6
 clear hW0 hi6e
 go_wp2_with (go_at_call 63; refine HD.out.mono ?_; rintro e W1 ⟨rfl, hb1⟩; refine Hid.out ?_)
 refine Lib.hid ?_
 have hb01 : Below W.heap.size W W1 := HB0.out.trans (hb1.mono (by have := Hi6e.out; omega))
 have hK1 := HK.out.below hb01
 have k0 : W1.cell? ⟨K.kb, 0, none⟩ = some (.pointer (some ⟨K.tb, 0, none⟩)) := hK1.cell 0
 have HI := Lib.hid (Ho.Info_any hK1.tab id hid r hTb (by omega))
 have HB1 := Lib.hid hb01
 have Hi6b := Lib.hid ((hb1.block i6 hz0).trans Hi6.out)
 have hz1 : i6 < W1.heap.size := Nat.lt_of_lt_of_le hz0 hb1.size
 clear hb1 hb01 hK1 k4 hlk HD
 go_wp2_with (go_at_call 48; refine HI.out.mono ?_; rintro e W2 ⟨v, rfl, ⟨sp, cp, rfl, hrow⟩, hb2⟩; refine Hid.out ?_)
 refine Lib.hid ?_
 unfold Ho.infoV
 obtain ⟨i11, hi11⟩ : ∃ i11, W2.heap.size = i11 := ⟨_, rfl⟩
 obtain ⟨W3, hW3⟩ : ∃ W3, (W2.alloc (.cells #[.int .i64 r.ob.id, .int .i64 r.ob.kind, .int .i64 r.ob.quota, .int .i64 r.ob.used, .int .i64 r.ob.links, .int .i64 r.ob.df, .slice sp r.ob.cats.length cp] 89)).alloc (.cells #[.pointer (some ⟨B, 0, none⟩), .int .i64 id, .int .i64 r.ob.df, .slice sp r.ob.cats.length cp] 157) = W3 := ⟨_, rfl⟩
 have hb3 : Below W2.heap.size W2 W3 := by rw [<- hW3]; go_grown
 have hi13 : W3.heap[W2.heap.size + 1]? = some (.cells #[.pointer (some ⟨B, 0, none⟩), .int .i64 id, .int .i64 r.ob.df, .slice sp r.ob.cats.length cp] 157 (0, 0)) := by rw [<- hW3]; have := heap_alloc_new (W2.alloc (.cells #[.int .i64 r.ob.id, .int .i64 r.ob.kind, .int .i64 r.ob.quota, .int .i64 r.ob.used, .int .i64 r.ob.links, .int .i64 r.ob.df, .slice sp r.ob.cats.length cp] 89)) (.cells #[.pointer (some ⟨B, 0, none⟩), .int .i64 id, .int .i64 r.ob.df, .slice sp r.ob.cats.length cp] 157); rwa [show (W2.alloc (.cells #[.int .i64 r.ob.id, .int .i64 r.ob.kind, .int .i64 r.ob.quota, .int .i64 r.ob.used, .int .i64 r.ob.links, .int .i64 r.ob.df, .slice sp r.ob.cats.length cp] 89)).heap.size = W2.heap.size + 1 from by simp] at this
 have hb13 : Below W1.heap.size W1 W3 := hb2.trans (hb3.mono hb2.size)
 have hbW3 : Below W.heap.size W W3 := HB1.out.trans (hb13.mono HB1.out.size)
 have hi6W := (hb13.block i6 hz1).trans Hi6b.out
 have Hrng := Lib.hid (rng_of hi6W)
 have u0 : W3.cell? ⟨W2.heap.size + 1, 0, none⟩ = some (.pointer (some ⟨B, 0, none⟩)) := by simp [World.cell?, hi13]
 have u1 : W3.cell? ⟨W2.heap.size + 1, 1, none⟩ = some (.int .i64 id) := by simp [World.cell?, hi13]
 have u2 : W3.cell? ⟨W2.heap.size + 1, 2, none⟩ = some (.int .i64 r.ob.df) := by simp [World.cell?, hi13]
 have u3 : W3.cell? ⟨W2.heap.size + 1, 3, none⟩ = some (.slice sp r.ob.cats.length cp) := by simp [World.cell?, hi13]
 have hlv3 := lv_of (d := r.ob.df) (Ho.row_same hrow (fun k hk => hb3.block k (hrow.lt k hk).2)) hl
 have hszW : W.heap.size <= W3.heap.size := hbW3.size
 have HLv3 := Lib.hid hlv3
 have HB3 := Lib.hid hbW3
 clear hb2 hb3 hb13 hbW3 hi13 hi6W hrow hlv3 HI k0
 rw [hi11] at u0 u1 u2 u3
 go_upto_region 8 with fail
 clear hW3 hi11
 go_wp2_with (refine wpList_load_mid rfl 56 _ rfl i6 0 rfl _ _ Hrng.out Tryz.underlying56 rfl infoC ?_)
 have hcl : ClAt (W3.alloc (.cells #[.pointer (some ⟨K.kb, 0, none⟩), .int .i64 x.op, .int .i64 x.pi, .int .i64 x.pj, .int .i64 x.qi, .int .i64 x.qj, .int .i64 x.a, .int .i64 x.b, .int .i64 x.c, .int .i64 x.ld, .slice lp ln lc, .int .i64 x.md, .slice mp mn mc, .string x.s, .int .i64 x.at_, .int .i64 x.pg, .int .i64 x.inn, .int .i64 x.mid, .int .i64 x.fr, .bool x.wr, .bool x.rn, .pointer (some ⟨B, 0, none⟩), .int .i64 id, .int .i64 r.ob.df, .slice sp r.ob.cats.length cp, .int .i64 dr] 159)) W3.heap.size K.kb x ⟨B, id, r.ob.df, .slice sp r.ob.cats.length cp⟩ dr := by
  unfold ClAt clC
  rw [Hlv.out, Hmv.out]
  exact heap_alloc_new _ _
 have hlvE := HLv3.out.below ((Below.refl W3.heap.size W3).alloc (Nat.le_refl _) (.cells #[.pointer (some ⟨K.kb, 0, none⟩), .int .i64 x.op, .int .i64 x.pi, .int .i64 x.pj, .int .i64 x.qi, .int .i64 x.qj, .int .i64 x.a, .int .i64 x.b, .int .i64 x.c, .int .i64 x.ld, .slice lp ln lc, .int .i64 x.md, .slice mp mn mc, .string x.s, .int .i64 x.at_, .int .i64 x.pg, .int .i64 x.inn, .int .i64 x.mid, .int .i64 x.fr, .bool x.wr, .bool x.rn, .pointer (some ⟨B, 0, none⟩), .int .i64 id, .int .i64 r.ob.df, .slice sp r.ob.cats.length cp, .int .i64 dr] 159))
 have hbE := HB3.out.alloc HB3.out.size (.cells #[.pointer (some ⟨K.kb, 0, none⟩), .int .i64 x.op, .int .i64 x.pi, .int .i64 x.pj, .int .i64 x.qi, .int .i64 x.qj, .int .i64 x.a, .int .i64 x.b, .int .i64 x.c, .int .i64 x.ld, .slice lp ln lc, .int .i64 x.md, .slice mp mn mc, .string x.s, .int .i64 x.at_, .int .i64 x.pg, .int .i64 x.inn, .int .i64 x.mid, .int .i64 x.fr, .bool x.wr, .bool x.rn, .pointer (some ⟨B, 0, none⟩), .int .i64 id, .int .i64 r.ob.df, .slice sp r.ob.cats.length cp, .int .i64 dr] 159)
 refine bodyPost_ret (v := .tuple #[.pointer (some ⟨W3.heap.size, 0, none⟩), .int .i64 0]) (by simp [results, Tryz.results28, go_sem]) rfl ?_
 first
  | exact ⟨W3.heap.size, rfl, .slice sp r.ob.cats.length cp, hcl, hszW, hlvE, hbE⟩
  | exact ⟨W3.heap.size, .slice sp r.ob.cats.length cp, rfl, hcl, hszW, hlvE, hbE⟩
  | exact ⟨W3.heap.size, rfl, ⟨.slice sp r.ob.cats.length cp, hcl, hszW, hlvE⟩, hbE⟩
  | trace_state
end Go.Proofs.YtmgfakfiiaeofaaGreat
