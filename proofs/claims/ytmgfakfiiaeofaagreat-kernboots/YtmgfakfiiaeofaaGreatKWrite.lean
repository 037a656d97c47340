/- write of package kern. -/
import Derived.Test.YtmgfakfiiaeofaaGreatSq
import Derived.Test.YtmgfakfiiaeofaaGreatKWr
import Derived.Test.YtmgfakfiiaeofaaGreatKBegin
import Derived.Test.YtmgfakfiiaeofaaGreatPgSize
namespace Go.Proofs.YtmgfakfiiaeofaaGreat
open Go.RowKit Go.Sort
theorem setCell_id {w : World} {b o : Nat} {v : Value} (h : w.cell? ⟨b, o, none⟩ = some v) : w.setCell ⟨b, o, none⟩ v = w := by
 obtain ⟨heap, tape, drawn, os, output⟩ := w
 simp only [World.cell?] at h
 unfold World.setCell
 congr 1
 apply Array.ext
 · simp
 · intro i h1 h2
   simp only [Array.getElem_modify]
   split
   · rename_i hi
     subst hi
     rw [Array.getElem?_eq_getElem h2] at h
     cases ho : heap[b] with
     | cells c e f =>
      simp only [ho] at h |-
      congr 1
      simp at h
      apply Array.ext
      · simp
      · intro j h3 h4
        simp only [Option.isSome_none, Bool.false_eq_true, if_false]
        by_cases hj : o = j
        · subst hj
          rw [Array.getElem?_eq_getElem h4] at h
          rw [Array.getElem_setIfInBounds_self]
          exact (Option.some.inj h).symm
        · exact Array.getElem_setIfInBounds_ne _ hj
     | _ => rfl
   · rfl
theorem setCells_id {b : Nat} : ∀ {vs : List Value} {o : Nat} {w : World}, w.rangeAt b o vs -> w.setCells b o vs = w
 | [], _, _, _ => rfl
 | v :: r, o, w, h => by
  show (w.setCell ⟨b, o, none⟩ v).setCells b (o + 1) r = w
  rw [setCell_id (o := o) (h 0 v rfl)]
  exact setCells_id (fun j u hj => by have := h (j + 1) u hj; rwa [show o + (j + 1) = o + 1 + j from by omega] at this)
theorem exec_call3 {o : Oper} {ev : Operand -> Value} {f : Nat} {x0 x1 x2 : Operand} {ts : Array TypeId} {v0 v1 v2 : Value} {w : World} (ho : o.op = .call { callee := .value (.func f), args := #[x0, x1, x2], argTypes := ts }) (hf : ev (.func f) = .func (.func f) #[] #[]) (h0 : ev x0 = v0) (h1 : ev x1 = v1) (h2 : ev x2 = v2) (eg : ∀ args w, (callFunc f args).run Tryz.prog w = .ok (.enter f args) w) : (execOp ev o).run Tryz.prog w = .ok (.enter f #[v0, v1, v2]) w := by
 unfold execOp
 simp [ho, resolve, invoke, hf, h0, h1, h2, eg, go_sem]
theorem setCells_told {W : World} {b : Nat} (h : W.heap[b]? = some (.cells toldZ 49 (0, 0))) : W.setCells b 0 toldZ.toList = W := setCells_id (rng_of h)
def KWrote (K K' : Kn) (id : Int) (d : List UInt8) : Prop := ∃ own', K' = { K with sd := fun i => if i = id then d else K.sd i, own := own' }
set_option maxRecDepth 100000 in
set_option maxHeartbeats 4000000 in
theorem write_ok {lo cb : Nat} {W : World} {K : Kn} {x : Ask} {y : Who} {dr : Int} (hC : ClAt W cb K.kb x y dr) (hK : KAt lo W K) (hpi : Ho.i64 x.pi) (hpj : Ho.i64 x.pj) (r og : Ho.Rc) (hT : K.T x.pi = some r) (hk : r.ob.kind = 1) (hl : r.ob.cats.length <= 16)
 (xs : List (Int × Int)) (hw : Pa.LV (y.d, xs) (.agg #[.int .i64 y.d, y.v]) W) (hs : Pa.seesS y.d r.ob.df xs r.ob.cats = true) (hen : ∀ q, K.T x.pi = some q -> q.ob.ents.length < 1000000) (hE : Ho.entE K.T x.pi x.pj = 0) (hT2 : K.T x.pj = some og) (hl2 : og.ob.cats.length <= 16) (hkd : og.ob.kind = 2) (hoid : og.ob.id = x.pj) (B : Nat) (hfS : K.fS (Wa.ky x.pj) = some B)
 (hal : Pa.altersS y.d og.ob.df xs og.ob.cats = true) (ha : x.a <= 9223372036854775807) (hsz : x.s.size < 4611686018427387904) (hfit : Pg.fitsB (K.sd x.pj).length x.a x.s.size = true) :
 Calls Tryz.prog 78 #[.pointer (some ⟨cb, 0, none⟩)] W fun e W' => ∃ K', e = .returned (.tuple #[.agg toldZ, .int .i64 0]) /\ KAt lo W' K' /\ KWrote K K' x.pj (Pg.over (K.sd x.pj) x.a.toNat x.s.data.toList) /\ Below lo W W' /\ ∀ k, k < W.heap.size -> K.own k = none -> W'.heap[k]? = W.heap[k]? /\ K'.own k = none := by
 obtain ⟨W0, hW0⟩ : ∃ W0, W.alloc (.cells toldZ 49) = W0 := ⟨_, rfl⟩
 have hb0 : Below W.heap.size W W0 := by rw [<- hW0]; exact (Below.refl _ _).alloc (Nat.le_refl _) _
 have hi2 : W0.heap[W.heap.size]? = some (.cells toldZ 49 (0, 0)) := by rw [<- hW0]; exact heap_alloc_new _ _
 have hz0 : W.heap.size < W0.heap.size := by rw [<- hW0]; simp
 have hC0 := hC.below hb0
 have HTg := Lib.hid (segment_alters hC0 (hK.below hb0) hpi hpj r og hT hk hl xs (hw.below hb0) hs hen hE hT2 hl2 hkd hoid B hfS (.agg #[.pointer (some ⟨y.B, 0, none⟩), .int .i64 y.id, .int .i64 y.d, y.v]) (fun W' u hb hu => by
  have h5 := alters_c (t := (y.d, xs)) (B := y.B) (id := y.id) ((hw.below hb0).below hb) hu
  rw [show Pa.altersS ((y.d, xs) : Pa.ML).1 ((og.ob.df, og.ob.cats) : Pa.ML).1 ((y.d, xs) : Pa.ML).2 ((og.ob.df, og.ob.cats) : Pa.ML).2 = true from hal] at h5
  exact h5))
 have c21 : W0.cell? ⟨cb, 21, none⟩ = some (.pointer (some ⟨y.B, 0, none⟩)) := hC0.cell 21
 have c22 : W0.cell? ⟨cb, 22, none⟩ = some (.int .i64 y.id) := hC0.cell 22
 have c23 : W0.cell? ⟨cb, 23, none⟩ = some (.int .i64 y.d) := hC0.cell 23
 have c24 : W0.cell? ⟨cb, 24, none⟩ = some y.v := hC0.cell 24
 have HC := Lib.hid hC
 have HK := Lib.hid hK
 have HB0 := Lib.hid hb0
 have Hi2 := Lib.hid hi2
 have Hfit := Lib.hid hfit
 have HfS := Lib.hid hfS
 obtain ⟨i2, hi2e⟩ : ∃ i2, W.heap.size = i2 := ⟨_, rfl⟩
 have Hi2e := Lib.hid hi2e
 clear hC hK hw hb0 hi2 hC0 hfit hfS
 unfold toldZ at hW0
 go_enter Tryz.func78, Tryz.ntmps78
 go_upto_region 1 with fail
 rw [hi2e] at hz0 Hi2
 clear hW0 hi2e
 go_wp2_with (go_at_call 139; refine HTg.out.mono ?_; rintro e W1 ⟨sp, cp, rfl, hb1⟩; refine Hid.out ?_)
 refine Lib.hid ?_
 unfold Ho.infoV
 go_upto_region 4 with fail
 obtain ⟨W2, hW2⟩ : ∃ W2, W1.alloc (.cells #[.int .i64 og.ob.id, .int .i64 og.ob.kind, .int .i64 og.ob.quota, .int .i64 og.ob.used, .int .i64 og.ob.links, .int .i64 og.ob.df, .slice sp og.ob.cats.length cp] 89) = W2 := ⟨_, rfl⟩
 have hb2 : Below W1.heap.size W1 W2 := by rw [<- hW2]; exact (Below.refl _ _).alloc (Nat.le_refl _) _
 rw [hkd, hoid] at hW2
 rw [hkd, hoid, hW2]
 have hz1 : i2 < W1.heap.size := Nat.lt_of_lt_of_le hz0 hb1.size
 have hz2 : i2 < W2.heap.size := Nat.lt_of_lt_of_le hz1 hb2.size
 have hb02 : Below W.heap.size W0 W2 := (hb1.trans (hb2.mono hb1.size)).mono HB0.out.size
 have HB2 := Lib.hid (HB0.out.trans hb02)
 have hC2 := HC.out.below HB2.out
 have hK2 := HK.out.below HB2.out
 have t6 : W2.cell? ⟨cb, 6, none⟩ = some (.int .i64 x.a) := hC2.cell 6
 have t13 : W2.cell? ⟨cb, 13, none⟩ = some (.string x.s) := hC2.cell 13
 have hi2W : W2.heap[i2]? = some (.cells toldZ 49 (0, 0)) := (hb2.block i2 hz1).trans ((hb1.block i2 hz0).trans Hi2.out)
 obtain ⟨W3, hW3⟩ : ∃ W3, W2.drew.alloc (.cells #[.string x.s] 9) = W3 := ⟨_, rfl⟩
 have h3 : Below W2.heap.size W2 W3 := by rw [<- hW3]; exact ((Below.refl _ _).drew).alloc (Nat.le_refl _) _
 have hrow : W3.heap[W2.heap.size]? = some (.cells #[.string x.s] 9 (0, 0)) := by rw [<- hW3]; exact heap_alloc_new _ _
 have H3 := Lib.hid h3
 have hbr : ∀ k, k < W2.heap.size -> W3.heap[k]? = W2.heap[k]? := fun k hk => h3.block k hk
 obtain ⟨b3, hb3e⟩ : ∃ b3, W2.heap.size = b3 := ⟨_, rfl⟩
 have hcl : cb < W2.heap.size := hC2.lt
 have HWr : Hid (Calls Tryz.prog 140 #[.pointer (some ⟨B, 0, none⟩), .int .i64 x.a, .slice (some ⟨b3, 0, none⟩) 1 1] W3 fun e W4 => e = .returned (.int .i64 0) /\ ∃ K4, KAt lo W4 K4 /\ KWrote K K4 x.pj (Pg.over (K.sd x.pj) x.a.toNat x.s.data.toList) /\ (Below lo W W4 /\ ∀ k, k < W.heap.size -> K.own k = none -> W4.heap[k]? = W.heap[k]? /\ K4.own k = none) /\ W4.heap[i2]? = some (.cells toldZ 49 (0, 0))) := Lib.hid (by
  have hK3 := hK2.below h3
  obtain ⟨b, ls, hlo, hA⟩ := hK3.seg HfS.out
  have hp : Pg.PsAt W3 (some ⟨b3, 0, none⟩) [x.s] := .inr ⟨b3, 0, _, _, rfl, by rw [<- hb3e]; exact hrow, fun j hj => by
   have : j = 0 := by simpa using hj
   subst this; rfl⟩
  have h5 := Pg.Write_any b B (K.sd x.pj) ls (some ⟨b3, 0, none⟩) 1 x.a [x.s] W3 hA hp (by simpa [Pg.sumL] using hsz) (by show 1 < 4611686018427387904; decide) ha
  rw [show Pg.sumL [x.s] = x.s.size from by simp [Pg.sumL]] at h5
  rw [Hfit.out] at h5
  have hcat : Pg.catL [x.s] = x.s.data.toList := by simp [Pg.catL]
  rw [hcat] at h5
  refine h5.mono ?_
  intro e W4 he
  rw [if_pos rfl] at he
  obtain ⟨rfl, ⟨ls', hA'⟩, hb4, hf4⟩ := he
  have hloW : lo <= W.heap.size := HK.out.lo_le
  have hi23 : W3.heap[i2]? = some (.cells toldZ 49 (0, 0)) := (hbr i2 hz2).trans hi2W
  exact ⟨rfl, _, hK3.wrote HfS.out hlo hA' hf4.size (fun k hk => hf4.foe k hk (hA.foe.old k hk)), ⟨_, rfl⟩, ⟨(HB2.out.mono hloW).trans ((h3.mono (Nat.le_trans hloW HB2.out.size)).trans (hb4.mono hlo)), fun k hk hk2 => ⟨(hf4.foe k ⟨Nat.lt_of_lt_of_le hk (Nat.le_trans HB2.out.size h3.size), by rw [hk2]; simp⟩ (Nat.lt_of_lt_of_le hk (Nat.le_trans HB2.out.size h3.size))).trans ((h3.block k (Nat.lt_of_lt_of_le hk HB2.out.size)).trans (HB2.out.block k hk)), (ownA_no (fun hs => hK3.notX HfS.out hA' k hs ⟨Nat.lt_of_lt_of_le hk (Nat.le_trans HB2.out.size h3.size), by rw [hk2]; simp⟩)).trans hk2⟩⟩, hf4.same i2 _ hi23 (by simp) (by simp)⟩)
 clear hb1 hb2 hb02 hC2 hK2 h3 hrow hbr hW2 hz1 hpi hpj hT hk hl hs hen hE hT2 hl2 hal ha hsz
 refine Ko.wp_region_cst (fun d => match d with | 22 => .agg #[.int .i64 0, .string ⟨#[]⟩, .int .i64 0, .slice none 0 0, .int .i64 0, .slice none 0 0, .slice none 0 0, .slice none 0 0] | 23 => .pointer (some ⟨B, 0, none⟩) | 24 => .pointer (some ⟨cb, 0, none⟩) | 25 => .pointer (some ⟨cb, 0, none⟩) | 26 => .pointer (some ⟨cb, 1, none⟩) | 27 => .pointer (some ⟨cb, 6, none⟩) | 28 => .int .i64 x.a | 29 => .pointer (some ⟨cb, 0, none⟩) | 30 => .pointer (some ⟨cb, 0, none⟩) | 31 => .pointer (some ⟨cb, 1, none⟩) | 32 => .pointer (some ⟨cb, 13, none⟩) | 33 => .string x.s | 34 => .slice (some ⟨b3, 0, none⟩) 1 1 | 35 => .int .i64 0 | 3 => .int .i64 0 | _ => undef) (fun li Wq => ((li.getD 13 false = false /\ Wq = (if li.getD 12 false = true then W3 else W2.drew)) ∨ (li.getD 13 false = true /\ ∃ K4 W4, (KAt lo W4 K4 /\ KWrote K K4 x.pj (Pg.over (K.sd x.pj) x.a.toNat x.s.data.toList) /\ (Below lo W W4 /\ ∀ k, k < W.heap.size -> K.own k = none -> W4.heap[k]? = W.heap[k]? /\ K4.own k = none) /\ W4.heap[i2]? = some (.cells toldZ 49 (0, 0))) /\ Wq = W4))) (by kernel_rfl) (by kernel_rfl) (by kernel_rfl) ?_ ?_ ?_
 · exact .inl ⟨rfl, rfl⟩
 · intro a' X li hJ hs hk i o ho hli hdn hG hcb
   have hJk : ∀ li' : Array Bool, li'.getD 13 false = li.getD 13 false -> li'.getD 12 false = li.getD 12 false -> ((li'.getD 13 false = false /\ X = (if li'.getD 12 false = true then W3 else W2.drew)) ∨ (li'.getD 13 false = true /\ ∃ K4 W4, (KAt lo W4 K4 /\ KWrote K K4 x.pj (Pg.over (K.sd x.pj) x.a.toNat x.s.data.toList) /\ (Below lo W W4 /\ ∀ k, k < W.heap.size -> K.own k = none -> W4.heap[k]? = W.heap[k]? /\ K4.own k = none) /\ W4.heap[i2]? = some (.cells toldZ 49 (0, 0))) /\ X = W4)) := fun li' e9 e12 => by
    rw [e9, e12]; exact hJ
   have hA : li.getD 13 false = false -> X = (if li.getD 12 false = true then W3 else W2.drew) := fun h9 => by
    rcases hJ with h | ⟨h, _⟩
    · exact h.2
    · rw [h9] at h; cases h
   match i, ho with
   | 0, ho =>
    cases ho
    generalize a'.eval = ev
    clear hG hk hdn hcb hJ hA
    exact ⟨rfl, .inl ⟨22, X, rfl, by clear hs hJk; go_simp, fun li' h1 h2 => hJk li' (h2 13 (by decide)) (h2 12 (by decide))⟩⟩
   | 1, ho =>
    cases ho
    have g5 : a'.eval (.tmp 5) = .pointer (some ⟨B, 0, none⟩) := hk 5 (by kernel_rfl)
    generalize a'.eval = ev at g5 |-
    clear hG hk hdn hcb hJ hA
    exact ⟨rfl, .inl ⟨23, X, rfl, by clear hs hJk; go_simp, fun li' h1 h2 => hJk li' (h2 13 (by decide)) (h2 12 (by decide))⟩⟩
   | 2, ho =>
    cases ho
    have g0 : a'.eval (.tmp 0) = .pointer (some ⟨cb, 0, none⟩) := hk 0 (by kernel_rfl)
    generalize a'.eval = ev at g0 |-
    clear hG hk hdn hcb hJ hA
    exact ⟨rfl, .inl ⟨24, X, rfl, by clear hs hJk; go_simp, fun li' h1 h2 => hJk li' (h2 13 (by decide)) (h2 12 (by decide))⟩⟩
   | 3, ho =>
    cases ho
    have g24 : a'.eval (.tmp 24) = .pointer (some ⟨cb, 0, none⟩) := hG 2 24 (hdn ⟨2, .data⟩ (by simp) rfl) rfl
    generalize a'.eval = ev at g24 |-
    clear hG hk hdn hcb hJ hA
    exact ⟨rfl, .inl ⟨25, X, rfl, by clear hs hJk; go_simp, fun li' h1 h2 => hJk li' (h2 13 (by decide)) (h2 12 (by decide))⟩⟩
   | 4, ho =>
    cases ho
    have g25 : a'.eval (.tmp 25) = .pointer (some ⟨cb, 0, none⟩) := hG 3 25 (hdn ⟨3, .data⟩ (by simp) rfl) rfl
    generalize a'.eval = ev at g25 |-
    clear hG hk hdn hcb hJ hA
    exact ⟨rfl, .inl ⟨26, X, rfl, by clear hs hJk; go_simp, fun li' h1 h2 => hJk li' (h2 13 (by decide)) (h2 12 (by decide))⟩⟩
   | 5, ho =>
    cases ho
    have g26 : a'.eval (.tmp 26) = .pointer (some ⟨cb, 1, none⟩) := hG 4 26 (hdn ⟨4, .data⟩ (by simp) rfl) rfl
    generalize a'.eval = ev at g26 |-
    clear hG hk hdn hcb hJ hA
    exact ⟨rfl, .inl ⟨27, X, rfl, by clear hs hJk; go_simp, fun li' h1 h2 => hJk li' (h2 13 (by decide)) (h2 12 (by decide))⟩⟩
   | 6, ho =>
    cases ho
    have g27 : a'.eval (.tmp 27) = .pointer (some ⟨cb, 6, none⟩) := hG 5 27 (hdn ⟨5, .data⟩ (by simp) rfl) rfl
    have h9 : li.getD 13 false = false := by
     cases h9 : li.getD 13 false with
     | false => rfl
     | true => exact absurd (Ko.need_done hcb 30 13 6 _ rfl (fun e he hb => hcb 13 _ rfl h9 e he hb) (by kernel_rfl)) (by rw [hli]; decide)
    have hh : ∀ k, k < W2.heap.size -> X.heap[k]? = W2.heap[k]? := fun k hk => by
     rw [hA h9]
     split
     · exact H3.out.block k hk
     · rfl
    generalize a'.eval = ev at g27 |-
    clear hG hk hdn hcb hJ hA
    have t6X := (World.cell?_of_block (a := ⟨cb, 6, none⟩) (hh cb hcl)).trans t6; have t13X := (World.cell?_of_block (a := ⟨cb, 13, none⟩) (hh cb hcl)).trans t13; clear t6 t13 hh
    exact ⟨rfl, .inl ⟨28, X, rfl, by clear hs hJk; go_simp, fun li' h1 h2 => hJk li' (h2 13 (by decide)) (h2 12 (by decide))⟩⟩
   | 7, ho =>
    cases ho
    have g0 : a'.eval (.tmp 0) = .pointer (some ⟨cb, 0, none⟩) := hk 0 (by kernel_rfl)
    generalize a'.eval = ev at g0 |-
    clear hG hk hdn hcb hJ hA
    exact ⟨rfl, .inl ⟨29, X, rfl, by clear hs hJk; go_simp, fun li' h1 h2 => hJk li' (h2 13 (by decide)) (h2 12 (by decide))⟩⟩
   | 8, ho =>
    cases ho
    have g29 : a'.eval (.tmp 29) = .pointer (some ⟨cb, 0, none⟩) := hG 7 29 (hdn ⟨7, .data⟩ (by simp) rfl) rfl
    generalize a'.eval = ev at g29 |-
    clear hG hk hdn hcb hJ hA
    exact ⟨rfl, .inl ⟨30, X, rfl, by clear hs hJk; go_simp, fun li' h1 h2 => hJk li' (h2 13 (by decide)) (h2 12 (by decide))⟩⟩
   | 9, ho =>
    cases ho
    have g30 : a'.eval (.tmp 30) = .pointer (some ⟨cb, 0, none⟩) := hG 8 30 (hdn ⟨8, .data⟩ (by simp) rfl) rfl
    generalize a'.eval = ev at g30 |-
    clear hG hk hdn hcb hJ hA
    exact ⟨rfl, .inl ⟨31, X, rfl, by clear hs hJk; go_simp, fun li' h1 h2 => hJk li' (h2 13 (by decide)) (h2 12 (by decide))⟩⟩
   | 10, ho =>
    cases ho
    have g31 : a'.eval (.tmp 31) = .pointer (some ⟨cb, 1, none⟩) := hG 9 31 (hdn ⟨9, .data⟩ (by simp) rfl) rfl
    generalize a'.eval = ev at g31 |-
    clear hG hk hdn hcb hJ hA
    exact ⟨rfl, .inl ⟨32, X, rfl, by clear hs hJk; go_simp, fun li' h1 h2 => hJk li' (h2 13 (by decide)) (h2 12 (by decide))⟩⟩
   | 11, ho =>
    cases ho
    have g32 : a'.eval (.tmp 32) = .pointer (some ⟨cb, 13, none⟩) := hG 10 32 (hdn ⟨10, .data⟩ (by simp) rfl) rfl
    have h9 : li.getD 13 false = false := by
     cases h9 : li.getD 13 false with
     | false => rfl
     | true => exact absurd (Ko.need_done hcb 30 13 11 _ rfl (fun e he hb => hcb 13 _ rfl h9 e he hb) (by kernel_rfl)) (by rw [hli]; decide)
    have hh : ∀ k, k < W2.heap.size -> X.heap[k]? = W2.heap[k]? := fun k hk => by
     rw [hA h9]
     split
     · exact H3.out.block k hk
     · rfl
    generalize a'.eval = ev at g32 |-
    clear hG hk hdn hcb hJ hA
    have t6X := (World.cell?_of_block (a := ⟨cb, 6, none⟩) (hh cb hcl)).trans t6; have t13X := (World.cell?_of_block (a := ⟨cb, 13, none⟩) (hh cb hcl)).trans t13; clear t6 t13 hh
    exact ⟨rfl, .inl ⟨33, X, rfl, by clear hs hJk; go_simp, fun li' h1 h2 => hJk li' (h2 13 (by decide)) (h2 12 (by decide))⟩⟩
   | 12, ho =>
    cases ho
    have g33 : a'.eval (.tmp 33) = .string x.s := hG 11 33 (hdn ⟨11, .data⟩ (by simp) rfl) rfl
    have h9 : li.getD 13 false = false := by
     cases h9 : li.getD 13 false with
     | false => rfl
     | true => exact absurd (Ko.need_done hcb 30 13 12 _ rfl (fun e he hb => hcb 13 _ rfl h9 e he hb) (by kernel_rfl)) (by rw [hli]; decide)
    have hX : X = W2.drew := by rw [hA h9, hli]; rfl
    clear hJk hJ hA
    subst hX
    refine ⟨rfl, .inl ⟨34, W3, rfl, ?_, fun li' h1 h2 => .inl ⟨by rw [h2 13 (by decide)]; exact h9, by rw [h1]; rfl⟩⟩⟩
    generalize a'.eval = ev at g33 |-
    clear hG hk hdn hcb
    clear t6 t13
    rw [<- hW3, <- hb3e]
    go_simp
    try rfl
   | 13, ho =>
    cases ho
    have g23 : a'.eval (.tmp 23) = .pointer (some ⟨B, 0, none⟩) := hG 1 23 (hdn ⟨1, .data⟩ (by simp) rfl) rfl
    have g28 : a'.eval (.tmp 28) = .int .i64 x.a := hG 6 28 (hdn ⟨6, .data⟩ (by simp) rfl) rfl
    have g34 : a'.eval (.tmp 34) = .slice (some ⟨b3, 0, none⟩) 1 1 := hG 12 34 (hdn ⟨12, .data⟩ (by simp) rfl) rfl
    have hX : X = W3 := by rw [hA hli, hdn ⟨12, .data⟩ (by simp) rfl]; rfl
    clear hJk hJ hA
    subst hX
    refine ⟨rfl, .inr (.inr ⟨35, 140, #[.pointer (some ⟨B, 0, none⟩), .int .i64 x.a, .slice (some ⟨b3, 0, none⟩) 1 1], rfl, ?_, ?_⟩)⟩
    · have gF : a'.eval (.func 140) = .func (.func 140) #[] #[] := rfl
      generalize a'.eval = ev at gF g23 g28 g34 |-
      exact exec_call3 rfl gF g23 g28 g34 (enters_of Tryz.func140 (by kernel_rfl) rfl)
    · refine HWr.out.mono ?_
      rintro e W4 ⟨rfl, K4, p1, p2, p3, p4⟩
      exact ⟨rfl, fun li' h1 h2 => .inr ⟨h1, K4, W4, ⟨p1, p2, p3, p4⟩, rfl⟩⟩
   | 14, ho =>
    cases ho
    have g2 : a'.eval (.tmp 2) = .pointer (some ⟨i2, 0, none⟩) := hk 2 (by kernel_rfl)
    have g22 : a'.eval (.tmp 22) = .agg #[.int .i64 0, .string ⟨#[]⟩, .int .i64 0, .slice none 0 0, .int .i64 0, .slice none 0 0, .slice none 0 0, .slice none 0 0] := hG 0 22 (hdn ⟨0, .data⟩ (by simp) rfl) rfl
    have h9 : li.getD 13 false = true := hdn ⟨13, .chain⟩ (by simp) rfl
    obtain ⟨K4, W4, hP4, hX⟩ : ∃ K4 W4, (KAt lo W4 K4 /\ KWrote K K4 x.pj (Pg.over (K.sd x.pj) x.a.toNat x.s.data.toList) /\ (Below lo W W4 /\ ∀ k, k < W.heap.size -> K.own k = none -> W4.heap[k]? = W.heap[k]? /\ K4.own k = none) /\ W4.heap[i2]? = some (.cells toldZ 49 (0, 0))) /\ X = W4 := by
     rcases hJ with h | ⟨_, K4, W4, h1, h2⟩
     · rw [h9] at h; cases h.1
     · exact ⟨K4, W4, h1, h2⟩
    clear hJ hA
    subst hX
    refine ⟨rfl, .inr (.inl ⟨X, rfl, ?_, fun li' h1 h2 => hJk li' (h2 13 (by decide)) (h2 12 (by decide))⟩)⟩
    generalize a'.eval = ev at g2 g22 |-
    clear hG hk hdn hcb hJk
    obtain ⟨p1', p2', p3', p4'⟩ := hP4
    have hid := setCells_told p4'
    unfold toldZ at p4' hid
    obtain ⟨⟨y0, y1, y2, y3, y4, y5, y6, y7⟩, ⟨f0, f1, f2, f3, f4, f5, f6, f7⟩⟩ := told8 p4'
    clear p1' p2' p3' p4' t6 t13
    refine Eq.trans (b := .ok .skip (X.setCells i2 0 [.int .i64 0, .string ⟨#[]⟩, .int .i64 0, .slice none 0 0, .int .i64 0, .slice none 0 0, .slice none 0 0, .slice none 0 0])) ?_ (by rw [show X.setCells i2 0 [.int .i64 0, .string ⟨#[]⟩, .int .i64 0, .slice none 0 0, .int .i64 0, .slice none 0 0, .slice none 0 0, .slice none 0 0] = X from hid])
    clear hid
    go_simp
    rfl
   | 15, ho =>
    cases ho
    have g35 : a'.eval (.tmp 35) = .int .i64 0 := hG 13 35 (hdn ⟨13, .data⟩ (by simp) rfl) rfl
    generalize a'.eval = ev at g35 |-
    clear hG hk hdn hcb hJ hA
    exact ⟨rfl, .inl ⟨3, X, rfl, by clear hs hJk; go_simp, fun li' h1 h2 => hJk li' (h2 13 (by decide)) (h2 12 (by decide))⟩⟩
   | j + 16, ho => simp at ho
 · intro a' X li hJ hs hdf hk hall hG
   obtain ⟨tm, df⟩ := a'
   obtain rfl : df = [] := hdf
   have htm := arr3 [.pointer (some ⟨cb, 0, none⟩), undef, .pointer (some ⟨i2, 0, none⟩), .int .i64 0, .pointer (some ⟨W1.heap.size, 0, none⟩), .pointer (some ⟨B, 0, none⟩), .int .i64 0, .tuple #[.agg #[.int .i64 x.pj, .int .i64 2, .int .i64 og.ob.quota, .int .i64 og.ob.used, .int .i64 og.ob.links, .int .i64 og.ob.df, .slice sp og.ob.cats.length cp], .pointer (some ⟨B, 0, none⟩), .int .i64 0], .pointer (some ⟨cb, 0, none⟩), .pointer (some ⟨cb, 0, none⟩), .pointer (some ⟨cb, 0, none⟩), .pointer (some ⟨cb, 21, none⟩), .agg #[.pointer (some ⟨y.B, 0, none⟩), .int .i64 y.id, .int .i64 y.d, y.v], .func (.func 129) #[.agg #[.pointer (some ⟨y.B, 0, none⟩), .int .i64 y.id, .int .i64 y.d, y.v]] #[], .tuple #[.agg #[.int .i64 x.pj, .int .i64 2, .int .i64 og.ob.quota, .int .i64 og.ob.used, .int .i64 og.ob.links, .int .i64 og.ob.df, .slice sp og.ob.cats.length cp], .pointer (some ⟨B, 0, none⟩), .int .i64 0], .agg #[.int .i64 x.pj, .int .i64 2, .int .i64 og.ob.quota, .int .i64 og.ob.used, .int .i64 og.ob.links, .int .i64 og.ob.df, .slice sp og.ob.cats.length cp], .pointer (some ⟨B, 0, none⟩), .int .i64 0, .int .i64 0, .bool false, undef, undef, .agg #[.int .i64 0, .string ⟨#[]⟩, .int .i64 0, .slice none 0 0, .int .i64 0, .slice none 0 0, .slice none 0 0, .slice none 0 0], .pointer (some ⟨B, 0, none⟩), .pointer (some ⟨cb, 0, none⟩), .pointer (some ⟨cb, 0, none⟩), .pointer (some ⟨cb, 1, none⟩), .pointer (some ⟨cb, 6, none⟩), .int .i64 x.a, .pointer (some ⟨cb, 0, none⟩), .pointer (some ⟨cb, 0, none⟩), .pointer (some ⟨cb, 1, none⟩), .pointer (some ⟨cb, 13, none⟩), .string x.s, .slice (some ⟨b3, 0, none⟩) 1 1, .int .i64 0] hs (ae 1 (by exact hk 0 rfl) (ae 2 (by exact hk 1 rfl) (ae 3 (by exact hk 2 rfl) (ae 4 (by exact hG 15 3 (by decide) rfl) (ae 5 (by exact hk 4 rfl) (ae 6 (by exact hk 5 rfl) (ae 7 (by exact hk 6 rfl) (ae 8 (by exact hk 7 rfl) (ae 9 (by exact hk 8 rfl) (ae 10 (by exact hk 9 rfl) (ae 11 (by exact hk 10 rfl) (ae 12 (by exact hk 11 rfl) (ae 13 (by exact hk 12 rfl) (ae 14 (by exact hk 13 rfl) (ae 15 (by exact hk 14 rfl) (ae 16 (by exact hk 15 rfl) (ae 17 (by exact hk 16 rfl) (ae 18 (by exact hk 17 rfl) (ae 19 (by exact hk 18 rfl) (ae 20 (by exact hk 19 rfl) (ae 21 (by exact hk 20 rfl) (ae 22 (by exact hk 21 rfl) (ae 23 (by exact hG 0 22 (by decide) rfl) (ae 24 (by exact hG 1 23 (by decide) rfl) (ae 25 (by exact hG 2 24 (by decide) rfl) (ae 26 (by exact hG 3 25 (by decide) rfl) (ae 27 (by exact hG 4 26 (by decide) rfl) (ae 28 (by exact hG 5 27 (by decide) rfl) (ae 29 (by exact hG 6 28 (by decide) rfl) (ae 30 (by exact hG 7 29 (by decide) rfl) (ae 31 (by exact hG 8 30 (by decide) rfl) (ae 32 (by exact hG 9 31 (by decide) rfl) (ae 33 (by exact hG 10 32 (by decide) rfl) (ae 34 (by exact hG 11 33 (by decide) rfl) (ae 35 (by exact hG 12 34 (by decide) rfl) (ae 36 (by exact hG 13 35 (by decide) rfl) az))))))))))))))))))))))))))))))))))))
   subst htm
   obtain ⟨K4, W4, hP4, hX⟩ : ∃ K4 W4, (KAt lo W4 K4 /\ KWrote K K4 x.pj (Pg.over (K.sd x.pj) x.a.toNat x.s.data.toList) /\ (Below lo W W4 /\ ∀ k, k < W.heap.size -> K.own k = none -> W4.heap[k]? = W.heap[k]? /\ K4.own k = none) /\ W4.heap[i2]? = some (.cells toldZ 49 (0, 0))) /\ X = W4 := by
    rcases hJ with h | ⟨_, K4, W4, h1, h2⟩
    · rw [hall 13 (by decide)] at h; cases h.1
    · exact ⟨K4, W4, h1, h2⟩
   subst hX
   clear hG hk hs hall hJ
   obtain ⟨p1', p2', p3', p4'⟩ := hP4
   unfold toldZ at p4'
   have hr8 := rng_of p4'
   have HP1 := Lib.hid p1'
   have HP3 := Lib.hid p3'
   have Hr8 := Lib.hid hr8
   clear p1' p3' p4' hr8 t6 t13
   go_wp2
   refine bodyPost_ret (v := .tuple #[.agg #[.int .i64 0, .string ⟨#[]⟩, .int .i64 0, .slice none 0 0, .int .i64 0, .slice none 0 0, .slice none 0 0, .slice none 0 0], .int .i64 0]) ?_ rfl ⟨rfl, K4, HP1.out, p2', HP3.out.1, HP3.out.2⟩
   exact results_cell_tmp Tryz.results78 _ _ i2 _ _ rfl Hr8.out Tryz.underlying49 rfl infoT
end Go.Proofs.YtmgfakfiiaeofaaGreat
