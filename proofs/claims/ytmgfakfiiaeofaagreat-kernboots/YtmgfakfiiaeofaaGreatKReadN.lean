/- read of package kern, where nothing is. -/
import Derived.Test.YtmgfakfiiaeofaaGreatSq
import Derived.Test.YtmgfakfiiaeofaaGreatKWrite
/- read of package kern. -/
namespace Go.Proofs.YtmgfakfiiaeofaaGreat
open Go.RowKit Go.Sort
set_option maxRecDepth 100000 in
set_option maxHeartbeats 4000000 in
theorem read_ok {lo cb : Nat} {W : World} {K : Kn} {x : Ask} {y : Who} {dr : Int} (hC : ClAt W cb K.kb x y dr) (hK : KAt lo W K) (hpi : Ho.i64 x.pi) (hpj : Ho.i64 x.pj) (r og : Ho.Rc) (hT : K.T x.pi = some r) (hk : r.ob.kind = 1) (hl : r.ob.cats.length <= 16)
 (xs : List (Int × Int)) (hw : Pa.LV (y.d, xs) (.agg #[.int .i64 y.d, y.v]) W) (hs : Pa.seesS y.d r.ob.df xs r.ob.cats = true) (hen : ∀ q, K.T x.pi = some q -> q.ob.ents.length < 1000000) (hE : Ho.entE K.T x.pi x.pj = 0) (hT2 : K.T x.pj = some og) (hl2 : og.ob.cats.length <= 16) (hkd : og.ob.kind = 2) (hoid : og.ob.id = x.pj) (B : Nat) (hfS : K.fS (Wa.ky x.pj) = some B)
 (hal : Pa.seesS y.d og.ob.df xs og.ob.cats = true) (a n : Nat) (ha : x.a = (a : Int)) (hb : x.b = (n : Int)) (hfit : a + n <= (K.sd x.pj).length) :
 Calls Tryz.prog 77 #[.pointer (some ⟨cb, 0, none⟩)] W fun e W' => e = .returned (.tuple #[.agg #[.int .i64 0, .string ⟨(((K.sd x.pj).drop a).take n).toArray⟩, .int .i64 0, .slice none 0 0, .int .i64 0, .slice none 0 0, .slice none 0 0, .slice none 0 0], .int .i64 0]) /\ Below W.heap.size W W' := by
 obtain ⟨W0, hW0⟩ : ∃ W0, W.alloc (.cells toldZ 49) = W0 := ⟨_, rfl⟩
 have hb0 : Below W.heap.size W W0 := by rw [<- hW0]; exact (Below.refl _ _).alloc (Nat.le_refl _) _
 have hi2 : W0.heap[W.heap.size]? = some (.cells toldZ 49 (0, 0)) := by rw [<- hW0]; exact heap_alloc_new _ _
 have hz0 : W.heap.size < W0.heap.size := by rw [<- hW0]; simp
 have hC0 := hC.below hb0
 have HTg := Lib.hid (segment_sees hC0 (hK.below hb0) hpi hpj r og hT hk hl xs (hw.below hb0) hs hen hE hT2 hl2 hkd hoid B hfS (.agg #[.pointer (some ⟨y.B, 0, none⟩), .int .i64 y.id, .int .i64 y.d, y.v]) (fun W' u hb hu => by
  have h5 := sees_c (t := (y.d, xs)) (B := y.B) (id := y.id) ((hw.below hb0).below hb) hu
  rw [show Pa.seesS ((y.d, xs) : Pa.ML).1 ((og.ob.df, og.ob.cats) : Pa.ML).1 ((y.d, xs) : Pa.ML).2 ((og.ob.df, og.ob.cats) : Pa.ML).2 = true from hal] at h5
  exact h5))
 have c21 : W0.cell? ⟨cb, 21, none⟩ = some (.pointer (some ⟨y.B, 0, none⟩)) := hC0.cell 21
 have c22 : W0.cell? ⟨cb, 22, none⟩ = some (.int .i64 y.id) := hC0.cell 22
 have c23 : W0.cell? ⟨cb, 23, none⟩ = some (.int .i64 y.d) := hC0.cell 23
 have c24 : W0.cell? ⟨cb, 24, none⟩ = some y.v := hC0.cell 24
 have HC := Lib.hid hC
 have HK := Lib.hid hK
 have HB0 := Lib.hid hb0
 have Hi2 := Lib.hid hi2
 have Hfit := Lib.hid hfit
 have HfS := Lib.hid hfS
 obtain ⟨i2, hi2e⟩ : ∃ i2, W.heap.size = i2 := ⟨_, rfl⟩
 have Hi2e := Lib.hid hi2e
 clear hC hK hw hb0 hi2 hC0 hfit hfS
 unfold toldZ at hW0
 go_enter Tryz.func77, Tryz.ntmps77
 go_upto_region 1 with fail
 rw [hi2e] at hz0 Hi2
 clear hW0 hi2e
 go_wp2_with (go_at_call 139; refine HTg.out.mono ?_; rintro e W1 ⟨sp, cp, rfl, hb1⟩; refine Hid.out ?_)
 refine Lib.hid ?_
 unfold Ho.infoV
 go_upto_region 4 with fail
 obtain ⟨W2, hW2⟩ : ∃ W2, W1.alloc (.cells #[.int .i64 og.ob.id, .int .i64 og.ob.kind, .int .i64 og.ob.quota, .int .i64 og.ob.used, .int .i64 og.ob.links, .int .i64 og.ob.df, .slice sp og.ob.cats.length cp] 89) = W2 := ⟨_, rfl⟩
 have hb2 : Below W1.heap.size W1 W2 := by rw [<- hW2]; exact (Below.refl _ _).alloc (Nat.le_refl _) _
 rw [hkd, hoid] at hW2
 rw [hkd, hoid, hW2]
 have hz1 : i2 < W1.heap.size := Nat.lt_of_lt_of_le hz0 hb1.size
 have hz2 : i2 < W2.heap.size := Nat.lt_of_lt_of_le hz1 hb2.size
 have hb02 : Below W.heap.size W0 W2 := (hb1.trans (hb2.mono hb1.size)).mono HB0.out.size
 have HB2 := Lib.hid (HB0.out.trans hb02)
 have hC2 := HC.out.below HB2.out
 have hK2 := HK.out.below HB2.out
 have t6 : W2.cell? ⟨cb, 6, none⟩ = some (.int .i64 a) := (hC2.cell 6).trans (by show some (Value.int .i64 x.a) = _; rw [ha])
 have t7 : W2.cell? ⟨cb, 7, none⟩ = some (.int .i64 n) := (hC2.cell 7).trans (by show some (Value.int .i64 x.b) = _; rw [hb])
 have hi2W : W2.heap[i2]? = some (.cells toldZ 49 (0, 0)) := (hb2.block i2 hz1).trans ((hb1.block i2 hz0).trans Hi2.out)
 have hcl : cb < W2.heap.size := hC2.lt
 have HWr : Hid (Calls Tryz.prog 50 #[.pointer (some ⟨B, 0, none⟩), .int .i64 a, .int .i64 n] W2.drew fun e W4 => e = .returned (.tuple #[.string ⟨(((K.sd x.pj).drop a).take n).toArray⟩, .int .i64 0]) /\ Below W.heap.size W W4 /\ W4.heap[i2]? = some (.cells toldZ 49 (0, 0))) := Lib.hid (by
  have hd : Below W2.heap.size W2 W2.drew := (Below.refl _ _).drew
  obtain ⟨b, ls, hlo, hA⟩ := (hK2.below hd).seg HfS.out
  refine (Pg.Read_any b B a n (K.sd x.pj) ls W2.drew hA Hfit.out).mono ?_
  rintro e W4 ⟨rfl, h4⟩
  exact ⟨rfl, HB2.out.trans ((hd.trans h4).mono HB2.out.size), (h4.block i2 hz2).trans hi2W⟩)
 clear hb1 hb2 hb02 hC2 hK2 hW2 hz1 hpi hpj hT hk hl hs hen hE hT2 hl2 hal ha hb
 refine Ko.wp_region_cst (fun d => match d with | 24 => .pointer (some ⟨B, 0, none⟩) | 25 => .pointer (some ⟨cb, 0, none⟩) | 26 => .pointer (some ⟨cb, 0, none⟩) | 27 => .pointer (some ⟨cb, 1, none⟩) | 28 => .pointer (some ⟨cb, 6, none⟩) | 29 => .int .i64 a | 30 => .pointer (some ⟨cb, 0, none⟩) | 31 => .pointer (some ⟨cb, 0, none⟩) | 32 => .pointer (some ⟨cb, 1, none⟩) | 33 => .pointer (some ⟨cb, 7, none⟩) | 34 => .int .i64 n | 35 => .tuple #[.string ⟨(((K.sd x.pj).drop a).take n).toArray⟩, .int .i64 0] | 23 => .tuple #[.string ⟨(((K.sd x.pj).drop a).take n).toArray⟩, .int .i64 0] | 36 => .string ⟨(((K.sd x.pj).drop a).take n).toArray⟩ | 37 => .int .i64 0 | 7 => .string ⟨(((K.sd x.pj).drop a).take n).toArray⟩ | 6 => .int .i64 0 | _ => undef) (fun li Wq => ((li.getD 11 false = false /\ Wq = W2.drew) ∨ (li.getD 11 false = true /\ ∃ K4 W4, (K4 = () /\ Below W.heap.size W W4 /\ W4.heap[i2]? = some (.cells toldZ 49 (0, 0))) /\ Wq = W4))) (by kernel_rfl) (by kernel_rfl) (by kernel_rfl) ?_ ?_ ?_
 · exact .inl ⟨rfl, rfl⟩
 · intro a' X li hJ hs hk i o ho hli hdn hG hcb
   have hJk : ∀ li' : Array Bool, li'.getD 11 false = li.getD 11 false -> True -> ((li'.getD 11 false = false /\ X = W2.drew) ∨ (li'.getD 11 false = true /\ ∃ K4 W4, (K4 = () /\ Below W.heap.size W W4 /\ W4.heap[i2]? = some (.cells toldZ 49 (0, 0))) /\ X = W4)) := fun li' e9 e12 => by
    rw [e9]; exact hJ
   have hA : li.getD 11 false = false -> X = W2.drew := fun h9 => by
    rcases hJ with h | ⟨h, _⟩
    · exact h.2
    · rw [h9] at h; cases h
   match i, ho with
   | 0, ho =>
    cases ho
    have g5 : a'.eval (.tmp 5) = .pointer (some ⟨B, 0, none⟩) := hk 5 (by kernel_rfl)
    generalize a'.eval = ev at g5 |-
    clear hG hk hdn hcb hJ hA
    exact ⟨rfl, .inl ⟨24, X, rfl, by clear hs hJk; go_simp, fun li' h1 h2 => hJk li' (h2 11 (by decide)) trivial⟩⟩
   | 1, ho =>
    cases ho
    have g0 : a'.eval (.tmp 0) = .pointer (some ⟨cb, 0, none⟩) := hk 0 (by kernel_rfl)
    generalize a'.eval = ev at g0 |-
    clear hG hk hdn hcb hJ hA
    exact ⟨rfl, .inl ⟨25, X, rfl, by clear hs hJk; go_simp, fun li' h1 h2 => hJk li' (h2 11 (by decide)) trivial⟩⟩
   | 2, ho =>
    cases ho
    have g25 : a'.eval (.tmp 25) = .pointer (some ⟨cb, 0, none⟩) := hG 1 25 (hdn ⟨1, .data⟩ (by simp) rfl) rfl
    generalize a'.eval = ev at g25 |-
    clear hG hk hdn hcb hJ hA
    exact ⟨rfl, .inl ⟨26, X, rfl, by clear hs hJk; go_simp, fun li' h1 h2 => hJk li' (h2 11 (by decide)) trivial⟩⟩
   | 3, ho =>
    cases ho
    have g26 : a'.eval (.tmp 26) = .pointer (some ⟨cb, 0, none⟩) := hG 2 26 (hdn ⟨2, .data⟩ (by simp) rfl) rfl
    generalize a'.eval = ev at g26 |-
    clear hG hk hdn hcb hJ hA
    exact ⟨rfl, .inl ⟨27, X, rfl, by clear hs hJk; go_simp, fun li' h1 h2 => hJk li' (h2 11 (by decide)) trivial⟩⟩
   | 4, ho =>
    cases ho
    have g27 : a'.eval (.tmp 27) = .pointer (some ⟨cb, 1, none⟩) := hG 3 27 (hdn ⟨3, .data⟩ (by simp) rfl) rfl
    generalize a'.eval = ev at g27 |-
    clear hG hk hdn hcb hJ hA
    exact ⟨rfl, .inl ⟨28, X, rfl, by clear hs hJk; go_simp, fun li' h1 h2 => hJk li' (h2 11 (by decide)) trivial⟩⟩
   | 5, ho =>
    cases ho
    have g28 : a'.eval (.tmp 28) = .pointer (some ⟨cb, 6, none⟩) := hG 4 28 (hdn ⟨4, .data⟩ (by simp) rfl) rfl
    have h9 : li.getD 11 false = false := by
     cases h9 : li.getD 11 false with
     | false => rfl
     | true => exact absurd (Ko.need_done hcb 30 11 5 _ rfl (fun e he hb => hcb 11 _ rfl h9 e he hb) (by kernel_rfl)) (by rw [hli]; decide)
    have hh : ∀ k, k < W2.heap.size -> X.heap[k]? = W2.heap[k]? := fun k hk => by
     rw [hA h9]
     rfl
    generalize a'.eval = ev at g28 |-
    clear hG hk hdn hcb hJ hA
    have t6X := (World.cell?_of_block (a := ⟨cb, 6, none⟩) (hh cb hcl)).trans t6; have t13X := (World.cell?_of_block (a := ⟨cb, 7, none⟩) (hh cb hcl)).trans t7; clear t6 t7 hh
    exact ⟨rfl, .inl ⟨29, X, rfl, by clear hs hJk; go_simp, fun li' h1 h2 => hJk li' (h2 11 (by decide)) trivial⟩⟩
   | 6, ho =>
    cases ho
    have g0 : a'.eval (.tmp 0) = .pointer (some ⟨cb, 0, none⟩) := hk 0 (by kernel_rfl)
    generalize a'.eval = ev at g0 |-
    clear hG hk hdn hcb hJ hA
    exact ⟨rfl, .inl ⟨30, X, rfl, by clear hs hJk; go_simp, fun li' h1 h2 => hJk li' (h2 11 (by decide)) trivial⟩⟩
   | 7, ho =>
    cases ho
    have g30 : a'.eval (.tmp 30) = .pointer (some ⟨cb, 0, none⟩) := hG 6 30 (hdn ⟨6, .data⟩ (by simp) rfl) rfl
    generalize a'.eval = ev at g30 |-
    clear hG hk hdn hcb hJ hA
    exact ⟨rfl, .inl ⟨31, X, rfl, by clear hs hJk; go_simp, fun li' h1 h2 => hJk li' (h2 11 (by decide)) trivial⟩⟩
   | 8, ho =>
    cases ho
    have g31 : a'.eval (.tmp 31) = .pointer (some ⟨cb, 0, none⟩) := hG 7 31 (hdn ⟨7, .data⟩ (by simp) rfl) rfl
    generalize a'.eval = ev at g31 |-
    clear hG hk hdn hcb hJ hA
    exact ⟨rfl, .inl ⟨32, X, rfl, by clear hs hJk; go_simp, fun li' h1 h2 => hJk li' (h2 11 (by decide)) trivial⟩⟩
   | 9, ho =>
    cases ho
    have g32 : a'.eval (.tmp 32) = .pointer (some ⟨cb, 1, none⟩) := hG 8 32 (hdn ⟨8, .data⟩ (by simp) rfl) rfl
    generalize a'.eval = ev at g32 |-
    clear hG hk hdn hcb hJ hA
    exact ⟨rfl, .inl ⟨33, X, rfl, by clear hs hJk; go_simp, fun li' h1 h2 => hJk li' (h2 11 (by decide)) trivial⟩⟩
   | 10, ho =>
    cases ho
    have g33 : a'.eval (.tmp 33) = .pointer (some ⟨cb, 7, none⟩) := hG 9 33 (hdn ⟨9, .data⟩ (by simp) rfl) rfl
    have h9 : li.getD 11 false = false := by
     cases h9 : li.getD 11 false with
     | false => rfl
     | true => exact absurd (Ko.need_done hcb 30 11 10 _ rfl (fun e he hb => hcb 11 _ rfl h9 e he hb) (by kernel_rfl)) (by rw [hli]; decide)
    have hh : ∀ k, k < W2.heap.size -> X.heap[k]? = W2.heap[k]? := fun k hk => by
     rw [hA h9]
     rfl
    generalize a'.eval = ev at g33 |-
    clear hG hk hdn hcb hJ hA
    have t6X := (World.cell?_of_block (a := ⟨cb, 6, none⟩) (hh cb hcl)).trans t6; have t13X := (World.cell?_of_block (a := ⟨cb, 7, none⟩) (hh cb hcl)).trans t7; clear t6 t7 hh
    exact ⟨rfl, .inl ⟨34, X, rfl, by clear hs hJk; go_simp, fun li' h1 h2 => hJk li' (h2 11 (by decide)) trivial⟩⟩
   | 11, ho =>
    cases ho
    have g24 : a'.eval (.tmp 24) = .pointer (some ⟨B, 0, none⟩) := hG 0 24 (hdn ⟨0, .data⟩ (by simp) rfl) rfl
    have g29 : a'.eval (.tmp 29) = .int .i64 a := hG 5 29 (hdn ⟨5, .data⟩ (by simp) rfl) rfl
    have g34 : a'.eval (.tmp 34) = .int .i64 n := hG 10 34 (hdn ⟨10, .data⟩ (by simp) rfl) rfl
    have hX : X = W2.drew := hA hli
    clear hJk hJ hA
    subst hX
    refine ⟨rfl, .inr (.inr ⟨35, 50, #[.pointer (some ⟨B, 0, none⟩), .int .i64 a, .int .i64 n], rfl, ?_, ?_⟩)⟩
    · have gF : a'.eval (.func 50) = .func (.func 50) #[] #[] := rfl
      generalize a'.eval = ev at gF g24 g29 g34 |-
      exact exec_call3 rfl gF g24 g29 g34 (enters_of Tryz.func50 (by kernel_rfl) rfl)
    · refine HWr.out.mono ?_
      rintro e W4 ⟨rfl, p1, p2⟩
      exact ⟨rfl, fun li' h1 h2 => .inr ⟨h1, (), W4, ⟨rfl, p1, p2⟩, rfl⟩⟩
   | 12, ho =>
    cases ho
    have g35 : a'.eval (.tmp 35) = .tuple #[.string ⟨(((K.sd x.pj).drop a).take n).toArray⟩, .int .i64 0] := hG 11 35 (hdn ⟨11, .data⟩ (by simp) rfl) rfl
    generalize a'.eval = ev at g35 |-
    clear hG hk hdn hcb hJ hA
    exact ⟨rfl, .inl ⟨23, X, rfl, by clear hs hJk; go_simp, fun li' h1 h2 => hJk li' (h2 11 (by decide)) trivial⟩⟩
   | 13, ho =>
    cases ho
    have g23 : a'.eval (.tmp 23) = .tuple #[.string ⟨(((K.sd x.pj).drop a).take n).toArray⟩, .int .i64 0] := hG 12 23 (hdn ⟨12, .data⟩ (by simp) rfl) rfl
    generalize a'.eval = ev at g23 |-
    clear hG hk hdn hcb hJ hA
    exact ⟨rfl, .inl ⟨36, X, rfl, by clear hs hJk; go_simp, fun li' h1 h2 => hJk li' (h2 11 (by decide)) trivial⟩⟩
   | 14, ho =>
    cases ho
    have g23 : a'.eval (.tmp 23) = .tuple #[.string ⟨(((K.sd x.pj).drop a).take n).toArray⟩, .int .i64 0] := hG 12 23 (hdn ⟨12, .data⟩ (by simp) rfl) rfl
    generalize a'.eval = ev at g23 |-
    clear hG hk hdn hcb hJ hA
    exact ⟨rfl, .inl ⟨37, X, rfl, by clear hs hJk; go_simp, fun li' h1 h2 => hJk li' (h2 11 (by decide)) trivial⟩⟩
   | 15, ho =>
    cases ho
    have g36 : a'.eval (.tmp 36) = .string ⟨(((K.sd x.pj).drop a).take n).toArray⟩ := hG 13 36 (hdn ⟨13, .data⟩ (by simp) rfl) rfl
    generalize a'.eval = ev at g36 |-
    clear hG hk hdn hcb hJ hA
    exact ⟨rfl, .inl ⟨7, X, rfl, by clear hs hJk; go_simp, fun li' h1 h2 => hJk li' (h2 11 (by decide)) trivial⟩⟩
   | 16, ho =>
    cases ho
    have g37 : a'.eval (.tmp 37) = .int .i64 0 := hG 14 37 (hdn ⟨14, .data⟩ (by simp) rfl) rfl
    generalize a'.eval = ev at g37 |-
    clear hG hk hdn hcb hJ hA
    exact ⟨rfl, .inl ⟨6, X, rfl, by clear hs hJk; go_simp, fun li' h1 h2 => hJk li' (h2 11 (by decide)) trivial⟩⟩
   | j + 17, ho => simp at ho
 · intro a' X li hJ hs hdf hk hall hG
   obtain ⟨tm, df⟩ := a'
   obtain rfl : df = [] := hdf
   have htm := arr3 [.pointer (some ⟨cb, 0, none⟩), undef, .pointer (some ⟨i2, 0, none⟩), .int .i64 0, .pointer (some ⟨W1.heap.size, 0, none⟩), .pointer (some ⟨B, 0, none⟩), .int .i64 0, .string ⟨(((K.sd x.pj).drop a).take n).toArray⟩, .tuple #[.agg #[.int .i64 x.pj, .int .i64 2, .int .i64 og.ob.quota, .int .i64 og.ob.used, .int .i64 og.ob.links, .int .i64 og.ob.df, .slice sp og.ob.cats.length cp], .pointer (some ⟨B, 0, none⟩), .int .i64 0], .pointer (some ⟨cb, 0, none⟩), .pointer (some ⟨cb, 0, none⟩), .pointer (some ⟨cb, 0, none⟩), .pointer (some ⟨cb, 21, none⟩), .agg #[.pointer (some ⟨y.B, 0, none⟩), .int .i64 y.id, .int .i64 y.d, y.v], .func (.func 138) #[.agg #[.pointer (some ⟨y.B, 0, none⟩), .int .i64 y.id, .int .i64 y.d, y.v]] #[], .tuple #[.agg #[.int .i64 x.pj, .int .i64 2, .int .i64 og.ob.quota, .int .i64 og.ob.used, .int .i64 og.ob.links, .int .i64 og.ob.df, .slice sp og.ob.cats.length cp], .pointer (some ⟨B, 0, none⟩), .int .i64 0], .agg #[.int .i64 x.pj, .int .i64 2, .int .i64 og.ob.quota, .int .i64 og.ob.used, .int .i64 og.ob.links, .int .i64 og.ob.df, .slice sp og.ob.cats.length cp], .pointer (some ⟨B, 0, none⟩), .int .i64 0, .int .i64 0, .bool false, undef, undef, .tuple #[.string ⟨(((K.sd x.pj).drop a).take n).toArray⟩, .int .i64 0], .pointer (some ⟨B, 0, none⟩), .pointer (some ⟨cb, 0, none⟩), .pointer (some ⟨cb, 0, none⟩), .pointer (some ⟨cb, 1, none⟩), .pointer (some ⟨cb, 6, none⟩), .int .i64 a, .pointer (some ⟨cb, 0, none⟩), .pointer (some ⟨cb, 0, none⟩), .pointer (some ⟨cb, 1, none⟩), .pointer (some ⟨cb, 7, none⟩), .int .i64 n, .tuple #[.string ⟨(((K.sd x.pj).drop a).take n).toArray⟩, .int .i64 0], .string ⟨(((K.sd x.pj).drop a).take n).toArray⟩, .int .i64 0, undef, undef, undef] hs (ae 1 (by exact hk 0 rfl) (ae 2 (by exact hk 1 rfl) (ae 3 (by exact hk 2 rfl) (ae 4 (by exact hk 3 rfl) (ae 5 (by exact hk 4 rfl) (ae 6 (by exact hk 5 rfl) (ae 7 (by exact hG 16 6 (by decide) rfl) (ae 8 (by exact hG 15 7 (by decide) rfl) (ae 9 (by exact hk 8 rfl) (ae 10 (by exact hk 9 rfl) (ae 11 (by exact hk 10 rfl) (ae 12 (by exact hk 11 rfl) (ae 13 (by exact hk 12 rfl) (ae 14 (by exact hk 13 rfl) (ae 15 (by exact hk 14 rfl) (ae 16 (by exact hk 15 rfl) (ae 17 (by exact hk 16 rfl) (ae 18 (by exact hk 17 rfl) (ae 19 (by exact hk 18 rfl) (ae 20 (by exact hk 19 rfl) (ae 21 (by exact hk 20 rfl) (ae 22 (by exact hk 21 rfl) (ae 23 (by exact hk 22 rfl) (ae 24 (by exact hG 12 23 (by decide) rfl) (ae 25 (by exact hG 0 24 (by decide) rfl) (ae 26 (by exact hG 1 25 (by decide) rfl) (ae 27 (by exact hG 2 26 (by decide) rfl) (ae 28 (by exact hG 3 27 (by decide) rfl) (ae 29 (by exact hG 4 28 (by decide) rfl) (ae 30 (by exact hG 5 29 (by decide) rfl) (ae 31 (by exact hG 6 30 (by decide) rfl) (ae 32 (by exact hG 7 31 (by decide) rfl) (ae 33 (by exact hG 8 32 (by decide) rfl) (ae 34 (by exact hG 9 33 (by decide) rfl) (ae 35 (by exact hG 10 34 (by decide) rfl) (ae 36 (by exact hG 11 35 (by decide) rfl) (ae 37 (by exact hG 13 36 (by decide) rfl) (ae 38 (by exact hG 14 37 (by decide) rfl) (ae 39 (by exact hk 38 rfl) (ae 40 (by exact hk 39 rfl) (ae 41 (by exact hk 40 rfl) az)))))))))))))))))))))))))))))))))))))))))
   subst htm
   obtain ⟨K4, W4, hP4, hX⟩ : ∃ K4 W4, (K4 = () /\ Below W.heap.size W W4 /\ W4.heap[i2]? = some (.cells toldZ 49 (0, 0))) /\ X = W4 := by
    rcases hJ with h | ⟨_, K4, W4, h1, h2⟩
    · rw [hall 11 (by decide)] at h; cases h.1
    · exact ⟨K4, W4, h1, h2⟩
   subst hX
   clear hG hk hs hall hJ
   obtain ⟨-, p3', p4'⟩ := hP4
   unfold toldZ at p4'
   obtain ⟨⟨y0, y1, y2, y3, y4, y5, y6, y7⟩, ⟨f0, f1, f2, f3, f4, f5, f6, f7⟩⟩ := told8 p4'
   have Hr8 := Lib.hid (set8 (v0 := .int .i64 0) (v1 := .string ⟨(((K.sd x.pj).drop a).take n).toArray⟩) (v2 := .int .i64 0) (v3 := .slice none 0 0) (v4 := .int .i64 0) (v5 := .slice none 0 0) (v6 := .slice none 0 0) (v7 := .slice none 0 0) p4')
   have Hbe := Lib.hid (Go.below_setCells (show W.heap.size <= i2 by have := Hi2e.out; omega) [.int .i64 0, .string ⟨(((K.sd x.pj).drop a).take n).toArray⟩, .int .i64 0, .slice none 0 0, .int .i64 0, .slice none 0 0, .slice none 0 0, .slice none 0 0] 0 X p3')
   clear p3' p4' t6 t7
   go_wp2
   refine bodyPost_ret (v := .tuple #[.agg #[.int .i64 0, .string ⟨(((K.sd x.pj).drop a).take n).toArray⟩, .int .i64 0, .slice none 0 0, .int .i64 0, .slice none 0 0, .slice none 0 0, .slice none 0 0], .int .i64 0]) ?_ rfl ⟨rfl, Hbe.out⟩
   exact results_cell_tmp Tryz.results77 _ _ i2 _ _ rfl Hr8.out Tryz.underlying49 rfl infoT
set_option maxRecDepth 100000 in
set_option maxHeartbeats 4000000 in
theorem read_none {lo cb : Nat} {W : World} {K : Kn} {x : Ask} {y : Who} {dr : Int} (hC : ClAt W cb K.kb x y dr) (hK : KAt lo W K) (hpi : Ho.i64 x.pi) (hpj : Ho.i64 x.pj) (r : Ho.Rc) (hT : K.T x.pi = some r) (hk : r.ob.kind = 1) (hl : r.ob.cats.length <= 16)
 (xs : List (Int × Int)) (hw : Pa.LV (y.d, xs) (.agg #[.int .i64 y.d, y.v]) W) (hs : Pa.seesS y.d r.ob.df xs r.ob.cats = true) (hen : ∀ q, K.T x.pi = some q -> q.ob.ents.length < 1000000) (hE : (Ho.entE K.T x.pi x.pj == 0) = false) :
 Calls Tryz.prog 77 #[.pointer (some ⟨cb, 0, none⟩)] W fun e W' => e = .returned (.tuple #[.agg #[.int .i64 0, .string ⟨#[]⟩, .int .i64 0, .slice none 0 0, .int .i64 0, .slice none 0 0, .slice none 0 0, .slice none 0 0], .int .i64 4]) /\ Below W.heap.size W W' := by
 obtain ⟨W0, hW0⟩ : ∃ W0, W.alloc (.cells toldZ 49) = W0 := ⟨_, rfl⟩
 have hb0 : Below W.heap.size W W0 := by rw [<- hW0]; exact (Below.refl _ _).alloc (Nat.le_refl _) _
 have hi2 : W0.heap[W.heap.size]? = some (.cells toldZ 49 (0, 0)) := by rw [<- hW0]; exact heap_alloc_new _ _
 have hz0 : W.heap.size < W0.heap.size := by rw [<- hW0]; simp
 have hC0 := hC.below hb0
 have HTg := Lib.hid (fun fv => segment_none hC0 (hK.below hb0) hpi hpj r hT hk hl xs (hw.below hb0) hs hen hE fv)
 have c21 : W0.cell? ⟨cb, 21, none⟩ = some (.pointer (some ⟨y.B, 0, none⟩)) := hC0.cell 21
 have c22 : W0.cell? ⟨cb, 22, none⟩ = some (.int .i64 y.id) := hC0.cell 22
 have c23 : W0.cell? ⟨cb, 23, none⟩ = some (.int .i64 y.d) := hC0.cell 23
 have c24 : W0.cell? ⟨cb, 24, none⟩ = some y.v := hC0.cell 24
 have HB0 := Lib.hid hb0
 have Hi2 := Lib.hid hi2
 obtain ⟨i2, hi2e⟩ : ∃ i2, W.heap.size = i2 := ⟨_, rfl⟩
 have Hi2e := Lib.hid hi2e
 clear hC hK hw hb0 hi2 hC0 hpi hpj hT hk hl hs hen hE
 unfold toldZ at hW0
 go_enter Tryz.func77, Tryz.ntmps77
 go_upto_region 1 with fail
 rw [hi2e] at hz0 Hi2
 clear hW0 hi2e
 go_wp2_with (go_at_call 139; refine (HTg.out _).mono ?_; rintro e W1 ⟨rfl, hb1⟩; refine Hid.out ?_)
 refine Lib.hid ?_
 have Hb1 := Lib.hid hb1
 clear hb1
 unfold infoZ
 go_upto_region 3 with fail
 have hz1 : i2 < W1.heap.size := Nat.lt_of_lt_of_le hz0 Hb1.out.size
 obtain ⟨W2, hW2⟩ : ∃ W2, W1.alloc (.cells #[.int .i64 0, .int .i64 0, .int .i64 0, .int .i64 0, .int .i64 0, .int .i64 0, .slice none 0 0] 89) = W2 := ⟨_, rfl⟩
 have hb2 : Below W1.heap.size W1 W2 := by rw [<- hW2]; exact (Below.refl _ _).alloc (Nat.le_refl _) _
 have hi22 := (hb2.block i2 hz1).trans ((Hb1.out.block i2 hz0).trans Hi2.out)
 have HB2 := Lib.hid (HB0.out.trans ((Hb1.out.trans (hb2.mono Hb1.out.size)).mono HB0.out.size))
 unfold toldZ at hi22
 obtain ⟨⟨y0, y1, y2, y3, y4, y5, y6, y7⟩, ⟨f0, f1, f2, f3, f4, f5, f6, f7⟩⟩ := told8 hi22
 have Hr8 := Lib.hid (set8 (v0 := .int .i64 0) (v1 := .string ⟨#[]⟩) (v2 := .int .i64 0) (v3 := .slice none 0 0) (v4 := .int .i64 0) (v5 := .slice none 0 0) (v6 := .slice none 0 0) (v7 := .slice none 0 0) hi22)
 have Hbe := Lib.hid (Go.below_setCells (show W.heap.size <= i2 by have := Hi2e.out; omega) [.int .i64 0, .string ⟨#[]⟩, .int .i64 0, .slice none 0 0, .int .i64 0, .slice none 0 0, .slice none 0 0, .slice none 0 0] 0 W2 HB2.out)
 rw [hW2]
 clear hb2 hi22 hz1 hW2 c21 c22 c23 c24
 go_wp2
 refine bodyPost_ret (v := .tuple #[.agg #[.int .i64 0, .string ⟨#[]⟩, .int .i64 0, .slice none 0 0, .int .i64 0, .slice none 0 0, .slice none 0 0, .slice none 0 0], .int .i64 4]) ?_ rfl ⟨rfl, Hbe.out⟩
 exact results_cell_tmp Tryz.results77 _ _ i2 _ _ rfl Hr8.out Tryz.underlying49 rfl infoT
end Go.Proofs.YtmgfakfiiaeofaaGreat
