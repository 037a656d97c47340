/- What target of package kern answers. -/
import Derived.Test.YtfmeajanbmaimaaGreatKBegin
namespace Go.Proofs.YtfmeajanbmaimaaGreat
open Go.RowKit Go.Sort
set_option maxRecDepth 100000 in
set_option maxHeartbeats 2000000 in
theorem target_none {lo cb : Nat} {W : World} {K : Kn} {x : Ask} {y : Who} {dr : Int} (hC : ClAt W cb K.kb x y dr) (hK : KAt lo W K) (pi pj kd : Int) (hpi : Ho.i64 pi) (hpj : Ho.i64 pj) (r : Ho.Rc) (hT : K.T pi = some r) (hk : r.ob.kind = 1) (hl : r.ob.cats.length ≤ 16)
    (xs : List (Int × Int)) (hw : Pa.LV (y.d, xs) (.agg #[.int .i64 y.d, y.v]) W) (hs : Pa.seesS y.d r.ob.df xs r.ob.cats = true) (hen : ∀ q, K.T pi = some q → q.ob.ents.length < 1000000) (hE : (Ho.entE K.T pi pj == 0) = false) (fv : Value) :
    Calls Tryz.prog 86 #[.pointer (some ⟨cb, 0, none⟩), .agg #[.int .i64 pi, .int .i64 pj], .int .i64 kd, fv] W fun e W' => e = .returned (.tuple #[infoZ, .int .i64 4]) ∧ Below W.heap.size W W' := by
  obtain ⟨W0, hW0⟩ : ∃ W0, (W.alloc (.cells #[.int .i64 pi, .int .i64 pj] 23)).alloc (.cells #[.int .i64 0, .int .i64 0, .int .i64 0, .int .i64 0, .int .i64 0, .int .i64 0, .slice none 0 0] 44) = W0 := ⟨_, rfl⟩
  have hb0 : Below W.heap.size W W0 := by rw [← hW0]; go_grown
  have hi5 : W0.heap[W.heap.size]? = some (.cells #[.int .i64 pi, .int .i64 pj] 23 (0, 0)) := by rw [← hW0]; rw [Below.heap_alloc _ _ _ (by simp)]; exact heap_alloc_new _ _
  have hi8 : W0.heap[W.heap.size + 1]? = some (.cells #[.int .i64 0, .int .i64 0, .int .i64 0, .int .i64 0, .int .i64 0, .int .i64 0, .slice none 0 0] 44 (0, 0)) := by rw [← hW0]; have := heap_alloc_new (W.alloc (.cells #[.int .i64 pi, .int .i64 pj] 23)) (.cells #[.int .i64 0, .int .i64 0, .int .i64 0, .int .i64 0, .int .i64 0, .int .i64 0, .slice none 0 0] 44); rwa [show (W.alloc (.cells #[.int .i64 pi, .int .i64 pj] 23)).heap.size = W.heap.size + 1 from by simp] at this
  have hz0 : W.heap.size + 1 < W0.heap.size := by rw [← hW0]; simp
  have q0 : W0.cell? ⟨W.heap.size, 0, none⟩ = some (.int .i64 pi) := by simp [World.cell?, hi5]
  have q1 : W0.cell? ⟨W.heap.size, 1, none⟩ = some (.int .i64 pj) := by simp [World.cell?, hi5]
  have HK := Lib.hid hK
  have HC := Lib.hid hC
  have HCo := Lib.hid (container_ok (hC.below hb0) (hK.below hb0) pi hpi r hT hk hl xs (hw.below hb0) hs)
  have HB0 := Lib.hid hb0
  have Hi5 := Lib.hid hi5
  have Hi8 := Lib.hid hi8
  obtain ⟨i5, hi5e⟩ : ∃ i5, W.heap.size = i5 := ⟨_, rfl⟩
  have Hi5e := Lib.hid hi5e
  clear hC hb0 hi5 hi8 hw hK
  go_enter Tryz.func86, Tryz.ntmps86
  go_upto_region 1 with fail
  rw [hi5e] at hz0 q0 q1 Hi5 Hi8
  clear hW0 hi5e
  go_wp2_with (go_at_call 133; refine HCo.out.mono ?_; rintro e W1 ⟨v, rfl, ⟨p1, cp1, hv1, -⟩, hb1⟩; simp at hv1; subst hv1; refine Hid.out ?_)
  refine Lib.hid ?_
  unfold Ho.infoV
  rw [hk]
  clear hk
  obtain ⟨i8, hi8e⟩ : ∃ i8, i5 + 1 = i8 := ⟨_, rfl⟩
  have h58 : i5 < i8 := by omega
  have Hi8e := Lib.hid hi8e
  rw [hi8e] at hz0 Hi8 ⊢
  clear hi8e
  obtain ⟨W2, hW2⟩ : ∃ W2, W1.alloc (.cells #[.int .i64 r.ob.id, .int .i64 1, .int .i64 r.ob.quota, .int .i64 r.ob.used, .int .i64 r.ob.links, .int .i64 r.ob.df, .slice p1 r.ob.cats.length cp1] 44) = W2 := ⟨_, rfl⟩
  have hb2 : Below W1.heap.size W1 W2 := by rw [← hW2]; exact (Below.refl _ _).alloc (Nat.le_refl _) _
  have hz1 : i8 < W1.heap.size := Nat.lt_of_lt_of_le hz0 hb1.size
  have hz2 : i8 < W2.heap.size := Nat.lt_of_lt_of_le hz1 hb2.size
  have hb02 : Below W.heap.size W W2 := by
    have h5 := Hi5e.out
    exact (HB0.out.trans (hb1.mono (by omega))).trans (hb2.mono (by omega))
  have e5 : W2.heap[i5]? = W0.heap[i5]? := (hb2.block i5 (by omega)).trans (hb1.block i5 (by omega))
  have e8 : W2.heap[i8]? = W0.heap[i8]? := (hb2.block i8 (by omega)).trans (hb1.block i8 (by omega))
  have Hi8W := Lib.hid (e8.trans Hi8.out)
  have p0 : W2.cell? ⟨i5, 0, none⟩ = some (.int .i64 pi) := (World.cell?_of_block (a := ⟨i5, 0, none⟩) e5).trans q0
  have p1 : W2.cell? ⟨i5, 1, none⟩ = some (.int .i64 pj) := (World.cell?_of_block (a := ⟨i5, 1, none⟩) e5).trans q1
  have hC2 := HC.out.below hb02
  have hK2 := HK.out.below hb02
  have c0 : W2.cell? ⟨cb, 0, none⟩ = some (.pointer (some ⟨K.kb, 0, none⟩)) := hC2.cell 0
  have k0 : W2.cell? ⟨K.kb, 0, none⟩ = some (.pointer (some ⟨K.tb, 0, none⟩)) := hK2.cell 0
  have HC2 := Lib.hid hC2
  have HK2 := Lib.hid hK2
  have HB2 := Lib.hid hb02
  have HH : Hid (∀ n, Calls Tryz.prog 156 #[.pointer (some ⟨K.tb, 0, none⟩), .int .i64 pi, .int .i64 pj] (W2.drewN n) fun e W' => e = .returned (.bool false) ∧ W' = W2.drewN n) := Lib.hid (fun n => by
    have := Ho.Has_any ((HK2.out.below (drew_below _ W2 n)).tab) pi pj hpi hpj hen
    rw [hE] at this
    exact this)
  clear hb1 hb2 hb02 e5 e8 q0 q1 hC2 hK2 HCo Hi8 Hi5
  go_upto_region 2 with fail
  clear hW2
  refine Ko.wp_region_tail_d 14 (by kernel_rfl) (by kernel_rfl) ?_
  simp only [List.take_succ_cons, List.take_zero, List.drop_succ_cons, List.drop_zero]
  repeat (go_big_quiet_step (fail))
  refine wpQuiet_nil ?_
  intro _ hw'
  obtain ⟨nz, hw''⟩ := hw'
  subst hw''
  go_wp2_with (go_at_call 156; refine (HH.out _).mono ?_; rintro e W3 ⟨rfl, rfl⟩; refine Hid.out ?_)
  refine Lib.hid ?_
  obtain ⟨W3, hW3⟩ : ∃ W3, W2.drewN nz = W3 := ⟨_, rfl⟩
  have hb3 : Below W2.heap.size W2 W3 := by rw [← hW3]; exact drew_below _ _ _
  rw [hW3]
  have Hi8X := Lib.hid ((show W3.heap[i8]? = W2.heap[i8]? from by rw [← hW3]; rfl).trans Hi8W.out)
  have HB3 := Lib.hid (HB2.out.trans (hb3.mono HB2.out.size))
  obtain ⟨⟨y0, y1, y2, y3, y4, y5, y6⟩, ⟨f0, f1, f2, f3, f4, f5, f6⟩⟩ := info7 Hi8X.out
  clear hW3 hb3 HH HC2 HK2 HB2 Hi8W p0 p1 c0 k0
  go_wp2
  have hr7 := set7 (v0 := .int .i64 0) (v1 := .int .i64 0) (v2 := .int .i64 0) (v3 := .int .i64 0) (v4 := .int .i64 0) (v5 := .int .i64 0) (v6 := .slice none 0 0) Hi8X.out
  have hbe := Go.below_setCells (show W.heap.size ≤ i8 by have := Hi5e.out; have := Hi8e.out; omega) [.int .i64 0, .int .i64 0, .int .i64 0, .int .i64 0, .int .i64 0, .int .i64 0, .slice none 0 0] 0 W3 HB3.out
  refine bodyPost_ret (v := .tuple #[infoZ, .int .i64 4]) ?_ rfl ⟨rfl, hbe⟩
  exact results_cell_tmp Tryz.results86 _ _ i8 _ _ rfl hr7 Tryz.underlying44 rfl infoI
end Go.Proofs.YtfmeajanbmaimaaGreat
