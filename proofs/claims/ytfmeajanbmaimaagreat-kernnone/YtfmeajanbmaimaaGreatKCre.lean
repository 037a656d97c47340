/- What create of package kern does with a segment. -/
import Derived.Test.YtfmeajanbmaimaaGreatKLink
/- What mayCreate of package kern answers for what is no thread and no gate. -/
namespace Go.Proofs.YtfmeajanbmaimaaGreat
open Go.RowKit Go.Sort
set_option maxRecDepth 100000 in
set_option maxHeartbeats 1000000 in
theorem mayCreate_any {lo cb : Nat} {W : World} {K : Kn} {x : Ask} {y : Who} {dr : Int} (hC : ClAt W cb K.kb x y dr) (hK : KAt lo W K) (hTh : K.fT (Wa.ky y.id) = some y.B) (kd id : Int) (h4 : kd ≠ 4) (h5 : kd ≠ 5) (hid : Ho.i64 id) (r : Ho.Rc) (hT : K.T id = some r) (hk : r.ob.kind = 1) (hl : r.ob.cats.length ≤ 16)
    (xs : List (Int × Int)) (hw : Pa.LV (y.d, xs) (.agg #[.int .i64 y.d, y.v]) W) (hs : Pa.seesS y.d r.ob.df xs r.ob.cats = true) (lx : List (Int × Int)) (hL : Pa.LV (x.ld, lx) (.agg #[.int .i64 x.ld, x.lv]) W) (hf : Pa.freeS x.ld lx = true) :
    Calls Tryz.prog 190 #[.pointer (some ⟨cb, 0, none⟩), .int .i64 kd, .int .i64 id] W fun e W' => e = .returned (.int .i64 (Pa.makeI (y.d, xs) ((K.th y.id).cd, (K.th y.id).xs) (r.ob.df, r.ob.cats) (x.ld, lx))) ∧ Below W.heap.size W W' := by
  have HCo := Lib.hid (container_ok hC hK id hid r hT hk hl xs hw hs)
  have HC := Lib.hid hC
  have HK := Lib.hid hK
  have HW := Lib.hid hw
  have HL := Lib.hid hL
  have hb4 : (kd != 4) = true := by simpa using h4
  have hb5 : (kd != 5) = true := by simpa using h5
  clear hC hK hw hL
  go_enter Tryz.func190, Tryz.ntmps190
  go_wp2_with (go_at_call 133; refine HCo.out.mono ?_; rintro e W1 ⟨v, rfl, hlv1, hb1⟩; refine Hid.out ?_)
  refine Lib.hid ?_
  have hlv0 := hlv1
  obtain ⟨pv1, cv1, hv1, hv2, hv3, hv4⟩ := hlv0
  simp at hv1
  subst hv1
  have HLv := Lib.hid hlv1
  unfold Ho.infoV
  rw [hk]
  have Hk := Lib.hid hk
  clear hk
  obtain ⟨W2, hW2⟩ : ∃ W2, W1.alloc (.cells #[.int .i64 r.ob.id, .int .i64 1, .int .i64 r.ob.quota, .int .i64 r.ob.used, .int .i64 r.ob.links, .int .i64 r.ob.df, .slice pv1 r.ob.cats.length cv1] 44) = W2 := ⟨_, rfl⟩
  have hb2 : Below W1.heap.size W1 W2 := by rw [← hW2]; exact (Below.refl _ _).alloc (Nat.le_refl _) _
  have hi7 : W2.heap[W1.heap.size]? = some (.cells #[.int .i64 r.ob.id, .int .i64 1, .int .i64 r.ob.quota, .int .i64 r.ob.used, .int .i64 r.ob.links, .int .i64 r.ob.df, .slice pv1 r.ob.cats.length cv1] 44 (0, 0)) := by rw [← hW2]; exact heap_alloc_new _ _
  have hz7 : W1.heap.size < W2.heap.size := by rw [← hW2]; simp
  have hb02 : Below W.heap.size W W2 := hb1.trans (hb2.mono hb1.size)
  obtain ⟨i7, hi7e⟩ : ∃ i7, W1.heap.size = i7 := ⟨_, rfl⟩
  have HLv2 := Lib.hid (hlv1.below hb2)
  have HC2 := Lib.hid (HC.out.below hb02)
  have HK2 := Lib.hid (HK.out.below hb02)
  have HW2 := Lib.hid (HW.out.below hb02)
  have hL2 := HL.out.below hb02
  have HL2 := Lib.hid hL2
  have HB2 := Lib.hid hb02
  rw [hi7e] at hi7 hz7
  have c9 : W2.cell? ⟨cb, 9, none⟩ = some (.int .i64 x.ld) := HC2.out.cell 9
  have c10 : W2.cell? ⟨cb, 10, none⟩ = some x.lv := HC2.out.cell 10
  have HFr := Lib.hid (Pa.Free_c hL2)
  clear hb1 hb2 hb02 hL2 hlv1 hv2 hv3 hv4 HCo
  go_upto_region 4 with fail
  clear hW2 hi7e
  go_wp2_with (go_at_call 189; refine HFr.out.mono ?_; rintro e W3 ⟨v', rfl, hb3, rfl⟩; rw [hf]; refine Hid.out ?_)
  refine Lib.hid ?_
  have hb03 : Below W.heap.size W W3 := HB2.out.trans (hb3.mono HB2.out.size)
  obtain ⟨⟨z0, z1, z2, z3, z4, z5, z6⟩, -⟩ := info7 ((hb3.block i7 hz7).trans hi7)
  have d9 : W3.cell? ⟨cb, 9, none⟩ = some (.int .i64 x.ld) := (HC.out.below hb03).cell 9
  have d10 : W3.cell? ⟨cb, 10, none⟩ = some x.lv := (HC.out.below hb03).cell 10
  have HM := Lib.hid (fun n => mayLink_any (W := W3.drewN n) ((HC.out.below hb03).below (drew_below _ W3 n)) ((HK.out.below hb03).below (drew_below _ W3 n)) hTh xs ((HW.out.below hb03).below (drew_below _ W3 n)) r.ob.id 1 r.ob.quota r.ob.used r.ob.links r.ob.df _ r.ob.cats ((HLv2.out.below hb3).below (drew_below _ W3 n)) x.ld _ lx ((HL.out.below hb03).below (drew_below _ W3 n)))
  have HB3 := Lib.hid hb03
  clear hb3 hb03 c9 c10 hi7 hz7
  go_upto_region 7 with fail
  refine Ko.wp_region_tail_d 7 (by kernel_rfl) (by kernel_rfl) ?_
  simp only [List.take_succ_cons, List.take_zero, List.drop_succ_cons, List.drop_zero]
  repeat (go_big_quiet_step (fail))
  refine wpQuiet_nil ?_
  intro _ hw'
  obtain ⟨nz, hw''⟩ := hw'
  subst hw''
  go_wp2_with (go_at_call 134; refine (HM.out _).mono ?_; rintro e W4 ⟨rfl, hb4'⟩)
  go_ret
  exact ⟨rfl, HB3.out.trans (((drew_below _ W3 nz).trans hb4').mono HB3.out.size)⟩
end Go.Proofs.YtfmeajanbmaimaaGreat
namespace Go.Proofs.YtfmeajanbmaimaaGreat
open Go.RowKit Go.Sort
def toldZ : Array Value := #[.int .i64 0, .string ⟨#[]⟩, .int .i64 0, .slice none 0 0, .int .i64 0, .slice none 0 0, .slice none 0 0, .slice none 0 0]
theorem Pg.BAt.below' {W : World} {b B : Nat} {d : List UInt8} {ls : List (Nat × Bool)} (h : Pg.BAt Pg.N0 W b B d ls) (W' : World) (he : W'.heap = W.heap) : Pg.BAt Pg.N0 W' b B d ls := by
  obtain ⟨v, hv, hrow⟩ := h.blk
  refine ⟨⟨v, by rw [he]; exact hv, hrow.1, ?_⟩, fun i x hi => ⟨by rw [he]; exact (h.pgs i x hi).1, (h.pgs i x hi).2⟩, h.dis, h.len, h.cnt, h.bb, ⟨fun _ h => h.elim, fun _ _ h => h, fun _ _ _ _ _ _ _ _ h => h⟩⟩
  rcases hrow.2 with h | ⟨g, cap, cur, e, q1, q2, q3⟩
  · exact .inl h
  · exact .inr ⟨g, cap, cur, e, q1, by rw [he]; exact q2, q3⟩
theorem bat_keep {W W' : World} {b B : Nat} {d : List UInt8} {ls : List (Nat × Bool)} (h : Pg.BAt Pg.N0 W b B d ls) (hk : ∀ k, segF W B ls k → W'.heap[k]? = W.heap[k]?) : Pg.BAt Pg.N0 W' b B d ls := by
  obtain ⟨v, hv, hrow⟩ := h.blk
  refine ⟨⟨v, (hk B (.inl rfl)).trans hv, hrow.1, ?_⟩, fun i x hi => ⟨(hk x.1 (.inr (.inl ⟨x, List.mem_of_getElem? hi, rfl⟩))).trans (h.pgs i x hi).1, (h.pgs i x hi).2⟩, h.dis, h.len, h.cnt, h.bb, ⟨fun _ h => h.elim, fun _ _ h => h, fun _ _ _ _ _ _ _ _ h => h⟩⟩
  rcases hrow.2 with h | ⟨g, cap, cur, e, q1, q2, q3⟩
  · exact .inl h
  · exact .inr ⟨g, cap, cur, e, q1, (hk g (.inr (.inr ⟨_, _, _, ⟨g, 0, none⟩, ls.length, cap, hv, by rw [e]; rfl, rfl⟩))).trans q2, q3⟩
theorem segF_same {W W' : World} {B : Nat} {ls : List (Nat × Bool)} {k : Nat} (hB : W'.heap[B]? = W.heap[B]?) (h : segF W' B ls k) : segF W B ls k := by
  rcases h with h | h | ⟨c, t, f, a, n, cp, h1, h2, h3⟩
  · exact .inl h
  · exact .inr (.inl h)
  · exact .inr (.inr ⟨c, t, f, a, n, cp, hB.symm.trans h1, h2, h3⟩)
set_option maxRecDepth 100000 in
/-- The closure of cell. -/
theorem cell1_any {lo cb p1 p4 : Nat} {W : World} {K : Kn} {x : Ask} {y : Who} {dr : Int} (hC : ClAt W cb K.kb x y dr) (hK : KAt lo W K) (h1 : W.cell? ⟨p1, 0, none⟩ = some (.pointer (some ⟨cb, 0, none⟩))) (B : Nat) (h4 : W.cell? ⟨p4, 0, none⟩ = some (.pointer (some ⟨B, 0, none⟩))) (id : Int) (hid : Wa.i64 id) (hno : K.fS (Wa.ky id) = none) (hn : K.nS < 1000000)
    (b : Nat) (hlo : lo ≤ b) (d : List UInt8) (ls : List (Nat × Bool)) (hB : Pg.BAt Pg.N0 W b B d ls) (hf : ∀ k, segF W B ls k → K.own k = none ∧ lo ≤ k ∧ k < W.heap.size) :
    Calls Tryz.prog 128 #[.int .i64 id, .pointer (some ⟨p4, 0, none⟩), .pointer (some ⟨p1, 0, none⟩)] W fun e W' => e = .returned (.tuple #[]) ∧ KAt lo W' { K with nS := K.nS + 1, fS := Wa.updF K.fS (Wa.ky id) (some B), sd := fun i => if i = id then d else K.sd i, own := ownA (segF W B ls) (.sg id) K.own } ∧ Below lo W W' ∧ ∀ k, k < W.heap.size → k ≠ K.ms → W'.heap[k]? = W.heap[k]? := by
  have c0 : W.cell? ⟨cb, 0, none⟩ = some (.pointer (some ⟨K.kb, 0, none⟩)) := hC.cell 0
  have k2 : W.cell? ⟨K.kb, 2, none⟩ = some (.map (some K.ms)) := hK.cell 2
  have HK := Lib.hid hK
  have HF := Lib.hid hf
  have HB := Lib.hid hB
  have Hlo := Lib.hid hlo
  clear hC hK hf hB hlo
  go_enter Tryz.func128, Tryz.ntmps128
  go_upto_region 0 with fail
  refine Ko.wp_region_tail_d 9 (by kernel_rfl) (by kernel_rfl) ?_
  simp only [List.take_succ_cons, List.take_zero, List.drop_succ_cons, List.drop_zero]
  repeat (go_big_quiet_step (fail))
  refine wpQuiet_nil ?_
  intro _ hw'
  obtain ⟨nz, hw''⟩ := hw'
  subst hw''
  have hKn := HK.out.below (drew_below _ W nz)
  obtain ⟨X', hrun, hM', hgr, hsz⟩ := hKn.mS.put (T := 90) (e := 87) keyedI (by kernel_rfl) hn (Wa.keyI hid) B
  rw [hno] at hM'
  have hK' := hKn.newSeg (id := id) (b := b) (d := d) (ls := ls) (n' := K.nS + 1) (by simpa using hM') hgr hno Hlo.out (Pg.BAt.below' HB.out (W.drewN nz) rfl) HF.out
  have hlo' : lo ≤ K.ms := (HK.out.lt K.ms (by rw [HK.out.oS]; simp)).1
  have hb' : Below lo W X' := (drew_below lo W nz).trans ((Wa.Fm.of_grown hgr).below (Nat.le_of_lt (Nat.lt_of_le_of_lt hlo' (HK.out.lt K.ms (by rw [HK.out.oS]; simp)).2)) (fun k hk e => by omega))
  have HK' := Lib.hid hK'
  have HOt : Hid (∀ k, k < W.heap.size → k ≠ K.ms → X'.heap[k]? = W.heap[k]?) := Lib.hid (fun k h1 h2 => hgr.block k h1 (fun e => h2 (Option.some.inj e)))
  have HB' := Lib.hid hb'
  clear hM' hgr hsz hK' hb' hKn
  go_wp2
  exact bodyPost_end (v := .tuple #[]) (by simp [results, Tryz.results128]) rfl ⟨rfl, HK'.out, HB'.out, HOt.out⟩
end Go.Proofs.YtfmeajanbmaimaaGreat
