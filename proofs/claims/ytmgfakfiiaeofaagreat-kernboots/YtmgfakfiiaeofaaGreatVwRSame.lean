/- What Same of layer 9's reference answers, for every two objects. -/
import Derived.Test.YtmgfakfiiaeofaaGreatVwOb
import Derived.Test.YtmgfakfiiaeofaaGreatVwRTail
import Derived.Lib.Hide
/- What Low and Owner of package view answer, for every label and every object. -/
namespace Go.Proofs.YtmgfakfiiaeofaaGreat.Vw
open Go.RowKit Go.Sort Go.Shelf
attribute [local go_sem] Oper.semAt_some

theorem heap_cells {w : World} {b : Nat} {cs : Array Value} {t : TypeId} {fr : Nat × Nat} (h : w.heap[b]? = some (.cells cs t fr)) {f : Nat} {u : Value} (hu : cs[f]? = some u) : w.cell? ⟨b, f, none⟩ = some u := by
 rw [cell_of_row w b f cs t fr h]; exact hu
end Go.Proofs.YtmgfakfiiaeofaaGreat.Vw
namespace Go.Proofs.YtmgfakfiiaeofaaGreat.Vw
open Go.RowKit Go.Sort

theorem wpList_load_atW2 {P : Program} {ops : Array Oper} {rest : List Oper} {o : Oper} {a : Act} {w : World} {Q : Exit -> Act -> World -> Prop} (hw : Region.wanted o (yielded ops a.tmps) = true) (ty : TypeId) (x : Operand) (ho : o.op = .load ty x)
 (p : Addr) (hx : a.eval x = .pointer (some p)) (v : Value) (hl : (loadVar ty p).run P w = .ok v w) (h : wpList P ops Q rest (a.put o.dst v) w) : wpList P ops Q (o :: rest) a w :=
 Go.BigFrame.wpList_want hw fun _ hK => wp_load_at ty x ho p hx v hl (hK _ _ h)
theorem infoSt : (Tryz.prog.info? 68).map (·.size) = some 17 := by kernel_rfl
theorem stA_size {a : List Int} (h : a.length = 17) : (stA a).size = 17 := by simp [stA, h]
theorem load_st {w : World} {b off : Nat} {o : Ob} (h : ObAt w b off o) (hs : o.st.length = 17) : (loadVar 68 ⟨b, off + 14, none⟩).run Tryz.prog w = .ok (.agg (stA o.st)) w := by
 refine run_load_at w b (off + 14) _ (stA o.st) _ (fun f u hu => ?_) Tryz.underlying68 rfl (by rw [stA_size hs]; exact infoSt)
 have hf : f < 17 := by have := (Array.getElem?_eq_some_iff.1 hu).1; rwa [stA_size hs] at this
 have := h (14 + f) (.int .u64 (o.st[f]'(by omega))) (Ob.mid o hs f hf)
 rw [Nat.add_assoc, this]
 simp only [stA, List.getElem?_toArray, List.getElem?_map, List.getElem?_eq_getElem (show f < o.st.length by omega), Option.map_some] at hu
 exact hu
theorem wpList_runW {P : Program} {ops : Array Oper} {rest : List Oper} {o : Oper} {a : Act} {w : World} {Q : Exit -> Act -> World -> Prop} (hw : Region.wanted o (yielded ops a.tmps) = true) (v : Value)
 (hrun : (execOp a.eval o).run P w = .ok (.value v) w) (h : wpList P ops Q rest (a.put o.dst v) w) : wpList P ops Q (o :: rest) a w :=
 Go.BigFrame.wpList_want hw fun K hK => by
  unfold Oper.wp
  rw [hrun, Oper.upon_value]
  exact hK _ _ h
def stB (a b : List Int) : Bool := u16 (a.take 16) (b.take 16) && (a.getD 16 0 == b.getD 16 0)
theorem eq_st {a b : List Int} (ha : a.length = 17) (hb : b.length = 17) (w : World) : (Op.equalIn 10000 68 (.agg (stA a)) (.agg (stA b))).run Tryz.prog w = .ok (stB a b) w := by
 rw [run_equalIn_struct w 9999 68 _ _ (by unfold Program.fieldsOf; rw [Tryz.underlying68]) (by kernel_rfl)]
 unfold Program.fieldsOf
 rw [Tryz.underlying68]
 have h1 := eq_stA ha hb w
 have h2 := pc_stA ha
 have h3 := pc_stA hb
 generalize stA a = sa at *
 generalize stA b = sb at *
 unfold stB
 cases hq : u16 (a.take 16) (b.take 16) with
 | true =>
  rw [hq] at h1
  generalize a.getD 16 0 = x at *
  generalize b.getD 16 0 = y at *
  by_cases hp : x = y <;> simp [go_sem, Op.eqFields, h1, h2, h3, hp]
 | false =>
  rw [hq] at h1
  simp [go_sem, Op.eqFields, h1]
theorem neq_run {ρ : Operand -> Value} {o : Oper} {t : TypeId} {x y : Operand} (ho : o.op = .binOp .neq t x y t) {u v : Array Value} (hx : ρ x = .agg u) (hy : ρ y = .agg v) {b : Bool} {w : World} (hg : Tryz.prog.eqGuardType Tryz.prog.depth t = false) (he : (Op.equalIn 10000 t (.agg u) (.agg v)).run Tryz.prog w = .ok b w) : (execOp ρ o).run Tryz.prog w = .ok (.value (.bool (!b))) w := by
 unfold execOp
 simp only [ho, hx, hy]
 simp [go_sem, hg, he]
def refB (a b c d : Int) : Bool := (a == c) && (b == d)
theorem eq_ref (a b c d : Int) (W : World) : (Op.equalIn 10000 43 (.agg #[.int .i64 a, .int .i64 b]) (.agg #[.int .i64 c, .int .i64 d])).run Tryz.prog W = .ok (refB a b c d) W := by
 rw [run_equalIn_struct W 9999 43 _ _ (by unfold Program.fieldsOf; rw [Tryz.underlying43]) (by kernel_rfl)]
 unfold Program.fieldsOf
 rw [Tryz.underlying43]
 by_cases h0 : a = c
 · by_cases h1 : b = d
   · simp [go_sem, Op.eqFields, refB, h0, h1]
   · simp [go_sem, Op.eqFields, refB, h0, h1]
 · simp [go_sem, Op.eqFields, refB, h0]
section
variable {ρ : Operand -> Value} {o : Oper} {t : TypeId} {x y : Operand} {u v : Array Value} {w : World}
theorem neq_t (ho : o.op = .binOp .neq t x y t) (hx : ρ x = .agg u) (hy : ρ y = .agg v) (hg : Tryz.prog.eqGuardType Tryz.prog.depth t = false) (he : (Op.equalIn 10000 t (.agg u) (.agg v)).run Tryz.prog w = .ok true w) : (execOp ρ o).run Tryz.prog w = .ok (.value (.bool false)) w := neq_run ho hx hy hg he
theorem neq_f (ho : o.op = .binOp .neq t x y t) (hx : ρ x = .agg u) (hy : ρ y = .agg v) (hg : Tryz.prog.eqGuardType Tryz.prog.depth t = false) (he : (Op.equalIn 10000 t (.agg u) (.agg v)).run Tryz.prog w = .ok false w) : (execOp ρ o).run Tryz.prog w = .ok (.value (.bool true)) w := neq_run ho hx hy hg he
end
noncomputable def obB (a b : Ob) : Bool := infB a b && ((a.ls == b.ls) && ((a.bytes.toList == b.bytes.toList) && (eqP a.ms b.ms && (sameS a.C.d b.C.d a.C.xs b.C.xs && (refB a.sin a.sid b.sin b.sid && (stB a.st b.st && ((a.entry == b.entry) && ((a.does == b.does) && ((a.seg == b.seg) && ((a.off == b.off) && ((a.al == b.al) && ((a.heard.toList == b.heard.toList) && (a.out.toList == b.out.toList)))))))))))))
structure B2 (ca cb : Array Value) (N : Nat) (W0 X : World) : Prop where
 bel : Below W0.heap.size W0 X
 a : ∀ f u, ca[f]? = some u -> X.cell? ⟨N, f, none⟩ = some u
 b : ∀ f u, cb[f]? = some u -> X.cell? ⟨N + 1, f, none⟩ = some u
theorem B2.next {ca cb : Array Value} {N : Nat} {W0 X Y : World} (h : B2 ca cb N W0 X) (hN : N + 1 < W0.heap.size) (hb : Below X.heap.size X Y) : B2 ca cb N W0 Y := by
 have hz := h.bel.size
 exact ⟨h.bel.trans (hb.mono hz), fun f u hu => (hb.cell (p := ⟨N, f, none⟩) (by simp; omega)).trans (h.a f u hu), fun f u hu => (hb.cell (p := ⟨N + 1, f, none⟩) (by simp; omega)).trans (h.b f u hu)⟩
set_option maxRecDepth 100000 in
set_option maxHeartbeats 8000000 in
theorem RSame_any (a b : Ob) (w : World) (ha : ObOk w a) (hb : ObOk w b) :
 Calls Tryz.prog 27 #[.agg a.cs, .agg b.cs] w fun e w' => e = .returned (.bool (obB a b)) /\ Below w.heap.size w w' := by
 have hsa := ha.st
 have hsb := hb.st
 obtain ⟨ca, hca⟩ : ∃ c, a.cs = c := ⟨_, rfl⟩
 obtain ⟨cb, hcb⟩ : ∃ c, b.cs = c := ⟨_, rfl⟩
 obtain ⟨W0, hW0⟩ : ∃ W, (w.alloc (.cells ca 91)).alloc (.cells cb 91) = W := ⟨_, rfl⟩
 have hB0 : Below w.heap.size w W0 := by rw [<- hW0]; go_grown
 have hz : W0.heap.size = w.heap.size + 2 := by rw [<- hW0]; simp
 have hn1 : w.heap.size + 1 < W0.heap.size := by omega
 have hH0 : W0.heap[w.heap.size]? = some (.cells ca 91 (0, 0)) := by rw [<- hW0, heap_alloc_old _ _ (by simp)]; exact heap_alloc_new _ _
 have hH1 : W0.heap[w.heap.size + 1]? = some (.cells cb 91 (0, 0)) := by rw [<- hW0]; simpa using heap_alloc_new (w.alloc (.cells ca 91)) (.cells cb 91)
 have hX0 : B2 ca cb w.heap.size W0 W0 := ⟨Below.refl _ _, fun f u hu => heap_cells hH0 hu, fun f u hu => heap_cells hH1 hu⟩
 have HN : Hid (∀ X Y, B2 ca cb w.heap.size W0 X -> Below X.heap.size X Y -> B2 ca cb w.heap.size W0 Y) := Lib.hid (fun X Y h hb => h.next hn1 hb)
 have HZ : Hid (∀ X, B2 ca cb w.heap.size W0 X -> w.heap.size + 1 < X.heap.size) := Lib.hid (fun X h => by have := h.bel.size; omega)
 have HOK : Hid (∀ X, B2 ca cb w.heap.size W0 X -> ObOk X a /\ ObOk X b) := Lib.hid (fun X h => ⟨(ha.below hB0).below h.bel, (hb.below hB0).below h.bel⟩)
 have HBe : Hid (∀ X, B2 ca cb w.heap.size W0 X -> Below w.heap.size w X) := Lib.hid (fun X h => hB0.trans (h.bel.mono hB0.size))
 have HKa : Hid (∀ i (hi : i < 14) u, a.hd[i]? = some u -> ca[i]? = some u) := Lib.hid (fun i hi u hu => by rw [<- hca, Ob.head _ _ hi]; exact hu)
 have HKb : Hid (∀ i (hi : i < 14) u, b.hd[i]? = some u -> cb[i]? = some u) := Lib.hid (fun i hi u hu => by rw [<- hcb, Ob.head _ _ hi]; exact hu)
 have HTa : Hid (∀ i u, a.tl[i]? = some u -> ca[31 + i]? = some u) := Lib.hid (fun i u hu => by rw [<- hca, Ob.tail _ hsa]; exact hu)
 have HTb : Hid (∀ i u, b.tl[i]? = some u -> cb[31 + i]? = some u) := Lib.hid (fun i u hu => by rw [<- hcb, Ob.tail _ hsb]; exact hu)
 have HLa : Hid (∀ X, B2 ca cb w.heap.size W0 X -> (loadVar 68 ⟨w.heap.size, 14, none⟩).run Tryz.prog X = .ok (.agg (stA a.st)) X) := Lib.hid (fun X h => by
  have := load_st (w := X) (b := w.heap.size) (off := 0) (o := a) (fun f u hu => by rw [Nat.zero_add]; exact h.a f u (by rw [<- hca]; exact hu)) hsa
  simpa using this)
 have HLb : Hid (∀ X, B2 ca cb w.heap.size W0 X -> (loadVar 68 ⟨w.heap.size + 1, 14, none⟩).run Tryz.prog X = .ok (.agg (stA b.st)) X) := Lib.hid (fun X h => by
  have := load_st (w := X) (b := w.heap.size + 1) (off := 0) (o := b) (fun f u hu => by rw [Nat.zero_add]; exact h.b f u (by rw [<- hcb]; exact hu)) hsb
  simpa using this)
 have HF : Hid (obB a b = (infB a b && ((a.ls == b.ls) && ((a.bytes.toList == b.bytes.toList) && (eqP a.ms b.ms && (sameS a.C.d b.C.d a.C.xs b.C.xs && (refB a.sin a.sid b.sin b.sid && (stB a.st b.st && ((a.entry == b.entry) && ((a.does == b.does) && ((a.seg == b.seg) && ((a.off == b.off) && ((a.al == b.al) && ((a.heard.toList == b.heard.toList) && (a.out.toList == b.out.toList))))))))))))))) := Lib.hid rfl
 obtain ⟨r, hr⟩ : ∃ r, obB a b = r := ⟨_, rfl⟩
 rw [hr] at HF
 rw [hca, hcb, hr]
 have HSt := Lib.hid (fun X => eq_st hsa hsb X)
 have HRf := Lib.hid (fun X => eq_ref a.sin a.sid b.sin b.sid X)
 obtain ⟨sa, hsa'⟩ : ∃ s, stA a.st = s := ⟨_, rfl⟩
 obtain ⟨sb, hsb'⟩ : ∃ s, stA b.st = s := ⟨_, rfl⟩
 rw [hsa'] at HSt HLa
 rw [hsb'] at HSt HLb
 have HSI := Lib.hid (fun X (hX : B2 ca cb w.heap.size W0 X) => SameInfo_any a b X (HOK.out X hX).1.Lm (HOK.out X hX).2.Lm (HOK.out X hX).1.L (HOK.out X hX).2.L)
 have HSl := Lib.hid (fun X (hX : B2 ca cb w.heap.size W0 X) => SameInts_any X a.lp b.lp a.lc b.lc a.ls b.ls (HOK.out X hX).1.ls (HOK.out X hX).2.ls (HOK.out X hX).1.lm)
 have HSm := Lib.hid (fun X (hX : B2 ca cb w.heap.size W0 X) => MSame_any a.mp b.mp a.mc b.mc a.ms b.ms X (HOK.out X hX).1.mm (HOK.out X hX).1.ms (HOK.out X hX).2.ms)
 have HSc := Lib.hid (fun X (hX : B2 ca cb w.heap.size W0 X) => Same_any a.C.d b.C.d a.C.p b.C.p a.C.cap b.C.cap a.C.xs b.C.xs X (HOK.out X hX).1.Cm (HOK.out X hX).2.Cm (HOK.out X hX).1.C (HOK.out X hX).2.C)
 have HSa := Lib.hid (fun X (hX : B2 ca cb w.heap.size W0 X) => SameInts_any X a.ap b.ap a.ac b.ac a.al b.al (HOK.out X hX).1.al (HOK.out X hX).2.al (HOK.out X hX).1.am)
 unfold infV at HSI
 clear hca hcb hH0 hH1 hsa hsb hsa' hsb' hr hz ha hb hB0
 have gR : Tryz.prog.eqGuardType Tryz.prog.depth 43 = false := by kernel_rfl
 have gS : Tryz.prog.eqGuardType Tryz.prog.depth 68 = false := by kernel_rfl
 go_enter Tryz.func27, Tryz.ntmps27
 have hl := HZ.out _ hX0
 have hm : w.heap.size < W0.heap.size := by omega
 have c0 : W0.cell? ⟨w.heap.size, 0, none⟩ = some (.int .i64 a.id) := hX0.a 0 _ (HKa.out 0 (by decide) _ rfl)
 have d0 : W0.cell? ⟨w.heap.size + 1, 0, none⟩ = some (.int .i64 b.id) := hX0.b 0 _ (HKb.out 0 (by decide) _ rfl)
 have c1 : W0.cell? ⟨w.heap.size, 1, none⟩ = some (.int .i64 a.kind) := hX0.a 1 _ (HKa.out 1 (by decide) _ rfl)
 have d1 : W0.cell? ⟨w.heap.size + 1, 1, none⟩ = some (.int .i64 b.kind) := hX0.b 1 _ (HKb.out 1 (by decide) _ rfl)
 have c2 : W0.cell? ⟨w.heap.size, 2, none⟩ = some (.int .i64 a.quota) := hX0.a 2 _ (HKa.out 2 (by decide) _ rfl)
 have d2 : W0.cell? ⟨w.heap.size + 1, 2, none⟩ = some (.int .i64 b.quota) := hX0.b 2 _ (HKb.out 2 (by decide) _ rfl)
 have c3 : W0.cell? ⟨w.heap.size, 3, none⟩ = some (.int .i64 a.used) := hX0.a 3 _ (HKa.out 3 (by decide) _ rfl)
 have d3 : W0.cell? ⟨w.heap.size + 1, 3, none⟩ = some (.int .i64 b.used) := hX0.b 3 _ (HKb.out 3 (by decide) _ rfl)
 have c4 : W0.cell? ⟨w.heap.size, 4, none⟩ = some (.int .i64 a.links) := hX0.a 4 _ (HKa.out 4 (by decide) _ rfl)
 have d4 : W0.cell? ⟨w.heap.size + 1, 4, none⟩ = some (.int .i64 b.links) := hX0.b 4 _ (HKb.out 4 (by decide) _ rfl)
 have c5 : W0.cell? ⟨w.heap.size, 5, none⟩ = some (.int .i64 a.L.d) := hX0.a 5 _ (HKa.out 5 (by decide) _ rfl)
 have d5 : W0.cell? ⟨w.heap.size + 1, 5, none⟩ = some (.int .i64 b.L.d) := hX0.b 5 _ (HKb.out 5 (by decide) _ rfl)
 have c6 : W0.cell? ⟨w.heap.size, 6, none⟩ = some (.slice a.L.p a.L.xs.length a.L.cap) := hX0.a 6 _ (HKa.out 6 (by decide) _ rfl)
 have d6 : W0.cell? ⟨w.heap.size + 1, 6, none⟩ = some (.slice b.L.p b.L.xs.length b.L.cap) := hX0.b 6 _ (HKb.out 6 (by decide) _ rfl)
 have HC := Lib.hid (HSI.out _ hX0)
 cases hq0 : (infB a b) with
 | false =>
  rw [hq0] at HC
  have HNo := Lib.hid hq0
  have HR : Hid (r = false) := Lib.hid (by rw [HF.out, HNo.out]; simp)
  clear hq0
  go_wp2_with (go_at_call 60; refine HC.out.mono ?_; rintro e w1 ⟨rfl, hb⟩)
  go_ret
  exact ⟨ret_bool HR.out.symm, HBe.out _ (HN.out _ _ hX0 hb)⟩
 | true =>
  rw [hq0] at HC
  have HE0 := Lib.hid hq0
  clear hq0
  go_wp2_with (go_at_call 60; refine HC.out.mono ?_; rintro e w1 ⟨rfl, hb⟩; refine Hid.out ?_)
  refine Lib.hid ?_
  have hX1 := HN.out _ _ hX0 hb
  clear HC hb hl hm
  clear c0 d0 c1 d1 c2 d2 c3 d3 c4 d4 c5 d5 c6 d6
  have hl := HZ.out _ hX1
  have hm : w.heap.size < w1.heap.size := by omega
  have c7 : w1.cell? ⟨w.heap.size, 7, none⟩ = some (.slice a.lp a.ls.length a.lc) := hX1.a 7 _ (HKa.out 7 (by decide) _ rfl)
  have d7 : w1.cell? ⟨w.heap.size + 1, 7, none⟩ = some (.slice b.lp b.ls.length b.lc) := hX1.b 7 _ (HKb.out 7 (by decide) _ rfl)
  have HC := Lib.hid (HSl.out _ hX1)
  cases hq1 : (a.ls == b.ls) with
  | false =>
   rw [hq1] at HC
   have HNo := Lib.hid hq1
   have HR : Hid (r = false) := Lib.hid (by rw [HF.out, HE0.out, HNo.out]; simp)
   clear hq1
   go_wp2_with (go_at_call 22; refine HC.out.mono ?_; rintro e w2 ⟨rfl, hb⟩)
   go_ret
   exact ⟨ret_bool HR.out.symm, HBe.out _ (HN.out _ _ hX1 hb)⟩
  | true =>
   rw [hq1] at HC
   have HE1 := Lib.hid hq1
   clear hq1
   go_wp2_with (go_at_call 22; refine HC.out.mono ?_; rintro e w2 ⟨rfl, hb⟩; refine Hid.out ?_)
   refine Lib.hid ?_
   have hX2 := HN.out _ _ hX1 hb
   clear HC hb hl hm
   clear c7 d7
   have hl := HZ.out _ hX2
   have hm : w.heap.size < w2.heap.size := by omega
   have c8 : w2.cell? ⟨w.heap.size, 8, none⟩ = some (.string a.bytes) := hX2.a 8 _ (HKa.out 8 (by decide) _ rfl)
   have d8 : w2.cell? ⟨w.heap.size + 1, 8, none⟩ = some (.string b.bytes) := hX2.b 8 _ (HKb.out 8 (by decide) _ rfl)
   have c9 : w2.cell? ⟨w.heap.size, 9, none⟩ = some (.slice a.mp a.ms.length a.mc) := hX2.a 9 _ (HKa.out 9 (by decide) _ rfl)
   have d9 : w2.cell? ⟨w.heap.size + 1, 9, none⟩ = some (.slice b.mp b.ms.length b.mc) := hX2.b 9 _ (HKb.out 9 (by decide) _ rfl)
   cases hq2 : (a.bytes.toList == b.bytes.toList) with
   | false =>
    have HNo := Lib.hid hq2
    have HR : Hid (r = false) := Lib.hid (by rw [HF.out, HE0.out, HE1.out, HNo.out]; simp)
    go_wp2_with fail
    go_ret
    exact ⟨ret_bool HR.out.symm, HBe.out _ hX2⟩
   | true =>
    have HE2 := Lib.hid hq2
    have HC := Lib.hid (HSm.out _ hX2)
    cases hq3 : (eqP a.ms b.ms) with
    | false =>
     rw [hq3] at HC
     have HNo := Lib.hid hq3
     have HR : Hid (r = false) := Lib.hid (by rw [HF.out, HE0.out, HE1.out, HE2.out, HNo.out]; simp)
     clear hq3
     go_wp2_with (go_at_call 61; refine HC.out.mono ?_; rintro e w3 ⟨rfl, hb⟩)
     go_ret
     exact ⟨ret_bool HR.out.symm, HBe.out _ (HN.out _ _ hX2 hb)⟩
    | true =>
     rw [hq3] at HC
     have HE3 := Lib.hid hq3
     clear hq3
     go_wp2_with (go_at_call 61; refine HC.out.mono ?_; rintro e w3 ⟨rfl, hb⟩; refine Hid.out ?_)
     refine Lib.hid ?_
     have hX3 := HN.out _ _ hX2 hb
     clear HC hb hl hm
     clear c8 d8 c9 d9
     clear hq2
     have hl := HZ.out _ hX3
     have hm : w.heap.size < w3.heap.size := by omega
     have c10 : w3.cell? ⟨w.heap.size, 10, none⟩ = some (.int .i64 a.C.d) := hX3.a 10 _ (HKa.out 10 (by decide) _ rfl)
     have d10 : w3.cell? ⟨w.heap.size + 1, 10, none⟩ = some (.int .i64 b.C.d) := hX3.b 10 _ (HKb.out 10 (by decide) _ rfl)
     have c11 : w3.cell? ⟨w.heap.size, 11, none⟩ = some (.slice a.C.p a.C.xs.length a.C.cap) := hX3.a 11 _ (HKa.out 11 (by decide) _ rfl)
     have d11 : w3.cell? ⟨w.heap.size + 1, 11, none⟩ = some (.slice b.C.p b.C.xs.length b.C.cap) := hX3.b 11 _ (HKb.out 11 (by decide) _ rfl)
     have HC := Lib.hid (HSc.out _ hX3)
     cases hq4 : (sameS a.C.d b.C.d a.C.xs b.C.xs) with
     | false =>
      rw [hq4] at HC
      have HNo := Lib.hid hq4
      have HR : Hid (r = false) := Lib.hid (by rw [HF.out, HE0.out, HE1.out, HE2.out, HE3.out, HNo.out]; simp)
      clear hq4
      go_wp2_with (go_at_call 62; refine HC.out.mono ?_; rintro e w4 ⟨rfl, hb⟩)
      go_ret
      exact ⟨ret_bool HR.out.symm, HBe.out _ (HN.out _ _ hX3 hb)⟩
     | true =>
      rw [hq4] at HC
      have HE4 := Lib.hid hq4
      clear hq4
      go_wp2_with (go_at_call 62; refine HC.out.mono ?_; rintro e w4 ⟨rfl, hb⟩; refine Hid.out ?_)
      refine Lib.hid ?_
      have hX4 := HN.out _ _ hX3 hb
      clear HC hb hl hm
      clear c10 d10 c11 d11
      have hl := HZ.out _ hX4
      have hm : w.heap.size < w4.heap.size := by omega
      have c12 : w4.cell? ⟨w.heap.size, 12, none⟩ = some (.int .i64 a.sin) := hX4.a 12 _ (HKa.out 12 (by decide) _ rfl)
      have d12 : w4.cell? ⟨w.heap.size + 1, 12, none⟩ = some (.int .i64 b.sin) := hX4.b 12 _ (HKb.out 12 (by decide) _ rfl)
      have c13 : w4.cell? ⟨w.heap.size, 13, none⟩ = some (.int .i64 a.sid) := hX4.a 13 _ (HKa.out 13 (by decide) _ rfl)
      have d13 : w4.cell? ⟨w.heap.size + 1, 13, none⟩ = some (.int .i64 b.sid) := hX4.b 13 _ (HKb.out 13 (by decide) _ rfl)
      have la := HLa.out _ hX4
      have lb := HLb.out _ hX4
      have eqr := HRf.out w4
      have eqs := HSt.out w4
      cases hq5 : (refB a.sin a.sid b.sin b.sid) with
      | false =>
       rw [hq5] at eqr
       have HNo := Lib.hid hq5
       have HR : Hid (r = false) := Lib.hid (by rw [HF.out, HE0.out, HE1.out, HE2.out, HE3.out, HE4.out, HNo.out]; simp)
       clear hq5 eqs la lb
       go_wp2_with (refine wpList_runW rfl _ (neq_f rfl rfl rfl gR eqr) ?_)
       go_ret
       exact ⟨ret_bool HR.out.symm, HBe.out _ hX4⟩
      | true =>
       rw [hq5] at eqr
       have HE5 := Lib.hid hq5
       clear hq5
       cases hq6 : (stB a.st b.st) with
       | false =>
        rw [hq6] at eqs
        have HNo := Lib.hid hq6
        have HR : Hid (r = false) := Lib.hid (by rw [HF.out, HE0.out, HE1.out, HE2.out, HE3.out, HE4.out, HE5.out, HNo.out]; simp)
        clear hq6
        go_wp2_with (first | (refine wpList_load_atW2 rfl 68 _ rfl ⟨w.heap.size, 14, none⟩ rfl (.agg sa) la ?_) | (refine wpList_load_atW2 rfl 68 _ rfl ⟨w.heap.size + 1, 14, none⟩ rfl (.agg sb) lb ?_) | (refine wpList_runW rfl _ (neq_t rfl rfl rfl gR eqr) ?_) | (refine wpList_runW rfl _ (neq_f rfl rfl rfl gS eqs) ?_))
        go_ret
        exact ⟨ret_bool HR.out.symm, HBe.out _ hX4⟩
       | true =>
        rw [hq6] at eqs
        have HE6 := Lib.hid hq6
        clear hq6
        go_wp2_with (first | (refine wpList_load_atW2 rfl 68 _ rfl ⟨w.heap.size, 14, none⟩ rfl (.agg sa) la ?_) | (refine wpList_load_atW2 rfl 68 _ rfl ⟨w.heap.size + 1, 14, none⟩ rfl (.agg sb) lb ?_) | (refine wpList_runW rfl _ (neq_t rfl rfl rfl gR eqr) ?_) | (refine wpList_runW rfl _ (neq_t rfl rfl rfl gS eqs) ?_; refine Hid.out ?_))
        refine Lib.hid ?_
        clear la lb eqr eqs hl hm c12 d12 c13 d13
        have hl := HZ.out _ hX4
        have hm : w.heap.size < w4.heap.size := by omega
        have c31 : w4.cell? ⟨w.heap.size, 31, none⟩ = some (.int .u64 a.entry) := hX4.a 31 _ (HTa.out 0 _ rfl)
        have d31 : w4.cell? ⟨w.heap.size + 1, 31, none⟩ = some (.int .u64 b.entry) := hX4.b 31 _ (HTb.out 0 _ rfl)
        have c32 : w4.cell? ⟨w.heap.size, 32, none⟩ = some (.int .i64 a.does) := hX4.a 32 _ (HTa.out 1 _ rfl)
        have d32 : w4.cell? ⟨w.heap.size + 1, 32, none⟩ = some (.int .i64 b.does) := hX4.b 32 _ (HTb.out 1 _ rfl)
        have c33 : w4.cell? ⟨w.heap.size, 33, none⟩ = some (.int .i64 a.seg) := hX4.a 33 _ (HTa.out 2 _ rfl)
        have d33 : w4.cell? ⟨w.heap.size + 1, 33, none⟩ = some (.int .i64 b.seg) := hX4.b 33 _ (HTb.out 2 _ rfl)
        have c34 : w4.cell? ⟨w.heap.size, 34, none⟩ = some (.int .i64 a.off) := hX4.a 34 _ (HTa.out 3 _ rfl)
        have d34 : w4.cell? ⟨w.heap.size + 1, 34, none⟩ = some (.int .i64 b.off) := hX4.b 34 _ (HTb.out 3 _ rfl)
        have c35 : w4.cell? ⟨w.heap.size, 35, none⟩ = some (.slice a.ap a.al.length a.ac) := hX4.a 35 _ (HTa.out 4 _ rfl)
        have d35 : w4.cell? ⟨w.heap.size + 1, 35, none⟩ = some (.slice b.ap b.al.length b.ac) := hX4.b 35 _ (HTb.out 4 _ rfl)
        cases hq7 : (a.entry == b.entry) with
        | false =>
         have HNo := Lib.hid hq7
         have HR : Hid (r = false) := Lib.hid (by rw [HF.out, HE0.out, HE1.out, HE2.out, HE3.out, HE4.out, HE5.out, HE6.out, HNo.out]; simp)
         go_wp2_with fail
         go_ret
         exact ⟨ret_bool HR.out.symm, HBe.out _ hX4⟩
        | true =>
         have HE7 := Lib.hid hq7
         cases hq8 : (a.does == b.does) with
         | false =>
          have HNo := Lib.hid hq8
          have HR : Hid (r = false) := Lib.hid (by rw [HF.out, HE0.out, HE1.out, HE2.out, HE3.out, HE4.out, HE5.out, HE6.out, HE7.out, HNo.out]; simp)
          go_wp2_with fail
          go_ret
          exact ⟨ret_bool HR.out.symm, HBe.out _ hX4⟩
         | true =>
          have HE8 := Lib.hid hq8
          cases hq9 : (a.seg == b.seg) with
          | false =>
           have HNo := Lib.hid hq9
           have HR : Hid (r = false) := Lib.hid (by rw [HF.out, HE0.out, HE1.out, HE2.out, HE3.out, HE4.out, HE5.out, HE6.out, HE7.out, HE8.out, HNo.out]; simp)
           go_wp2_with fail
           go_ret
           exact ⟨ret_bool HR.out.symm, HBe.out _ hX4⟩
          | true =>
           have HE9 := Lib.hid hq9
           cases hq10 : (a.off == b.off) with
           | false =>
            have HNo := Lib.hid hq10
            have HR : Hid (r = false) := Lib.hid (by rw [HF.out, HE0.out, HE1.out, HE2.out, HE3.out, HE4.out, HE5.out, HE6.out, HE7.out, HE8.out, HE9.out, HNo.out]; simp)
            go_wp2_with fail
            go_ret
            exact ⟨ret_bool HR.out.symm, HBe.out _ hX4⟩
           | true =>
            have HE10 := Lib.hid hq10
            have HC := Lib.hid (HSa.out _ hX4)
            cases hq11 : (a.al == b.al) with
            | false =>
             rw [hq11] at HC
             have HNo := Lib.hid hq11
             have HR : Hid (r = false) := Lib.hid (by rw [HF.out, HE0.out, HE1.out, HE2.out, HE3.out, HE4.out, HE5.out, HE6.out, HE7.out, HE8.out, HE9.out, HE10.out, HNo.out]; simp)
             clear hq11
             go_wp2_with (go_at_call 22; refine HC.out.mono ?_; rintro e w5 ⟨rfl, hb⟩)
             go_ret
             exact ⟨ret_bool HR.out.symm, HBe.out _ (HN.out _ _ hX4 hb)⟩
            | true =>
             rw [hq11] at HC
             have HE11 := Lib.hid hq11
             clear hq11
             go_wp2_with (go_at_call 22; refine HC.out.mono ?_; rintro e w5 ⟨rfl, hb⟩; refine Hid.out ?_)
             refine Lib.hid ?_
             have hX5 := HN.out _ _ hX4 hb
             clear HC hb hl hm
             clear c31 d31 c32 d32 c33 d33 c34 d34 c35 d35
             clear hq7 hq8 hq9 hq10
             have hl := HZ.out _ hX5
             have hm : w.heap.size < w5.heap.size := by omega
             have c36 : w5.cell? ⟨w.heap.size, 36, none⟩ = some (.string a.heard) := hX5.a 36 _ (HTa.out 5 _ rfl)
             have d36 : w5.cell? ⟨w.heap.size + 1, 36, none⟩ = some (.string b.heard) := hX5.b 36 _ (HTb.out 5 _ rfl)
             have c37 : w5.cell? ⟨w.heap.size, 37, none⟩ = some (.string a.out) := hX5.a 37 _ (HTa.out 6 _ rfl)
             have d37 : w5.cell? ⟨w.heap.size + 1, 37, none⟩ = some (.string b.out) := hX5.b 37 _ (HTb.out 6 _ rfl)
             cases hq12 : (a.heard.toList == b.heard.toList) with
             | false =>
              have HNo := Lib.hid hq12
              have HR : Hid (r = false) := Lib.hid (by rw [HF.out, HE0.out, HE1.out, HE2.out, HE3.out, HE4.out, HE5.out, HE6.out, HE7.out, HE8.out, HE9.out, HE10.out, HE11.out, HNo.out]; simp)
              go_wp2_with fail
              go_ret
              exact ⟨ret_bool HR.out.symm, HBe.out _ hX5⟩
             | true =>
              have HE12 := Lib.hid hq12
              cases hq13 : (a.out.toList == b.out.toList) with
              | false =>
               have HNo := Lib.hid hq13
               have HR : Hid (r = false) := Lib.hid (by rw [HF.out, HE0.out, HE1.out, HE2.out, HE3.out, HE4.out, HE5.out, HE6.out, HE7.out, HE8.out, HE9.out, HE10.out, HE11.out, HE12.out, HNo.out]; simp)
               go_wp2_with fail
               go_ret
               exact ⟨ret_bool HR.out.symm, HBe.out _ hX5⟩
              | true =>
               have HE13 := Lib.hid hq13
               have HR : Hid (r = true) := Lib.hid (by rw [HF.out, HE0.out, HE1.out, HE2.out, HE3.out, HE4.out, HE5.out, HE6.out, HE7.out, HE8.out, HE9.out, HE10.out, HE11.out, HE12.out, HE13.out]; rfl)
               go_wp2_with fail
               go_ret
               exact ⟨ret_bool HR.out.symm, HBe.out _ hX5⟩
end Go.Proofs.YtmgfakfiiaeofaaGreat.Vw
