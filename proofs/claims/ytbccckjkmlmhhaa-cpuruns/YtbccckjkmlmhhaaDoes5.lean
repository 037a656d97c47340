/- Does of the reference: what is reckoned. -/
import Derived.Test.YtbccckjkmlmhhaaDoes1
import Derived.Test.YtbccckjkmlmhhaaReck
import Derived.Deep.Cut
namespace Go.Proofs.Ytbccckjkmlmhhaa
open Go.RowKit Go.Lib
theorem quiet_load5 {P : Program} {C : World → Prop} {o : Oper} {a : Act} {K : Act → Prop} (ty : TypeId) (x : Operand) (g : Nat) (v : Value) (ho : o.op = .load ty x) (hx : a.eval x = .pointer (some ⟨g, 0, none⟩))
    (hl : ∀ w, C w → (loadVar ty ⟨g, 0, none⟩).run P w = .ok v w) (h : K (a.put o.dst v)) : o.quiet P a C K := by
  refine ⟨v, fun w hw => ?_, h⟩
  unfold Oper.quietAt execOp
  simp only [ho, hx, Instr.loadAt, Instr.sureAddr, Sem.run_bind, Sem.run_pure, Result.andThen_ok, hl w hw]
  exact ⟨rfl, rfl⟩
set_option maxRecDepth 100000 in
set_option maxHeartbeats 4000000 in
theorem does_reck (n : Int) (op : Int) (xx xa xb xz : Int) (a b z : Nat) (r : List Int) (pc : Int) (sb : ByteArray) (w : World) (hng : ¬ n < 0) (hop : 6 ≤ op ∧ op ≤ 17) (hxs : r.getD a 0 = xa ∧ r.getD b 0 = xb ∧ r.getD z 0 = xz) (hxx : (resI op 0 0 xb xz) = xx) (hreg : a < 16 ∧ b < 16 ∧ z < 16) (hk : okR r pc) :
    Calls Try.prog 24 #[.agg (stC r pc).toArray, .agg #[.int .i64 op, .int .i64 a, .int .i64 b, .int .i64 z, .int .i64 n], .string sb] w (DoesP w (r.set a xx) (nxI pc) 0) := by
  obtain ⟨hxa, hxb, hxz⟩ := hxs
  have hr := hk.1
  obtain ⟨ha, hb, hz⟩ := hreg
  obtain ⟨cs, hcs⟩ : ∃ cs, (stC r pc).toArray = cs := ⟨_, rfl⟩
  rw [hcs]
  obtain ⟨W, hW⟩ : ∃ W, ((w.alloc (.cells cs 25)).alloc (.cells #[.int .i64 op, .int .i64 a, .int .i64 b, .int .i64 z, .int .i64 n] 61)).alloc (.cells #[.int .u64 0, .int .u64 0, .int .u64 0, .int .u64 0, .int .u64 0, .int .u64 0, .int .u64 0, .int .u64 0, .int .u64 0, .int .u64 0, .int .u64 0, .int .u64 0, .int .u64 0, .int .u64 0, .int .u64 0, .int .u64 0, .int .u64 0] 25) = W := ⟨_, rfl⟩
  have hbW : Below w.heap.size w W := by rw [← hW]; go_grown
  have z1 : (w.alloc (.cells cs 25)).heap.size = w.heap.size + 1 := by simp
  have z2 : ((w.alloc (.cells cs 25)).alloc (.cells #[.int .i64 op, .int .i64 a, .int .i64 b, .int .i64 z, .int .i64 n] 61)).heap.size = w.heap.size + 1 + 1 := by simp
  have b0 : W.heap[w.heap.size]? = some (.cells cs 25 (0, 0)) := by
    rw [← hW]; exact ((Lib.alloc_old _ _ _ (by simp; omega)).trans (Lib.alloc_old _ _ _ (by simp))).trans (heap_new _ _)
  have b1 : W.heap[w.heap.size + 1]? = some (.cells #[.int .i64 op, .int .i64 a, .int .i64 b, .int .i64 z, .int .i64 n] 61 (0, 0)) := by
    rw [← hW, ← z1]; exact (Lib.alloc_old _ _ _ (by simp)).trans (heap_new _ _)
  have b2 : W.heap[w.heap.size + 1 + 1]? = some (.cells #[.int .u64 0, .int .u64 0, .int .u64 0, .int .u64 0, .int .u64 0, .int .u64 0, .int .u64 0, .int .u64 0, .int .u64 0, .int .u64 0, .int .u64 0, .int .u64 0, .int .u64 0, .int .u64 0, .int .u64 0, .int .u64 0, .int .u64 0] 25 (0, 0)) := by
    rw [← hW, ← z2]; exact heap_new _ _
  have S0 : StAt W w.heap.size r pc := by unfold StAt; rw [hcs]; exact b0
  have hpc := S0.pc hr
  have b0' := b0
  have hsz : (Try.prog.info? 25).map (·.size) = some cs.size := by rw [← hcs, stC_size hr]; exact stInfo
  have hone : cs.all (·.oneCell') = true := by rw [← hcs]; exact stC_one _ _
  have HQ : Hid (cs.size = 17) := by simp only [Hid]; rw [← hcs]; exact stC_size hr
  have hk4 : W.cell? ⟨w.heap.size + 1, 4, none⟩ = some (.int .i64 n) := by simp [World.cell?, b1]
  have hl0 : w.heap.size < W.heap.size := (Array.getElem?_eq_some_iff.1 b0).1
  have hl1 : w.heap.size + 1 < W.heap.size := (Array.getElem?_eq_some_iff.1 b1).1
  have hl2 : w.heap.size + 1 + 1 < W.heap.size := (Array.getElem?_eq_some_iff.1 b2).1
  obtain ⟨W1, hW1, n1, hb1⟩ := state_laid W cs
  have hn0 := heap_new W (.cells #[.int .u64 0, .int .u64 0, .int .u64 0, .int .u64 0, .int .u64 0, .int .u64 0, .int .u64 0, .int .u64 0, .int .u64 0, .int .u64 0, .int .u64 0, .int .u64 0, .int .u64 0, .int .u64 0, .int .u64 0, .int .u64 0, .int .u64 0] 25)
  have HW1 := Lib.hid hW1
  have S3 : StAt W1 W.heap.size r pc := by unfold StAt; rw [hcs]; exact n1
  have d0 := (hb1.block _ S0.lt).trans b0
  have d1 := (hb1.block _ hl1).trans b1
  have d2 := (hb1.block _ hl2).trans b2
  have g1 := S3.pc hr
  have g2 := S3.froz 16
  have g3 := S3.lt
  obtain ⟨W2, hW2⟩ : ∃ W2, W1.setCell ⟨W.heap.size, 16, none⟩ (.int .u64 (IntKind.u64.wrap (pc + 4))) = W2 := ⟨_, rfl⟩
  have S4 : StAt W2 W.heap.size r (nxI pc) := by rw [← hW2]; exact S3.setPc hr _
  have e0 : W2.heap[w.heap.size]? = some (.cells cs 25 (0, 0)) := by rw [← hW2]; exact (heap_setCell_ne W1 ⟨W.heap.size, 16, none⟩ _ (Nat.ne_of_lt hl0)).trans d0
  have e1 : W2.heap[w.heap.size + 1]? = some (.cells #[.int .i64 op, .int .i64 a, .int .i64 b, .int .i64 z, .int .i64 n] 61 (0, 0)) := by rw [← hW2]; exact (heap_setCell_ne W1 ⟨W.heap.size, 16, none⟩ _ (Nat.ne_of_lt hl1)).trans d1
  have e2 : W2.heap[w.heap.size + 1 + 1]? = some (.cells #[.int .u64 0, .int .u64 0, .int .u64 0, .int .u64 0, .int .u64 0, .int .u64 0, .int .u64 0, .int .u64 0, .int .u64 0, .int .u64 0, .int .u64 0, .int .u64 0, .int .u64 0, .int .u64 0, .int .u64 0, .int .u64 0, .int .u64 0] 25 (0, 0)) := by rw [← hW2]; exact (heap_setCell_ne W1 ⟨W.heap.size, 16, none⟩ _ (Nat.ne_of_lt hl2)).trans d2
  have q2 : Below w.heap.size w W2 := by rw [← hW2]; exact (hbW.trans (hb1.mono hbW.size)).setCell (p := ⟨W.heap.size, 16, none⟩) (Nat.le_of_lt hl0) _
  have S5 : StAt W2 w.heap.size r pc := by unfold StAt; rw [hcs]; exact e0
  have HS4 := Lib.hid S4
  have HS5 := Lib.hid S5
  have c0 : W2.cell? ⟨w.heap.size + 1, 0, none⟩ = some (.int .i64 op) := by simp [World.cell?, e1]
  have HE1 := Lib.hid e1
  clear hW1 n1 hbW b0 b1 b2 S0 S3 z1 z2 hb1 d0 d1 d2 S4 S5
  have x0 : (op == 0) = false := by simp; omega
  have x2 : (op == 2) = false := by simp; omega
  have x3 : (op == 3) = false := by simp; omega
  have x4 : (op == 4) = false := by simp; omega
  have x5 : (op == 5) = false := by simp; omega
  have x18 : (op == 18) = false := by simp; omega
  have x20 : (op == 20) = false := by simp; omega
  have x22 : (op == 22) = false := by simp; omega
  have x23 : (op == 23) = false := by simp; omega
  have x24 : (op == 24) = false := by simp; omega
  have x25 : (op == 25) = false := by simp; omega
  have x26 : (op == 26) = false := by simp; omega
  have y1 : ¬ op < 6 := by omega
  have y2 : ¬ 17 < op := by omega
  go_enter Try.func24, Try.ntmps24
  go_wp2_with (first
    | (refine wpList_load_row rfl 25 _ rfl w.heap.size rfl 25 _ (0, 0) _ b0' Try.underlying25 rfl hsz ?_)
    | (refine wpList_store_row rfl 25 _ _ rfl W.heap.size cs rfl rfl 25 _ hn0 hsz (by rw [HQ.out]; rfl) hone ?_; rw [HW1.out]; refine Hid.out ?_))
  refine Lib.hid ?_
  have cnz : (Try.prog.info? 25).map (·.size) = some (stC r (nxI pc)).toArray.size := by rw [stC_size hr]; exact stInfo
  have cno := stC_one r (nxI pc)
  have cnq : Hid ((stC r (nxI pc)).toArray.size = 17) := stC_size hr
  obtain ⟨cn, cnE⟩ : ∃ c', (stC r (nxI pc)).toArray = c' := ⟨_, rfl⟩
  rw [cnE] at cnz cno cnq
  have e3 : W2.heap[W.heap.size]? = some (.cells cn 25 (0, 0)) := by rw [← cnE]; exact HS4.out
  have cmz : (Try.prog.info? 25).map (·.size) = some (stC (r.set a xx) (nxI pc)).toArray.size := by rw [stC_size (show (r.set a xx).length = 16 by rw [List.length_set]; exact hr)]; exact stInfo
  have cmo := stC_one (r.set a xx) (nxI pc)
  have cmq : Hid ((stC (r.set a xx) (nxI pc)).toArray.size = 17) := stC_size (show (r.set a xx).length = 16 by rw [List.length_set]; exact hr)
  obtain ⟨cm, cmE⟩ : ∃ c', (stC (r.set a xx) (nxI pc)).toArray = c' := ⟨_, rfl⟩
  rw [cmE] at cmz cmo cmq
  have HPut : Hid (∀ W' : World, Calls Try.prog 41 #[.agg cn, .int .i64 a, .int .u64 (resI op 0 0 xb xz)] W' fun e w' => e = .returned (.agg cm) ∧ Below W'.heap.size W' w') := fun W' => by
    have := Put_any r (nxI pc) a xx W' hr ha
    rw [cnE, cmE] at this
    rw [hxx]
    exact this
  have hlc : w.heap.size + 1 < W2.heap.size := (Array.getElem?_eq_some_iff.1 HE1.out).1
  have u0 : ∀ nn os, (gx W2 nn os).cell? ⟨w.heap.size + 1, 0, none⟩ = some (.int .i64 op) := fun nn os => cell_gx (a := ⟨w.heap.size + 1, 0, none⟩) hlc (by simp [World.cell?, HE1.out]) nn os
  have u1 : ∀ nn os, (gx W2 nn os).cell? ⟨w.heap.size + 1, 1, none⟩ = some (.int .i64 a) := fun nn os => cell_gx (a := ⟨w.heap.size + 1, 1, none⟩) hlc (by simp [World.cell?, HE1.out]) nn os
  have u2 : ∀ nn os, (gx W2 nn os).cell? ⟨w.heap.size + 1, 2, none⟩ = some (.int .i64 b) := fun nn os => cell_gx (a := ⟨w.heap.size + 1, 2, none⟩) hlc (by simp [World.cell?, HE1.out]) nn os
  have u3 : ∀ nn os, (gx W2 nn os).cell? ⟨w.heap.size + 1, 3, none⟩ = some (.int .i64 z) := fun nn os => cell_gx (a := ⟨w.heap.size + 1, 3, none⟩) hlc (by simp [World.cell?, HE1.out]) nn os
  have u4 : ∀ nn os, (gx W2 nn os).cell? ⟨w.heap.size + 1, 4, none⟩ = some (.int .i64 n) := fun nn os => cell_gx (a := ⟨w.heap.size + 1, 4, none⟩) hlc (by simp [World.cell?, HE1.out]) nn os
  have ra : ∀ nn os, (gx W2 nn os).cell? ⟨w.heap.size, a, none⟩ = some (.int .u64 (r.getD a 0)) := fun nn os => cell_gx (a := ⟨w.heap.size, a, none⟩) HS5.out.lt (HS5.out.reg hr a ha) nn os
  have rb : ∀ nn os, (gx W2 nn os).cell? ⟨w.heap.size, b, none⟩ = some (.int .u64 (r.getD b 0)) := fun nn os => cell_gx (a := ⟨w.heap.size, b, none⟩) HS5.out.lt (HS5.out.reg hr b hb) nn os
  have rz : ∀ nn os, (gx W2 nn os).cell? ⟨w.heap.size, z, none⟩ = some (.int .u64 (r.getD z 0)) := fun nn os => cell_gx (a := ⟨w.heap.size, z, none⟩) HS5.out.lt (HS5.out.reg hr z hz) nn os
  have HLd : Hid (∀ nn os, (loadVar 25 ⟨W.heap.size, 0, none⟩).run Try.prog (gx W2 nn os) = .ok (.agg cn) (gx W2 nn os)) := fun nn os => run_loadVar_row (P := Try.prog) _ W.heap.size 25 25 cn (0, 0) _ (((gx_below W2 nn os).block _ (Array.getElem?_eq_some_iff.1 e3).1).trans e3) Try.underlying25 rfl cnz
  have hai : (a : Int) < 16 := by omega
  have hbi : (b : Int) < 16 := by omega
  have hzi : (z : Int) < 16 := by omega
  have hl6 : w.heap.size + 1 + 1 < W2.heap.size := (Array.getElem?_eq_some_iff.1 e2).1
  have HRk : Hid (∀ W' : World, Calls Try.prog 43 #[.int .i64 op, .int .u64 xb, .int .u64 xz] W' fun e w' => e = .returned (.int .u64 (resI op 0 0 xb xz)) ∧ Below W'.heap.size W' w') := fun W' => (Reckon_any op xb xz W' hop (by rw [← hxb]; exact hk.get b hb) (by rw [← hxz]; exact hk.get z hz)).mono fun _ _ hh => ⟨hh.1, by rw [hh.2]; exact Below.refl _ _⟩
  generalize resI op 0 0 xb xz = res at *
  rw [hxa] at ra
  rw [hxb] at rb
  rw [hxz] at rz
  clear hxa hxb hxz hxx
  go_wp2_with fail
  refine wp_region_tail_gx 17 (by kernel_rfl) (by kernel_rfl) ?_
  simp only [List.take_succ_cons, List.take_zero, List.drop_succ_cons, List.drop_zero]
  go_big_quiet_want
  refine quiet_load5 25 _ W.heap.size (.agg cn) rfl rfl (fun w ⟨q, hw⟩ => by subst hw; exact HLd.out _ _) ?_
  go_simp
  go_big_quiet_on
  iterate 16 (go_big_quiet_step (first | (go_at_call 41; exact calls_gx (HPut.out _)) | (go_at_call 43; exact calls_gx (HRk.out _))))
  refine wpQuiet_nil ?_
  intro w6 hw'
  obtain ⟨⟨n0, os0⟩, hw''⟩ := hw'
  have hw3 : w6 = gx W2 n0 os0 := hw''
  clear hw''
  have hB6 : Below W2.heap.size W2 w6 := by rw [hw3]; exact gx_below _ _ _
  clear hw3 u0 u1 u2 u3 u4 ra rb rz
  have f2 := (hB6.block _ hl6).trans e2
  have q6 := q2.trans (hB6.mono q2.size)
  go_wp2_with (first
    | (refine wpList_store_row rfl 25 _ _ rfl (w.heap.size + 1 + 1) cm rfl rfl 25 _ f2 cmz (by rw [cmq.out]; rfl) cmo ?_))
  refine bodyPost_ret (results_does _ _ (w.heap.size + 1 + 1) cm (.int .i64 0) rfl (heap_setRow _ _ _ _ _ f2) cmq.out rfl) rfl ⟨by rw [cmE], below_setRow q6 (by omega) cm⟩
end Go.Proofs.Ytbccckjkmlmhhaa
