/- Does of the reference: ways and calls. -/
import Derived.Test.YtbccckjkmlmhhaaDoes1
import Derived.Test.YtbccckjkmlmhhaaReck
import Derived.Deep.Cut
namespace Go.Proofs.Ytbccckjkmlmhhaa
open Go.RowKit Go.Lib
set_option maxRecDepth 100000 in
set_option maxHeartbeats 4000000 in
theorem does_gop (n : Int) (a b z : Nat) (r : List Int) (pc : Int) (sb : ByteArray) (w : World) (hng : ¬ n < 0) (hreg : a < 16 ∧ b < 16 ∧ z < 16) (hk : okR r pc) :
    Calls Try.prog 24 #[.agg (stC r pc).toArray, .agg #[.int .i64 22, .int .i64 a, .int .i64 b, .int .i64 z, .int .i64 n], .string sb] w (DoesP w r (IntKind.u64.wrap (IntKind.u64.wrap (pc + 4) + IntKind.u64.wrap (wrap64 (4 * n)))) 0) := by
  have hr := hk.1
  obtain ⟨ha, hb, hz⟩ := hreg
  obtain ⟨cs, hcs⟩ : ∃ cs, (stC r pc).toArray = cs := ⟨_, rfl⟩
  rw [hcs]
  obtain ⟨W, hW⟩ : ∃ W, ((w.alloc (.cells cs 25)).alloc (.cells #[.int .i64 22, .int .i64 a, .int .i64 b, .int .i64 z, .int .i64 n] 61)).alloc (.cells #[.int .u64 0, .int .u64 0, .int .u64 0, .int .u64 0, .int .u64 0, .int .u64 0, .int .u64 0, .int .u64 0, .int .u64 0, .int .u64 0, .int .u64 0, .int .u64 0, .int .u64 0, .int .u64 0, .int .u64 0, .int .u64 0, .int .u64 0] 25) = W := ⟨_, rfl⟩
  have hbW : Below w.heap.size w W := by rw [← hW]; go_grown
  have z1 : (w.alloc (.cells cs 25)).heap.size = w.heap.size + 1 := by simp
  have z2 : ((w.alloc (.cells cs 25)).alloc (.cells #[.int .i64 22, .int .i64 a, .int .i64 b, .int .i64 z, .int .i64 n] 61)).heap.size = w.heap.size + 1 + 1 := by simp
  have b0 : W.heap[w.heap.size]? = some (.cells cs 25 (0, 0)) := by
    rw [← hW]; exact ((Lib.alloc_old _ _ _ (by simp; omega)).trans (Lib.alloc_old _ _ _ (by simp))).trans (heap_new _ _)
  have b1 : W.heap[w.heap.size + 1]? = some (.cells #[.int .i64 22, .int .i64 a, .int .i64 b, .int .i64 z, .int .i64 n] 61 (0, 0)) := by
    rw [← hW, ← z1]; exact (Lib.alloc_old _ _ _ (by simp)).trans (heap_new _ _)
  have b2 : W.heap[w.heap.size + 1 + 1]? = some (.cells #[.int .u64 0, .int .u64 0, .int .u64 0, .int .u64 0, .int .u64 0, .int .u64 0, .int .u64 0, .int .u64 0, .int .u64 0, .int .u64 0, .int .u64 0, .int .u64 0, .int .u64 0, .int .u64 0, .int .u64 0, .int .u64 0, .int .u64 0] 25 (0, 0)) := by
    rw [← hW, ← z2]; exact heap_new _ _
  have S0 : StAt W w.heap.size r pc := by unfold StAt; rw [hcs]; exact b0
  have hpc := S0.pc hr
  have b0' := b0
  have hsz : (Try.prog.info? 25).map (·.size) = some cs.size := by rw [← hcs, stC_size hr]; exact stInfo
  have hone : cs.all (·.oneCell') = true := by rw [← hcs]; exact stC_one _ _
  have HQ : Hid (cs.size = 17) := by simp only [Hid]; rw [← hcs]; exact stC_size hr
  have hk4 : W.cell? ⟨w.heap.size + 1, 4, none⟩ = some (.int .i64 n) := by simp [World.cell?, b1]
  have hl0 : w.heap.size < W.heap.size := (Array.getElem?_eq_some_iff.1 b0).1
  have hl1 : w.heap.size + 1 < W.heap.size := (Array.getElem?_eq_some_iff.1 b1).1
  have hl2 : w.heap.size + 1 + 1 < W.heap.size := (Array.getElem?_eq_some_iff.1 b2).1
  obtain ⟨W1, hW1, n1, hb1⟩ := state_laid W cs
  have hn0 := heap_new W (.cells #[.int .u64 0, .int .u64 0, .int .u64 0, .int .u64 0, .int .u64 0, .int .u64 0, .int .u64 0, .int .u64 0, .int .u64 0, .int .u64 0, .int .u64 0, .int .u64 0, .int .u64 0, .int .u64 0, .int .u64 0, .int .u64 0, .int .u64 0] 25)
  have HW1 := Lib.hid hW1
  have S3 : StAt W1 W.heap.size r pc := by unfold StAt; rw [hcs]; exact n1
  have d0 := (hb1.block _ S0.lt).trans b0
  have d1 := (hb1.block _ hl1).trans b1
  have d2 := (hb1.block _ hl2).trans b2
  have g1 := S3.pc hr
  have g2 := S3.froz 16
  have g3 := S3.lt
  obtain ⟨W2, hW2⟩ : ∃ W2, W1.setCell ⟨W.heap.size, 16, none⟩ (.int .u64 (IntKind.u64.wrap (pc + 4))) = W2 := ⟨_, rfl⟩
  have S4 : StAt W2 W.heap.size r (nxI pc) := by rw [← hW2]; exact S3.setPc hr _
  have e0 : W2.heap[w.heap.size]? = some (.cells cs 25 (0, 0)) := by rw [← hW2]; exact (heap_setCell_ne W1 ⟨W.heap.size, 16, none⟩ _ (Nat.ne_of_lt hl0)).trans d0
  have e1 : W2.heap[w.heap.size + 1]? = some (.cells #[.int .i64 22, .int .i64 a, .int .i64 b, .int .i64 z, .int .i64 n] 61 (0, 0)) := by rw [← hW2]; exact (heap_setCell_ne W1 ⟨W.heap.size, 16, none⟩ _ (Nat.ne_of_lt hl1)).trans d1
  have e2 : W2.heap[w.heap.size + 1 + 1]? = some (.cells #[.int .u64 0, .int .u64 0, .int .u64 0, .int .u64 0, .int .u64 0, .int .u64 0, .int .u64 0, .int .u64 0, .int .u64 0, .int .u64 0, .int .u64 0, .int .u64 0, .int .u64 0, .int .u64 0, .int .u64 0, .int .u64 0, .int .u64 0] 25 (0, 0)) := by rw [← hW2]; exact (heap_setCell_ne W1 ⟨W.heap.size, 16, none⟩ _ (Nat.ne_of_lt hl2)).trans d2
  have q2 : Below w.heap.size w W2 := by rw [← hW2]; exact (hbW.trans (hb1.mono hbW.size)).setCell (p := ⟨W.heap.size, 16, none⟩) (Nat.le_of_lt hl0) _
  have S5 : StAt W2 w.heap.size r pc := by unfold StAt; rw [hcs]; exact e0
  have HS4 := Lib.hid S4
  have HS5 := Lib.hid S5
  have c0 : W2.cell? ⟨w.heap.size + 1, 0, none⟩ = some (.int .i64 22) := by simp [World.cell?, e1]
  have HE1 := Lib.hid e1
  clear hW1 n1 hbW b0 b1 b2 S0 S3 z1 z2 hb1 d0 d1 d2 S4 S5
  go_enter Try.func24, Try.ntmps24
  go_wp2_with (first
    | (refine wpList_load_row rfl 25 _ rfl w.heap.size rfl 25 _ (0, 0) _ b0' Try.underlying25 rfl hsz ?_)
    | (refine wpList_store_row rfl 25 _ _ rfl W.heap.size cs rfl rfl 25 _ hn0 hsz (by rw [HQ.out]; rfl) hone ?_; rw [HW1.out]; refine Hid.out ?_))
  refine Lib.hid ?_
  have p1 := HS4.out.pc hr
  have p2 := HS4.out.froz 16
  have p3 := HS4.out.lt
  obtain ⟨W3, hW3⟩ : ∃ W3, W2.setCell ⟨W.heap.size, 16, none⟩ (.int .u64 (IntKind.u64.wrap (IntKind.u64.wrap (pc + 4) + IntKind.u64.wrap (wrap64 (4 * n))))) = W3 := ⟨_, rfl⟩
  have S6 : StAt W3 W.heap.size r (IntKind.u64.wrap (IntKind.u64.wrap (pc + 4) + IntKind.u64.wrap (wrap64 (4 * n)))) := by rw [← hW3]; exact HS4.out.setPc hr _
  have f2 : W3.heap[w.heap.size + 1 + 1]? = some (.cells #[.int .u64 0, .int .u64 0, .int .u64 0, .int .u64 0, .int .u64 0, .int .u64 0, .int .u64 0, .int .u64 0, .int .u64 0, .int .u64 0, .int .u64 0, .int .u64 0, .int .u64 0, .int .u64 0, .int .u64 0, .int .u64 0, .int .u64 0] 25 (0, 0)) := by rw [← hW3]; exact (heap_setCell_ne W2 ⟨W.heap.size, 16, none⟩ _ (Nat.ne_of_lt hl2)).trans e2
  have q3 : Below w.heap.size w W3 := by rw [← hW3]; exact q2.setCell (p := ⟨W.heap.size, 16, none⟩) (Nat.le_of_lt hl0) _
  have cnz : (Try.prog.info? 25).map (·.size) = some (stC r (IntKind.u64.wrap (IntKind.u64.wrap (pc + 4) + IntKind.u64.wrap (wrap64 (4 * n))))).toArray.size := by rw [stC_size hr]; exact stInfo
  have cno := stC_one r (IntKind.u64.wrap (IntKind.u64.wrap (pc + 4) + IntKind.u64.wrap (wrap64 (4 * n))))
  have cnq : Hid ((stC r (IntKind.u64.wrap (IntKind.u64.wrap (pc + 4) + IntKind.u64.wrap (wrap64 (4 * n))))).toArray.size = 17) := stC_size hr
  obtain ⟨cn, cnE⟩ : ∃ c', (stC r (IntKind.u64.wrap (IntKind.u64.wrap (pc + 4) + IntKind.u64.wrap (wrap64 (4 * n))))).toArray = c' := ⟨_, rfl⟩
  rw [cnE] at cnz cno cnq
  have e3 : W3.heap[W.heap.size]? = some (.cells cn 25 (0, 0)) := by rw [← cnE]; exact S6
  go_wp2_with (first
    | (refine wpList_load_row rfl 25 _ rfl W.heap.size rfl 25 _ (0, 0) _ e3 Try.underlying25 rfl cnz ?_)
    | (refine wpList_store_row rfl 25 _ _ rfl (w.heap.size + 1 + 1) cn rfl rfl 25 _ f2 cnz (by rw [cnq.out]; rfl) cno ?_))
  refine bodyPost_ret (results_does _ _ (w.heap.size + 1 + 1) cn (.int .i64 0) rfl (heap_setRow _ _ _ _ _ f2) cnq.out rfl) rfl ⟨by rw [cnE], below_setRow q3 (by omega) cn⟩
set_option maxRecDepth 100000 in
set_option maxHeartbeats 4000000 in
theorem does_zero_yesp (n : Int) (a b z : Nat) (r : List Int) (pc : Int) (sb : ByteArray) (w : World) (hng : ¬ n < 0) (hx : r.getD a 0 = 0) (hreg : a < 16 ∧ b < 16 ∧ z < 16) (hk : okR r pc) :
    Calls Try.prog 24 #[.agg (stC r pc).toArray, .agg #[.int .i64 23, .int .i64 a, .int .i64 b, .int .i64 z, .int .i64 n], .string sb] w (DoesP w r (IntKind.u64.wrap (IntKind.u64.wrap (pc + 4) + IntKind.u64.wrap (wrap64 (4 * n)))) 0) := by
  have hr := hk.1
  obtain ⟨ha, hb, hz⟩ := hreg
  obtain ⟨cs, hcs⟩ : ∃ cs, (stC r pc).toArray = cs := ⟨_, rfl⟩
  rw [hcs]
  obtain ⟨W, hW⟩ : ∃ W, ((w.alloc (.cells cs 25)).alloc (.cells #[.int .i64 23, .int .i64 a, .int .i64 b, .int .i64 z, .int .i64 n] 61)).alloc (.cells #[.int .u64 0, .int .u64 0, .int .u64 0, .int .u64 0, .int .u64 0, .int .u64 0, .int .u64 0, .int .u64 0, .int .u64 0, .int .u64 0, .int .u64 0, .int .u64 0, .int .u64 0, .int .u64 0, .int .u64 0, .int .u64 0, .int .u64 0] 25) = W := ⟨_, rfl⟩
  have hbW : Below w.heap.size w W := by rw [← hW]; go_grown
  have z1 : (w.alloc (.cells cs 25)).heap.size = w.heap.size + 1 := by simp
  have z2 : ((w.alloc (.cells cs 25)).alloc (.cells #[.int .i64 23, .int .i64 a, .int .i64 b, .int .i64 z, .int .i64 n] 61)).heap.size = w.heap.size + 1 + 1 := by simp
  have b0 : W.heap[w.heap.size]? = some (.cells cs 25 (0, 0)) := by
    rw [← hW]; exact ((Lib.alloc_old _ _ _ (by simp; omega)).trans (Lib.alloc_old _ _ _ (by simp))).trans (heap_new _ _)
  have b1 : W.heap[w.heap.size + 1]? = some (.cells #[.int .i64 23, .int .i64 a, .int .i64 b, .int .i64 z, .int .i64 n] 61 (0, 0)) := by
    rw [← hW, ← z1]; exact (Lib.alloc_old _ _ _ (by simp)).trans (heap_new _ _)
  have b2 : W.heap[w.heap.size + 1 + 1]? = some (.cells #[.int .u64 0, .int .u64 0, .int .u64 0, .int .u64 0, .int .u64 0, .int .u64 0, .int .u64 0, .int .u64 0, .int .u64 0, .int .u64 0, .int .u64 0, .int .u64 0, .int .u64 0, .int .u64 0, .int .u64 0, .int .u64 0, .int .u64 0] 25 (0, 0)) := by
    rw [← hW, ← z2]; exact heap_new _ _
  have S0 : StAt W w.heap.size r pc := by unfold StAt; rw [hcs]; exact b0
  have hpc := S0.pc hr
  have b0' := b0
  have hsz : (Try.prog.info? 25).map (·.size) = some cs.size := by rw [← hcs, stC_size hr]; exact stInfo
  have hone : cs.all (·.oneCell') = true := by rw [← hcs]; exact stC_one _ _
  have HQ : Hid (cs.size = 17) := by simp only [Hid]; rw [← hcs]; exact stC_size hr
  have hk4 : W.cell? ⟨w.heap.size + 1, 4, none⟩ = some (.int .i64 n) := by simp [World.cell?, b1]
  have hl0 : w.heap.size < W.heap.size := (Array.getElem?_eq_some_iff.1 b0).1
  have hl1 : w.heap.size + 1 < W.heap.size := (Array.getElem?_eq_some_iff.1 b1).1
  have hl2 : w.heap.size + 1 + 1 < W.heap.size := (Array.getElem?_eq_some_iff.1 b2).1
  obtain ⟨W1, hW1, n1, hb1⟩ := state_laid W cs
  have hn0 := heap_new W (.cells #[.int .u64 0, .int .u64 0, .int .u64 0, .int .u64 0, .int .u64 0, .int .u64 0, .int .u64 0, .int .u64 0, .int .u64 0, .int .u64 0, .int .u64 0, .int .u64 0, .int .u64 0, .int .u64 0, .int .u64 0, .int .u64 0, .int .u64 0] 25)
  have HW1 := Lib.hid hW1
  have S3 : StAt W1 W.heap.size r pc := by unfold StAt; rw [hcs]; exact n1
  have d0 := (hb1.block _ S0.lt).trans b0
  have d1 := (hb1.block _ hl1).trans b1
  have d2 := (hb1.block _ hl2).trans b2
  have g1 := S3.pc hr
  have g2 := S3.froz 16
  have g3 := S3.lt
  obtain ⟨W2, hW2⟩ : ∃ W2, W1.setCell ⟨W.heap.size, 16, none⟩ (.int .u64 (IntKind.u64.wrap (pc + 4))) = W2 := ⟨_, rfl⟩
  have S4 : StAt W2 W.heap.size r (nxI pc) := by rw [← hW2]; exact S3.setPc hr _
  have e0 : W2.heap[w.heap.size]? = some (.cells cs 25 (0, 0)) := by rw [← hW2]; exact (heap_setCell_ne W1 ⟨W.heap.size, 16, none⟩ _ (Nat.ne_of_lt hl0)).trans d0
  have e1 : W2.heap[w.heap.size + 1]? = some (.cells #[.int .i64 23, .int .i64 a, .int .i64 b, .int .i64 z, .int .i64 n] 61 (0, 0)) := by rw [← hW2]; exact (heap_setCell_ne W1 ⟨W.heap.size, 16, none⟩ _ (Nat.ne_of_lt hl1)).trans d1
  have e2 : W2.heap[w.heap.size + 1 + 1]? = some (.cells #[.int .u64 0, .int .u64 0, .int .u64 0, .int .u64 0, .int .u64 0, .int .u64 0, .int .u64 0, .int .u64 0, .int .u64 0, .int .u64 0, .int .u64 0, .int .u64 0, .int .u64 0, .int .u64 0, .int .u64 0, .int .u64 0, .int .u64 0] 25 (0, 0)) := by rw [← hW2]; exact (heap_setCell_ne W1 ⟨W.heap.size, 16, none⟩ _ (Nat.ne_of_lt hl2)).trans d2
  have q2 : Below w.heap.size w W2 := by rw [← hW2]; exact (hbW.trans (hb1.mono hbW.size)).setCell (p := ⟨W.heap.size, 16, none⟩) (Nat.le_of_lt hl0) _
  have S5 : StAt W2 w.heap.size r pc := by unfold StAt; rw [hcs]; exact e0
  have HS4 := Lib.hid S4
  have HS5 := Lib.hid S5
  have c0 : W2.cell? ⟨w.heap.size + 1, 0, none⟩ = some (.int .i64 23) := by simp [World.cell?, e1]
  have HE1 := Lib.hid e1
  clear hW1 n1 hbW b0 b1 b2 S0 S3 z1 z2 hb1 d0 d1 d2 S4 S5
  go_enter Try.func24, Try.ntmps24
  go_wp2_with (first
    | (refine wpList_load_row rfl 25 _ rfl w.heap.size rfl 25 _ (0, 0) _ b0' Try.underlying25 rfl hsz ?_)
    | (refine wpList_store_row rfl 25 _ _ rfl W.heap.size cs rfl rfl 25 _ hn0 hsz (by rw [HQ.out]; rfl) hone ?_; rw [HW1.out]; refine Hid.out ?_))
  refine Lib.hid ?_
  have p1 := HS4.out.pc hr
  have p2 := HS4.out.froz 16
  have p3 := HS4.out.lt
  obtain ⟨W3, hW3⟩ : ∃ W3, W2.setCell ⟨W.heap.size, 16, none⟩ (.int .u64 (IntKind.u64.wrap (IntKind.u64.wrap (pc + 4) + IntKind.u64.wrap (wrap64 (4 * n))))) = W3 := ⟨_, rfl⟩
  have S6 : StAt W3 W.heap.size r (IntKind.u64.wrap (IntKind.u64.wrap (pc + 4) + IntKind.u64.wrap (wrap64 (4 * n)))) := by rw [← hW3]; exact HS4.out.setPc hr _
  have f2 : W3.heap[w.heap.size + 1 + 1]? = some (.cells #[.int .u64 0, .int .u64 0, .int .u64 0, .int .u64 0, .int .u64 0, .int .u64 0, .int .u64 0, .int .u64 0, .int .u64 0, .int .u64 0, .int .u64 0, .int .u64 0, .int .u64 0, .int .u64 0, .int .u64 0, .int .u64 0, .int .u64 0] 25 (0, 0)) := by rw [← hW3]; exact (heap_setCell_ne W2 ⟨W.heap.size, 16, none⟩ _ (Nat.ne_of_lt hl2)).trans e2
  have q3 : Below w.heap.size w W3 := by rw [← hW3]; exact q2.setCell (p := ⟨W.heap.size, 16, none⟩) (Nat.le_of_lt hl0) _
  have cnz : (Try.prog.info? 25).map (·.size) = some (stC r (IntKind.u64.wrap (IntKind.u64.wrap (pc + 4) + IntKind.u64.wrap (wrap64 (4 * n))))).toArray.size := by rw [stC_size hr]; exact stInfo
  have cno := stC_one r (IntKind.u64.wrap (IntKind.u64.wrap (pc + 4) + IntKind.u64.wrap (wrap64 (4 * n))))
  have cnq : Hid ((stC r (IntKind.u64.wrap (IntKind.u64.wrap (pc + 4) + IntKind.u64.wrap (wrap64 (4 * n))))).toArray.size = 17) := stC_size hr
  obtain ⟨cn, cnE⟩ : ∃ c', (stC r (IntKind.u64.wrap (IntKind.u64.wrap (pc + 4) + IntKind.u64.wrap (wrap64 (4 * n))))).toArray = c' := ⟨_, rfl⟩
  rw [cnE] at cnz cno cnq
  have e3 : W3.heap[W.heap.size]? = some (.cells cn 25 (0, 0)) := by rw [← cnE]; exact S6
  have c1 : W2.cell? ⟨w.heap.size + 1, 1, none⟩ = some (.int .i64 a) := by simp [World.cell?, HE1.out]
  have ra := HS5.out.reg hr a ha
  have hai : (a : Int) < 16 := by omega
  rw [hx] at ra
  go_wp2_with (first
    | (refine wpList_load_row rfl 25 _ rfl W.heap.size rfl 25 _ (0, 0) _ e3 Try.underlying25 rfl cnz ?_)
    | (refine wpList_store_row rfl 25 _ _ rfl (w.heap.size + 1 + 1) cn rfl rfl 25 _ f2 cnz (by rw [cnq.out]; rfl) cno ?_))
  refine bodyPost_ret (results_does _ _ (w.heap.size + 1 + 1) cn (.int .i64 0) rfl (heap_setRow _ _ _ _ _ f2) cnq.out rfl) rfl ⟨by rw [cnE], below_setRow q3 (by omega) cn⟩
set_option maxRecDepth 100000 in
set_option maxHeartbeats 4000000 in
theorem does_zero_nop (n : Int) (a b z : Nat) (r : List Int) (pc : Int) (sb : ByteArray) (w : World) (hng : ¬ n < 0) (hx : r.getD a 0 ≠ 0) (hreg : a < 16 ∧ b < 16 ∧ z < 16) (hk : okR r pc) :
    Calls Try.prog 24 #[.agg (stC r pc).toArray, .agg #[.int .i64 23, .int .i64 a, .int .i64 b, .int .i64 z, .int .i64 n], .string sb] w (DoesP w r (nxI pc) 0) := by
  have hr := hk.1
  obtain ⟨ha, hb, hz⟩ := hreg
  obtain ⟨cs, hcs⟩ : ∃ cs, (stC r pc).toArray = cs := ⟨_, rfl⟩
  rw [hcs]
  obtain ⟨W, hW⟩ : ∃ W, ((w.alloc (.cells cs 25)).alloc (.cells #[.int .i64 23, .int .i64 a, .int .i64 b, .int .i64 z, .int .i64 n] 61)).alloc (.cells #[.int .u64 0, .int .u64 0, .int .u64 0, .int .u64 0, .int .u64 0, .int .u64 0, .int .u64 0, .int .u64 0, .int .u64 0, .int .u64 0, .int .u64 0, .int .u64 0, .int .u64 0, .int .u64 0, .int .u64 0, .int .u64 0, .int .u64 0] 25) = W := ⟨_, rfl⟩
  have hbW : Below w.heap.size w W := by rw [← hW]; go_grown
  have z1 : (w.alloc (.cells cs 25)).heap.size = w.heap.size + 1 := by simp
  have z2 : ((w.alloc (.cells cs 25)).alloc (.cells #[.int .i64 23, .int .i64 a, .int .i64 b, .int .i64 z, .int .i64 n] 61)).heap.size = w.heap.size + 1 + 1 := by simp
  have b0 : W.heap[w.heap.size]? = some (.cells cs 25 (0, 0)) := by
    rw [← hW]; exact ((Lib.alloc_old _ _ _ (by simp; omega)).trans (Lib.alloc_old _ _ _ (by simp))).trans (heap_new _ _)
  have b1 : W.heap[w.heap.size + 1]? = some (.cells #[.int .i64 23, .int .i64 a, .int .i64 b, .int .i64 z, .int .i64 n] 61 (0, 0)) := by
    rw [← hW, ← z1]; exact (Lib.alloc_old _ _ _ (by simp)).trans (heap_new _ _)
  have b2 : W.heap[w.heap.size + 1 + 1]? = some (.cells #[.int .u64 0, .int .u64 0, .int .u64 0, .int .u64 0, .int .u64 0, .int .u64 0, .int .u64 0, .int .u64 0, .int .u64 0, .int .u64 0, .int .u64 0, .int .u64 0, .int .u64 0, .int .u64 0, .int .u64 0, .int .u64 0, .int .u64 0] 25 (0, 0)) := by
    rw [← hW, ← z2]; exact heap_new _ _
  have S0 : StAt W w.heap.size r pc := by unfold StAt; rw [hcs]; exact b0
  have hpc := S0.pc hr
  have b0' := b0
  have hsz : (Try.prog.info? 25).map (·.size) = some cs.size := by rw [← hcs, stC_size hr]; exact stInfo
  have hone : cs.all (·.oneCell') = true := by rw [← hcs]; exact stC_one _ _
  have HQ : Hid (cs.size = 17) := by simp only [Hid]; rw [← hcs]; exact stC_size hr
  have hk4 : W.cell? ⟨w.heap.size + 1, 4, none⟩ = some (.int .i64 n) := by simp [World.cell?, b1]
  have hl0 : w.heap.size < W.heap.size := (Array.getElem?_eq_some_iff.1 b0).1
  have hl1 : w.heap.size + 1 < W.heap.size := (Array.getElem?_eq_some_iff.1 b1).1
  have hl2 : w.heap.size + 1 + 1 < W.heap.size := (Array.getElem?_eq_some_iff.1 b2).1
  obtain ⟨W1, hW1, n1, hb1⟩ := state_laid W cs
  have hn0 := heap_new W (.cells #[.int .u64 0, .int .u64 0, .int .u64 0, .int .u64 0, .int .u64 0, .int .u64 0, .int .u64 0, .int .u64 0, .int .u64 0, .int .u64 0, .int .u64 0, .int .u64 0, .int .u64 0, .int .u64 0, .int .u64 0, .int .u64 0, .int .u64 0] 25)
  have HW1 := Lib.hid hW1
  have S3 : StAt W1 W.heap.size r pc := by unfold StAt; rw [hcs]; exact n1
  have d0 := (hb1.block _ S0.lt).trans b0
  have d1 := (hb1.block _ hl1).trans b1
  have d2 := (hb1.block _ hl2).trans b2
  have g1 := S3.pc hr
  have g2 := S3.froz 16
  have g3 := S3.lt
  obtain ⟨W2, hW2⟩ : ∃ W2, W1.setCell ⟨W.heap.size, 16, none⟩ (.int .u64 (IntKind.u64.wrap (pc + 4))) = W2 := ⟨_, rfl⟩
  have S4 : StAt W2 W.heap.size r (nxI pc) := by rw [← hW2]; exact S3.setPc hr _
  have e0 : W2.heap[w.heap.size]? = some (.cells cs 25 (0, 0)) := by rw [← hW2]; exact (heap_setCell_ne W1 ⟨W.heap.size, 16, none⟩ _ (Nat.ne_of_lt hl0)).trans d0
  have e1 : W2.heap[w.heap.size + 1]? = some (.cells #[.int .i64 23, .int .i64 a, .int .i64 b, .int .i64 z, .int .i64 n] 61 (0, 0)) := by rw [← hW2]; exact (heap_setCell_ne W1 ⟨W.heap.size, 16, none⟩ _ (Nat.ne_of_lt hl1)).trans d1
  have e2 : W2.heap[w.heap.size + 1 + 1]? = some (.cells #[.int .u64 0, .int .u64 0, .int .u64 0, .int .u64 0, .int .u64 0, .int .u64 0, .int .u64 0, .int .u64 0, .int .u64 0, .int .u64 0, .int .u64 0, .int .u64 0, .int .u64 0, .int .u64 0, .int .u64 0, .int .u64 0, .int .u64 0] 25 (0, 0)) := by rw [← hW2]; exact (heap_setCell_ne W1 ⟨W.heap.size, 16, none⟩ _ (Nat.ne_of_lt hl2)).trans d2
  have q2 : Below w.heap.size w W2 := by rw [← hW2]; exact (hbW.trans (hb1.mono hbW.size)).setCell (p := ⟨W.heap.size, 16, none⟩) (Nat.le_of_lt hl0) _
  have S5 : StAt W2 w.heap.size r pc := by unfold StAt; rw [hcs]; exact e0
  have HS4 := Lib.hid S4
  have HS5 := Lib.hid S5
  have c0 : W2.cell? ⟨w.heap.size + 1, 0, none⟩ = some (.int .i64 23) := by simp [World.cell?, e1]
  have HE1 := Lib.hid e1
  clear hW1 n1 hbW b0 b1 b2 S0 S3 z1 z2 hb1 d0 d1 d2 S4 S5
  go_enter Try.func24, Try.ntmps24
  go_wp2_with (first
    | (refine wpList_load_row rfl 25 _ rfl w.heap.size rfl 25 _ (0, 0) _ b0' Try.underlying25 rfl hsz ?_)
    | (refine wpList_store_row rfl 25 _ _ rfl W.heap.size cs rfl rfl 25 _ hn0 hsz (by rw [HQ.out]; rfl) hone ?_; rw [HW1.out]; refine Hid.out ?_))
  refine Lib.hid ?_
  have cnz : (Try.prog.info? 25).map (·.size) = some (stC r (nxI pc)).toArray.size := by rw [stC_size hr]; exact stInfo
  have cno := stC_one r (nxI pc)
  have cnq : Hid ((stC r (nxI pc)).toArray.size = 17) := stC_size hr
  obtain ⟨cn, cnE⟩ : ∃ c', (stC r (nxI pc)).toArray = c' := ⟨_, rfl⟩
  rw [cnE] at cnz cno cnq
  have e3 : W2.heap[W.heap.size]? = some (.cells cn 25 (0, 0)) := by rw [← cnE]; exact HS4.out
  have c1 : W2.cell? ⟨w.heap.size + 1, 1, none⟩ = some (.int .i64 a) := by simp [World.cell?, HE1.out]
  have ra := HS5.out.reg hr a ha
  have hai : (a : Int) < 16 := by omega
  have hxb : (r.getD a 0 == 0) = false := by simpa using hx
  generalize r.getD a 0 = xa at *
  go_wp2_with (first
    | (refine wpList_load_row rfl 25 _ rfl W.heap.size rfl 25 _ (0, 0) _ e3 Try.underlying25 rfl cnz ?_)
    | (refine wpList_store_row rfl 25 _ _ rfl (w.heap.size + 1 + 1) cn rfl rfl 25 _ e2 cnz (by rw [cnq.out]; rfl) cno ?_))
  refine bodyPost_ret (results_does _ _ (w.heap.size + 1 + 1) cn (.int .i64 0) rfl (heap_setRow _ _ _ _ _ e2) cnq.out rfl) rfl ⟨by rw [cnE], below_setRow q2 (by omega) cn⟩
set_option maxRecDepth 100000 in
set_option maxHeartbeats 4000000 in
theorem does_not_yesp (n : Int) (a b z : Nat) (r : List Int) (pc : Int) (sb : ByteArray) (w : World) (hng : ¬ n < 0) (hx : r.getD a 0 ≠ 0) (hreg : a < 16 ∧ b < 16 ∧ z < 16) (hk : okR r pc) :
    Calls Try.prog 24 #[.agg (stC r pc).toArray, .agg #[.int .i64 24, .int .i64 a, .int .i64 b, .int .i64 z, .int .i64 n], .string sb] w (DoesP w r (IntKind.u64.wrap (IntKind.u64.wrap (pc + 4) + IntKind.u64.wrap (wrap64 (4 * n)))) 0) := by
  have hr := hk.1
  obtain ⟨ha, hb, hz⟩ := hreg
  obtain ⟨cs, hcs⟩ : ∃ cs, (stC r pc).toArray = cs := ⟨_, rfl⟩
  rw [hcs]
  obtain ⟨W, hW⟩ : ∃ W, ((w.alloc (.cells cs 25)).alloc (.cells #[.int .i64 24, .int .i64 a, .int .i64 b, .int .i64 z, .int .i64 n] 61)).alloc (.cells #[.int .u64 0, .int .u64 0, .int .u64 0, .int .u64 0, .int .u64 0, .int .u64 0, .int .u64 0, .int .u64 0, .int .u64 0, .int .u64 0, .int .u64 0, .int .u64 0, .int .u64 0, .int .u64 0, .int .u64 0, .int .u64 0, .int .u64 0] 25) = W := ⟨_, rfl⟩
  have hbW : Below w.heap.size w W := by rw [← hW]; go_grown
  have z1 : (w.alloc (.cells cs 25)).heap.size = w.heap.size + 1 := by simp
  have z2 : ((w.alloc (.cells cs 25)).alloc (.cells #[.int .i64 24, .int .i64 a, .int .i64 b, .int .i64 z, .int .i64 n] 61)).heap.size = w.heap.size + 1 + 1 := by simp
  have b0 : W.heap[w.heap.size]? = some (.cells cs 25 (0, 0)) := by
    rw [← hW]; exact ((Lib.alloc_old _ _ _ (by simp; omega)).trans (Lib.alloc_old _ _ _ (by simp))).trans (heap_new _ _)
  have b1 : W.heap[w.heap.size + 1]? = some (.cells #[.int .i64 24, .int .i64 a, .int .i64 b, .int .i64 z, .int .i64 n] 61 (0, 0)) := by
    rw [← hW, ← z1]; exact (Lib.alloc_old _ _ _ (by simp)).trans (heap_new _ _)
  have b2 : W.heap[w.heap.size + 1 + 1]? = some (.cells #[.int .u64 0, .int .u64 0, .int .u64 0, .int .u64 0, .int .u64 0, .int .u64 0, .int .u64 0, .int .u64 0, .int .u64 0, .int .u64 0, .int .u64 0, .int .u64 0, .int .u64 0, .int .u64 0, .int .u64 0, .int .u64 0, .int .u64 0] 25 (0, 0)) := by
    rw [← hW, ← z2]; exact heap_new _ _
  have S0 : StAt W w.heap.size r pc := by unfold StAt; rw [hcs]; exact b0
  have hpc := S0.pc hr
  have b0' := b0
  have hsz : (Try.prog.info? 25).map (·.size) = some cs.size := by rw [← hcs, stC_size hr]; exact stInfo
  have hone : cs.all (·.oneCell') = true := by rw [← hcs]; exact stC_one _ _
  have HQ : Hid (cs.size = 17) := by simp only [Hid]; rw [← hcs]; exact stC_size hr
  have hk4 : W.cell? ⟨w.heap.size + 1, 4, none⟩ = some (.int .i64 n) := by simp [World.cell?, b1]
  have hl0 : w.heap.size < W.heap.size := (Array.getElem?_eq_some_iff.1 b0).1
  have hl1 : w.heap.size + 1 < W.heap.size := (Array.getElem?_eq_some_iff.1 b1).1
  have hl2 : w.heap.size + 1 + 1 < W.heap.size := (Array.getElem?_eq_some_iff.1 b2).1
  obtain ⟨W1, hW1, n1, hb1⟩ := state_laid W cs
  have hn0 := heap_new W (.cells #[.int .u64 0, .int .u64 0, .int .u64 0, .int .u64 0, .int .u64 0, .int .u64 0, .int .u64 0, .int .u64 0, .int .u64 0, .int .u64 0, .int .u64 0, .int .u64 0, .int .u64 0, .int .u64 0, .int .u64 0, .int .u64 0, .int .u64 0] 25)
  have HW1 := Lib.hid hW1
  have S3 : StAt W1 W.heap.size r pc := by unfold StAt; rw [hcs]; exact n1
  have d0 := (hb1.block _ S0.lt).trans b0
  have d1 := (hb1.block _ hl1).trans b1
  have d2 := (hb1.block _ hl2).trans b2
  have g1 := S3.pc hr
  have g2 := S3.froz 16
  have g3 := S3.lt
  obtain ⟨W2, hW2⟩ : ∃ W2, W1.setCell ⟨W.heap.size, 16, none⟩ (.int .u64 (IntKind.u64.wrap (pc + 4))) = W2 := ⟨_, rfl⟩
  have S4 : StAt W2 W.heap.size r (nxI pc) := by rw [← hW2]; exact S3.setPc hr _
  have e0 : W2.heap[w.heap.size]? = some (.cells cs 25 (0, 0)) := by rw [← hW2]; exact (heap_setCell_ne W1 ⟨W.heap.size, 16, none⟩ _ (Nat.ne_of_lt hl0)).trans d0
  have e1 : W2.heap[w.heap.size + 1]? = some (.cells #[.int .i64 24, .int .i64 a, .int .i64 b, .int .i64 z, .int .i64 n] 61 (0, 0)) := by rw [← hW2]; exact (heap_setCell_ne W1 ⟨W.heap.size, 16, none⟩ _ (Nat.ne_of_lt hl1)).trans d1
  have e2 : W2.heap[w.heap.size + 1 + 1]? = some (.cells #[.int .u64 0, .int .u64 0, .int .u64 0, .int .u64 0, .int .u64 0, .int .u64 0, .int .u64 0, .int .u64 0, .int .u64 0, .int .u64 0, .int .u64 0, .int .u64 0, .int .u64 0, .int .u64 0, .int .u64 0, .int .u64 0, .int .u64 0] 25 (0, 0)) := by rw [← hW2]; exact (heap_setCell_ne W1 ⟨W.heap.size, 16, none⟩ _ (Nat.ne_of_lt hl2)).trans d2
  have q2 : Below w.heap.size w W2 := by rw [← hW2]; exact (hbW.trans (hb1.mono hbW.size)).setCell (p := ⟨W.heap.size, 16, none⟩) (Nat.le_of_lt hl0) _
  have S5 : StAt W2 w.heap.size r pc := by unfold StAt; rw [hcs]; exact e0
  have HS4 := Lib.hid S4
  have HS5 := Lib.hid S5
  have c0 : W2.cell? ⟨w.heap.size + 1, 0, none⟩ = some (.int .i64 24) := by simp [World.cell?, e1]
  have HE1 := Lib.hid e1
  clear hW1 n1 hbW b0 b1 b2 S0 S3 z1 z2 hb1 d0 d1 d2 S4 S5
  go_enter Try.func24, Try.ntmps24
  go_wp2_with (first
    | (refine wpList_load_row rfl 25 _ rfl w.heap.size rfl 25 _ (0, 0) _ b0' Try.underlying25 rfl hsz ?_)
    | (refine wpList_store_row rfl 25 _ _ rfl W.heap.size cs rfl rfl 25 _ hn0 hsz (by rw [HQ.out]; rfl) hone ?_; rw [HW1.out]; refine Hid.out ?_))
  refine Lib.hid ?_
  have p1 := HS4.out.pc hr
  have p2 := HS4.out.froz 16
  have p3 := HS4.out.lt
  obtain ⟨W3, hW3⟩ : ∃ W3, W2.setCell ⟨W.heap.size, 16, none⟩ (.int .u64 (IntKind.u64.wrap (IntKind.u64.wrap (pc + 4) + IntKind.u64.wrap (wrap64 (4 * n))))) = W3 := ⟨_, rfl⟩
  have S6 : StAt W3 W.heap.size r (IntKind.u64.wrap (IntKind.u64.wrap (pc + 4) + IntKind.u64.wrap (wrap64 (4 * n)))) := by rw [← hW3]; exact HS4.out.setPc hr _
  have f2 : W3.heap[w.heap.size + 1 + 1]? = some (.cells #[.int .u64 0, .int .u64 0, .int .u64 0, .int .u64 0, .int .u64 0, .int .u64 0, .int .u64 0, .int .u64 0, .int .u64 0, .int .u64 0, .int .u64 0, .int .u64 0, .int .u64 0, .int .u64 0, .int .u64 0, .int .u64 0, .int .u64 0] 25 (0, 0)) := by rw [← hW3]; exact (heap_setCell_ne W2 ⟨W.heap.size, 16, none⟩ _ (Nat.ne_of_lt hl2)).trans e2
  have q3 : Below w.heap.size w W3 := by rw [← hW3]; exact q2.setCell (p := ⟨W.heap.size, 16, none⟩) (Nat.le_of_lt hl0) _
  have cnz : (Try.prog.info? 25).map (·.size) = some (stC r (IntKind.u64.wrap (IntKind.u64.wrap (pc + 4) + IntKind.u64.wrap (wrap64 (4 * n))))).toArray.size := by rw [stC_size hr]; exact stInfo
  have cno := stC_one r (IntKind.u64.wrap (IntKind.u64.wrap (pc + 4) + IntKind.u64.wrap (wrap64 (4 * n))))
  have cnq : Hid ((stC r (IntKind.u64.wrap (IntKind.u64.wrap (pc + 4) + IntKind.u64.wrap (wrap64 (4 * n))))).toArray.size = 17) := stC_size hr
  obtain ⟨cn, cnE⟩ : ∃ c', (stC r (IntKind.u64.wrap (IntKind.u64.wrap (pc + 4) + IntKind.u64.wrap (wrap64 (4 * n))))).toArray = c' := ⟨_, rfl⟩
  rw [cnE] at cnz cno cnq
  have e3 : W3.heap[W.heap.size]? = some (.cells cn 25 (0, 0)) := by rw [← cnE]; exact S6
  have c1 : W2.cell? ⟨w.heap.size + 1, 1, none⟩ = some (.int .i64 a) := by simp [World.cell?, HE1.out]
  have ra := HS5.out.reg hr a ha
  have hai : (a : Int) < 16 := by omega
  have hxb : (r.getD a 0 != 0) = true := by simpa using hx
  generalize r.getD a 0 = xa at *
  go_wp2_with (first
    | (refine wpList_load_row rfl 25 _ rfl W.heap.size rfl 25 _ (0, 0) _ e3 Try.underlying25 rfl cnz ?_)
    | (refine wpList_store_row rfl 25 _ _ rfl (w.heap.size + 1 + 1) cn rfl rfl 25 _ f2 cnz (by rw [cnq.out]; rfl) cno ?_))
  refine bodyPost_ret (results_does _ _ (w.heap.size + 1 + 1) cn (.int .i64 0) rfl (heap_setRow _ _ _ _ _ f2) cnq.out rfl) rfl ⟨by rw [cnE], below_setRow q3 (by omega) cn⟩
set_option maxRecDepth 100000 in
set_option maxHeartbeats 4000000 in
theorem does_not_nop (n : Int) (a b z : Nat) (r : List Int) (pc : Int) (sb : ByteArray) (w : World) (hng : ¬ n < 0) (hx : r.getD a 0 = 0) (hreg : a < 16 ∧ b < 16 ∧ z < 16) (hk : okR r pc) :
    Calls Try.prog 24 #[.agg (stC r pc).toArray, .agg #[.int .i64 24, .int .i64 a, .int .i64 b, .int .i64 z, .int .i64 n], .string sb] w (DoesP w r (nxI pc) 0) := by
  have hr := hk.1
  obtain ⟨ha, hb, hz⟩ := hreg
  obtain ⟨cs, hcs⟩ : ∃ cs, (stC r pc).toArray = cs := ⟨_, rfl⟩
  rw [hcs]
  obtain ⟨W, hW⟩ : ∃ W, ((w.alloc (.cells cs 25)).alloc (.cells #[.int .i64 24, .int .i64 a, .int .i64 b, .int .i64 z, .int .i64 n] 61)).alloc (.cells #[.int .u64 0, .int .u64 0, .int .u64 0, .int .u64 0, .int .u64 0, .int .u64 0, .int .u64 0, .int .u64 0, .int .u64 0, .int .u64 0, .int .u64 0, .int .u64 0, .int .u64 0, .int .u64 0, .int .u64 0, .int .u64 0, .int .u64 0] 25) = W := ⟨_, rfl⟩
  have hbW : Below w.heap.size w W := by rw [← hW]; go_grown
  have z1 : (w.alloc (.cells cs 25)).heap.size = w.heap.size + 1 := by simp
  have z2 : ((w.alloc (.cells cs 25)).alloc (.cells #[.int .i64 24, .int .i64 a, .int .i64 b, .int .i64 z, .int .i64 n] 61)).heap.size = w.heap.size + 1 + 1 := by simp
  have b0 : W.heap[w.heap.size]? = some (.cells cs 25 (0, 0)) := by
    rw [← hW]; exact ((Lib.alloc_old _ _ _ (by simp; omega)).trans (Lib.alloc_old _ _ _ (by simp))).trans (heap_new _ _)
  have b1 : W.heap[w.heap.size + 1]? = some (.cells #[.int .i64 24, .int .i64 a, .int .i64 b, .int .i64 z, .int .i64 n] 61 (0, 0)) := by
    rw [← hW, ← z1]; exact (Lib.alloc_old _ _ _ (by simp)).trans (heap_new _ _)
  have b2 : W.heap[w.heap.size + 1 + 1]? = some (.cells #[.int .u64 0, .int .u64 0, .int .u64 0, .int .u64 0, .int .u64 0, .int .u64 0, .int .u64 0, .int .u64 0, .int .u64 0, .int .u64 0, .int .u64 0, .int .u64 0, .int .u64 0, .int .u64 0, .int .u64 0, .int .u64 0, .int .u64 0] 25 (0, 0)) := by
    rw [← hW, ← z2]; exact heap_new _ _
  have S0 : StAt W w.heap.size r pc := by unfold StAt; rw [hcs]; exact b0
  have hpc := S0.pc hr
  have b0' := b0
  have hsz : (Try.prog.info? 25).map (·.size) = some cs.size := by rw [← hcs, stC_size hr]; exact stInfo
  have hone : cs.all (·.oneCell') = true := by rw [← hcs]; exact stC_one _ _
  have HQ : Hid (cs.size = 17) := by simp only [Hid]; rw [← hcs]; exact stC_size hr
  have hk4 : W.cell? ⟨w.heap.size + 1, 4, none⟩ = some (.int .i64 n) := by simp [World.cell?, b1]
  have hl0 : w.heap.size < W.heap.size := (Array.getElem?_eq_some_iff.1 b0).1
  have hl1 : w.heap.size + 1 < W.heap.size := (Array.getElem?_eq_some_iff.1 b1).1
  have hl2 : w.heap.size + 1 + 1 < W.heap.size := (Array.getElem?_eq_some_iff.1 b2).1
  obtain ⟨W1, hW1, n1, hb1⟩ := state_laid W cs
  have hn0 := heap_new W (.cells #[.int .u64 0, .int .u64 0, .int .u64 0, .int .u64 0, .int .u64 0, .int .u64 0, .int .u64 0, .int .u64 0, .int .u64 0, .int .u64 0, .int .u64 0, .int .u64 0, .int .u64 0, .int .u64 0, .int .u64 0, .int .u64 0, .int .u64 0] 25)
  have HW1 := Lib.hid hW1
  have S3 : StAt W1 W.heap.size r pc := by unfold StAt; rw [hcs]; exact n1
  have d0 := (hb1.block _ S0.lt).trans b0
  have d1 := (hb1.block _ hl1).trans b1
  have d2 := (hb1.block _ hl2).trans b2
  have g1 := S3.pc hr
  have g2 := S3.froz 16
  have g3 := S3.lt
  obtain ⟨W2, hW2⟩ : ∃ W2, W1.setCell ⟨W.heap.size, 16, none⟩ (.int .u64 (IntKind.u64.wrap (pc + 4))) = W2 := ⟨_, rfl⟩
  have S4 : StAt W2 W.heap.size r (nxI pc) := by rw [← hW2]; exact S3.setPc hr _
  have e0 : W2.heap[w.heap.size]? = some (.cells cs 25 (0, 0)) := by rw [← hW2]; exact (heap_setCell_ne W1 ⟨W.heap.size, 16, none⟩ _ (Nat.ne_of_lt hl0)).trans d0
  have e1 : W2.heap[w.heap.size + 1]? = some (.cells #[.int .i64 24, .int .i64 a, .int .i64 b, .int .i64 z, .int .i64 n] 61 (0, 0)) := by rw [← hW2]; exact (heap_setCell_ne W1 ⟨W.heap.size, 16, none⟩ _ (Nat.ne_of_lt hl1)).trans d1
  have e2 : W2.heap[w.heap.size + 1 + 1]? = some (.cells #[.int .u64 0, .int .u64 0, .int .u64 0, .int .u64 0, .int .u64 0, .int .u64 0, .int .u64 0, .int .u64 0, .int .u64 0, .int .u64 0, .int .u64 0, .int .u64 0, .int .u64 0, .int .u64 0, .int .u64 0, .int .u64 0, .int .u64 0] 25 (0, 0)) := by rw [← hW2]; exact (heap_setCell_ne W1 ⟨W.heap.size, 16, none⟩ _ (Nat.ne_of_lt hl2)).trans d2
  have q2 : Below w.heap.size w W2 := by rw [← hW2]; exact (hbW.trans (hb1.mono hbW.size)).setCell (p := ⟨W.heap.size, 16, none⟩) (Nat.le_of_lt hl0) _
  have S5 : StAt W2 w.heap.size r pc := by unfold StAt; rw [hcs]; exact e0
  have HS4 := Lib.hid S4
  have HS5 := Lib.hid S5
  have c0 : W2.cell? ⟨w.heap.size + 1, 0, none⟩ = some (.int .i64 24) := by simp [World.cell?, e1]
  have HE1 := Lib.hid e1
  clear hW1 n1 hbW b0 b1 b2 S0 S3 z1 z2 hb1 d0 d1 d2 S4 S5
  go_enter Try.func24, Try.ntmps24
  go_wp2_with (first
    | (refine wpList_load_row rfl 25 _ rfl w.heap.size rfl 25 _ (0, 0) _ b0' Try.underlying25 rfl hsz ?_)
    | (refine wpList_store_row rfl 25 _ _ rfl W.heap.size cs rfl rfl 25 _ hn0 hsz (by rw [HQ.out]; rfl) hone ?_; rw [HW1.out]; refine Hid.out ?_))
  refine Lib.hid ?_
  have cnz : (Try.prog.info? 25).map (·.size) = some (stC r (nxI pc)).toArray.size := by rw [stC_size hr]; exact stInfo
  have cno := stC_one r (nxI pc)
  have cnq : Hid ((stC r (nxI pc)).toArray.size = 17) := stC_size hr
  obtain ⟨cn, cnE⟩ : ∃ c', (stC r (nxI pc)).toArray = c' := ⟨_, rfl⟩
  rw [cnE] at cnz cno cnq
  have e3 : W2.heap[W.heap.size]? = some (.cells cn 25 (0, 0)) := by rw [← cnE]; exact HS4.out
  have c1 : W2.cell? ⟨w.heap.size + 1, 1, none⟩ = some (.int .i64 a) := by simp [World.cell?, HE1.out]
  have ra := HS5.out.reg hr a ha
  have hai : (a : Int) < 16 := by omega
  rw [hx] at ra
  go_wp2_with (first
    | (refine wpList_load_row rfl 25 _ rfl W.heap.size rfl 25 _ (0, 0) _ e3 Try.underlying25 rfl cnz ?_)
    | (refine wpList_store_row rfl 25 _ _ rfl (w.heap.size + 1 + 1) cn rfl rfl 25 _ e2 cnz (by rw [cnq.out]; rfl) cno ?_))
  refine bodyPost_ret (results_does _ _ (w.heap.size + 1 + 1) cn (.int .i64 0) rfl (heap_setRow _ _ _ _ _ e2) cnq.out rfl) rfl ⟨by rw [cnE], below_setRow q2 (by omega) cn⟩
set_option maxRecDepth 100000 in
set_option maxHeartbeats 4000000 in
theorem does_gon (n : Int) (a b z : Nat) (r : List Int) (pc : Int) (sb : ByteArray) (w : World) (hng : n < 0) (hreg : a < 16 ∧ b < 16 ∧ z < 16) (hk : okR r pc) :
    Calls Try.prog 24 #[.agg (stC r pc).toArray, .agg #[.int .i64 22, .int .i64 a, .int .i64 b, .int .i64 z, .int .i64 n], .string sb] w (DoesP w r (IntKind.u64.wrap (IntKind.u64.wrap (pc + 4) - IntKind.u64.wrap (wrap64 (-4 * n)))) 0) := by
  have hr := hk.1
  obtain ⟨ha, hb, hz⟩ := hreg
  obtain ⟨cs, hcs⟩ : ∃ cs, (stC r pc).toArray = cs := ⟨_, rfl⟩
  rw [hcs]
  obtain ⟨W, hW⟩ : ∃ W, ((w.alloc (.cells cs 25)).alloc (.cells #[.int .i64 22, .int .i64 a, .int .i64 b, .int .i64 z, .int .i64 n] 61)).alloc (.cells #[.int .u64 0, .int .u64 0, .int .u64 0, .int .u64 0, .int .u64 0, .int .u64 0, .int .u64 0, .int .u64 0, .int .u64 0, .int .u64 0, .int .u64 0, .int .u64 0, .int .u64 0, .int .u64 0, .int .u64 0, .int .u64 0, .int .u64 0] 25) = W := ⟨_, rfl⟩
  have hbW : Below w.heap.size w W := by rw [← hW]; go_grown
  have z1 : (w.alloc (.cells cs 25)).heap.size = w.heap.size + 1 := by simp
  have z2 : ((w.alloc (.cells cs 25)).alloc (.cells #[.int .i64 22, .int .i64 a, .int .i64 b, .int .i64 z, .int .i64 n] 61)).heap.size = w.heap.size + 1 + 1 := by simp
  have b0 : W.heap[w.heap.size]? = some (.cells cs 25 (0, 0)) := by
    rw [← hW]; exact ((Lib.alloc_old _ _ _ (by simp; omega)).trans (Lib.alloc_old _ _ _ (by simp))).trans (heap_new _ _)
  have b1 : W.heap[w.heap.size + 1]? = some (.cells #[.int .i64 22, .int .i64 a, .int .i64 b, .int .i64 z, .int .i64 n] 61 (0, 0)) := by
    rw [← hW, ← z1]; exact (Lib.alloc_old _ _ _ (by simp)).trans (heap_new _ _)
  have b2 : W.heap[w.heap.size + 1 + 1]? = some (.cells #[.int .u64 0, .int .u64 0, .int .u64 0, .int .u64 0, .int .u64 0, .int .u64 0, .int .u64 0, .int .u64 0, .int .u64 0, .int .u64 0, .int .u64 0, .int .u64 0, .int .u64 0, .int .u64 0, .int .u64 0, .int .u64 0, .int .u64 0] 25 (0, 0)) := by
    rw [← hW, ← z2]; exact heap_new _ _
  have S0 : StAt W w.heap.size r pc := by unfold StAt; rw [hcs]; exact b0
  have hpc := S0.pc hr
  have b0' := b0
  have hsz : (Try.prog.info? 25).map (·.size) = some cs.size := by rw [← hcs, stC_size hr]; exact stInfo
  have hone : cs.all (·.oneCell') = true := by rw [← hcs]; exact stC_one _ _
  have HQ : Hid (cs.size = 17) := by simp only [Hid]; rw [← hcs]; exact stC_size hr
  have hk4 : W.cell? ⟨w.heap.size + 1, 4, none⟩ = some (.int .i64 n) := by simp [World.cell?, b1]
  have hl0 : w.heap.size < W.heap.size := (Array.getElem?_eq_some_iff.1 b0).1
  have hl1 : w.heap.size + 1 < W.heap.size := (Array.getElem?_eq_some_iff.1 b1).1
  have hl2 : w.heap.size + 1 + 1 < W.heap.size := (Array.getElem?_eq_some_iff.1 b2).1
  obtain ⟨W1, hW1, n1, hb1⟩ := state_laid W cs
  have hn0 := heap_new W (.cells #[.int .u64 0, .int .u64 0, .int .u64 0, .int .u64 0, .int .u64 0, .int .u64 0, .int .u64 0, .int .u64 0, .int .u64 0, .int .u64 0, .int .u64 0, .int .u64 0, .int .u64 0, .int .u64 0, .int .u64 0, .int .u64 0, .int .u64 0] 25)
  have HW1 := Lib.hid hW1
  have S3 : StAt W1 W.heap.size r pc := by unfold StAt; rw [hcs]; exact n1
  have d0 := (hb1.block _ S0.lt).trans b0
  have d1 := (hb1.block _ hl1).trans b1
  have d2 := (hb1.block _ hl2).trans b2
  have g1 := S3.pc hr
  have g2 := S3.froz 16
  have g3 := S3.lt
  obtain ⟨W2, hW2⟩ : ∃ W2, W1.setCell ⟨W.heap.size, 16, none⟩ (.int .u64 (IntKind.u64.wrap (pc + 4))) = W2 := ⟨_, rfl⟩
  have S4 : StAt W2 W.heap.size r (nxI pc) := by rw [← hW2]; exact S3.setPc hr _
  have e0 : W2.heap[w.heap.size]? = some (.cells cs 25 (0, 0)) := by rw [← hW2]; exact (heap_setCell_ne W1 ⟨W.heap.size, 16, none⟩ _ (Nat.ne_of_lt hl0)).trans d0
  have e1 : W2.heap[w.heap.size + 1]? = some (.cells #[.int .i64 22, .int .i64 a, .int .i64 b, .int .i64 z, .int .i64 n] 61 (0, 0)) := by rw [← hW2]; exact (heap_setCell_ne W1 ⟨W.heap.size, 16, none⟩ _ (Nat.ne_of_lt hl1)).trans d1
  have e2 : W2.heap[w.heap.size + 1 + 1]? = some (.cells #[.int .u64 0, .int .u64 0, .int .u64 0, .int .u64 0, .int .u64 0, .int .u64 0, .int .u64 0, .int .u64 0, .int .u64 0, .int .u64 0, .int .u64 0, .int .u64 0, .int .u64 0, .int .u64 0, .int .u64 0, .int .u64 0, .int .u64 0] 25 (0, 0)) := by rw [← hW2]; exact (heap_setCell_ne W1 ⟨W.heap.size, 16, none⟩ _ (Nat.ne_of_lt hl2)).trans d2
  have q2 : Below w.heap.size w W2 := by rw [← hW2]; exact (hbW.trans (hb1.mono hbW.size)).setCell (p := ⟨W.heap.size, 16, none⟩) (Nat.le_of_lt hl0) _
  have S5 : StAt W2 w.heap.size r pc := by unfold StAt; rw [hcs]; exact e0
  have HS4 := Lib.hid S4
  have HS5 := Lib.hid S5
  have c0 : W2.cell? ⟨w.heap.size + 1, 0, none⟩ = some (.int .i64 22) := by simp [World.cell?, e1]
  have HE1 := Lib.hid e1
  clear hW1 n1 hbW b0 b1 b2 S0 S3 z1 z2 hb1 d0 d1 d2 S4 S5
  go_enter Try.func24, Try.ntmps24
  go_wp2_with (first
    | (refine wpList_load_row rfl 25 _ rfl w.heap.size rfl 25 _ (0, 0) _ b0' Try.underlying25 rfl hsz ?_)
    | (refine wpList_store_row rfl 25 _ _ rfl W.heap.size cs rfl rfl 25 _ hn0 hsz (by rw [HQ.out]; rfl) hone ?_; rw [HW1.out]; refine Hid.out ?_))
  refine Lib.hid ?_
  have p1 := HS4.out.pc hr
  have p2 := HS4.out.froz 16
  have p3 := HS4.out.lt
  obtain ⟨W3, hW3⟩ : ∃ W3, W2.setCell ⟨W.heap.size, 16, none⟩ (.int .u64 (IntKind.u64.wrap (IntKind.u64.wrap (pc + 4) - IntKind.u64.wrap (wrap64 (-4 * n))))) = W3 := ⟨_, rfl⟩
  have S6 : StAt W3 W.heap.size r (IntKind.u64.wrap (IntKind.u64.wrap (pc + 4) - IntKind.u64.wrap (wrap64 (-4 * n)))) := by rw [← hW3]; exact HS4.out.setPc hr _
  have f2 : W3.heap[w.heap.size + 1 + 1]? = some (.cells #[.int .u64 0, .int .u64 0, .int .u64 0, .int .u64 0, .int .u64 0, .int .u64 0, .int .u64 0, .int .u64 0, .int .u64 0, .int .u64 0, .int .u64 0, .int .u64 0, .int .u64 0, .int .u64 0, .int .u64 0, .int .u64 0, .int .u64 0] 25 (0, 0)) := by rw [← hW3]; exact (heap_setCell_ne W2 ⟨W.heap.size, 16, none⟩ _ (Nat.ne_of_lt hl2)).trans e2
  have q3 : Below w.heap.size w W3 := by rw [← hW3]; exact q2.setCell (p := ⟨W.heap.size, 16, none⟩) (Nat.le_of_lt hl0) _
  have cnz : (Try.prog.info? 25).map (·.size) = some (stC r (IntKind.u64.wrap (IntKind.u64.wrap (pc + 4) - IntKind.u64.wrap (wrap64 (-4 * n))))).toArray.size := by rw [stC_size hr]; exact stInfo
  have cno := stC_one r (IntKind.u64.wrap (IntKind.u64.wrap (pc + 4) - IntKind.u64.wrap (wrap64 (-4 * n))))
  have cnq : Hid ((stC r (IntKind.u64.wrap (IntKind.u64.wrap (pc + 4) - IntKind.u64.wrap (wrap64 (-4 * n))))).toArray.size = 17) := stC_size hr
  obtain ⟨cn, cnE⟩ : ∃ c', (stC r (IntKind.u64.wrap (IntKind.u64.wrap (pc + 4) - IntKind.u64.wrap (wrap64 (-4 * n))))).toArray = c' := ⟨_, rfl⟩
  rw [cnE] at cnz cno cnq
  have e3 : W3.heap[W.heap.size]? = some (.cells cn 25 (0, 0)) := by rw [← cnE]; exact S6
  go_wp2_with (first
    | (refine wpList_load_row rfl 25 _ rfl W.heap.size rfl 25 _ (0, 0) _ e3 Try.underlying25 rfl cnz ?_)
    | (refine wpList_store_row rfl 25 _ _ rfl (w.heap.size + 1 + 1) cn rfl rfl 25 _ f2 cnz (by rw [cnq.out]; rfl) cno ?_))
  refine bodyPost_ret (results_does _ _ (w.heap.size + 1 + 1) cn (.int .i64 0) rfl (heap_setRow _ _ _ _ _ f2) cnq.out rfl) rfl ⟨by rw [cnE], below_setRow q3 (by omega) cn⟩
set_option maxRecDepth 100000 in
set_option maxHeartbeats 4000000 in
theorem does_zero_yesn (n : Int) (a b z : Nat) (r : List Int) (pc : Int) (sb : ByteArray) (w : World) (hng : n < 0) (hx : r.getD a 0 = 0) (hreg : a < 16 ∧ b < 16 ∧ z < 16) (hk : okR r pc) :
    Calls Try.prog 24 #[.agg (stC r pc).toArray, .agg #[.int .i64 23, .int .i64 a, .int .i64 b, .int .i64 z, .int .i64 n], .string sb] w (DoesP w r (IntKind.u64.wrap (IntKind.u64.wrap (pc + 4) - IntKind.u64.wrap (wrap64 (-4 * n)))) 0) := by
  have hr := hk.1
  obtain ⟨ha, hb, hz⟩ := hreg
  obtain ⟨cs, hcs⟩ : ∃ cs, (stC r pc).toArray = cs := ⟨_, rfl⟩
  rw [hcs]
  obtain ⟨W, hW⟩ : ∃ W, ((w.alloc (.cells cs 25)).alloc (.cells #[.int .i64 23, .int .i64 a, .int .i64 b, .int .i64 z, .int .i64 n] 61)).alloc (.cells #[.int .u64 0, .int .u64 0, .int .u64 0, .int .u64 0, .int .u64 0, .int .u64 0, .int .u64 0, .int .u64 0, .int .u64 0, .int .u64 0, .int .u64 0, .int .u64 0, .int .u64 0, .int .u64 0, .int .u64 0, .int .u64 0, .int .u64 0] 25) = W := ⟨_, rfl⟩
  have hbW : Below w.heap.size w W := by rw [← hW]; go_grown
  have z1 : (w.alloc (.cells cs 25)).heap.size = w.heap.size + 1 := by simp
  have z2 : ((w.alloc (.cells cs 25)).alloc (.cells #[.int .i64 23, .int .i64 a, .int .i64 b, .int .i64 z, .int .i64 n] 61)).heap.size = w.heap.size + 1 + 1 := by simp
  have b0 : W.heap[w.heap.size]? = some (.cells cs 25 (0, 0)) := by
    rw [← hW]; exact ((Lib.alloc_old _ _ _ (by simp; omega)).trans (Lib.alloc_old _ _ _ (by simp))).trans (heap_new _ _)
  have b1 : W.heap[w.heap.size + 1]? = some (.cells #[.int .i64 23, .int .i64 a, .int .i64 b, .int .i64 z, .int .i64 n] 61 (0, 0)) := by
    rw [← hW, ← z1]; exact (Lib.alloc_old _ _ _ (by simp)).trans (heap_new _ _)
  have b2 : W.heap[w.heap.size + 1 + 1]? = some (.cells #[.int .u64 0, .int .u64 0, .int .u64 0, .int .u64 0, .int .u64 0, .int .u64 0, .int .u64 0, .int .u64 0, .int .u64 0, .int .u64 0, .int .u64 0, .int .u64 0, .int .u64 0, .int .u64 0, .int .u64 0, .int .u64 0, .int .u64 0] 25 (0, 0)) := by
    rw [← hW, ← z2]; exact heap_new _ _
  have S0 : StAt W w.heap.size r pc := by unfold StAt; rw [hcs]; exact b0
  have hpc := S0.pc hr
  have b0' := b0
  have hsz : (Try.prog.info? 25).map (·.size) = some cs.size := by rw [← hcs, stC_size hr]; exact stInfo
  have hone : cs.all (·.oneCell') = true := by rw [← hcs]; exact stC_one _ _
  have HQ : Hid (cs.size = 17) := by simp only [Hid]; rw [← hcs]; exact stC_size hr
  have hk4 : W.cell? ⟨w.heap.size + 1, 4, none⟩ = some (.int .i64 n) := by simp [World.cell?, b1]
  have hl0 : w.heap.size < W.heap.size := (Array.getElem?_eq_some_iff.1 b0).1
  have hl1 : w.heap.size + 1 < W.heap.size := (Array.getElem?_eq_some_iff.1 b1).1
  have hl2 : w.heap.size + 1 + 1 < W.heap.size := (Array.getElem?_eq_some_iff.1 b2).1
  obtain ⟨W1, hW1, n1, hb1⟩ := state_laid W cs
  have hn0 := heap_new W (.cells #[.int .u64 0, .int .u64 0, .int .u64 0, .int .u64 0, .int .u64 0, .int .u64 0, .int .u64 0, .int .u64 0, .int .u64 0, .int .u64 0, .int .u64 0, .int .u64 0, .int .u64 0, .int .u64 0, .int .u64 0, .int .u64 0, .int .u64 0] 25)
  have HW1 := Lib.hid hW1
  have S3 : StAt W1 W.heap.size r pc := by unfold StAt; rw [hcs]; exact n1
  have d0 := (hb1.block _ S0.lt).trans b0
  have d1 := (hb1.block _ hl1).trans b1
  have d2 := (hb1.block _ hl2).trans b2
  have g1 := S3.pc hr
  have g2 := S3.froz 16
  have g3 := S3.lt
  obtain ⟨W2, hW2⟩ : ∃ W2, W1.setCell ⟨W.heap.size, 16, none⟩ (.int .u64 (IntKind.u64.wrap (pc + 4))) = W2 := ⟨_, rfl⟩
  have S4 : StAt W2 W.heap.size r (nxI pc) := by rw [← hW2]; exact S3.setPc hr _
  have e0 : W2.heap[w.heap.size]? = some (.cells cs 25 (0, 0)) := by rw [← hW2]; exact (heap_setCell_ne W1 ⟨W.heap.size, 16, none⟩ _ (Nat.ne_of_lt hl0)).trans d0
  have e1 : W2.heap[w.heap.size + 1]? = some (.cells #[.int .i64 23, .int .i64 a, .int .i64 b, .int .i64 z, .int .i64 n] 61 (0, 0)) := by rw [← hW2]; exact (heap_setCell_ne W1 ⟨W.heap.size, 16, none⟩ _ (Nat.ne_of_lt hl1)).trans d1
  have e2 : W2.heap[w.heap.size + 1 + 1]? = some (.cells #[.int .u64 0, .int .u64 0, .int .u64 0, .int .u64 0, .int .u64 0, .int .u64 0, .int .u64 0, .int .u64 0, .int .u64 0, .int .u64 0, .int .u64 0, .int .u64 0, .int .u64 0, .int .u64 0, .int .u64 0, .int .u64 0, .int .u64 0] 25 (0, 0)) := by rw [← hW2]; exact (heap_setCell_ne W1 ⟨W.heap.size, 16, none⟩ _ (Nat.ne_of_lt hl2)).trans d2
  have q2 : Below w.heap.size w W2 := by rw [← hW2]; exact (hbW.trans (hb1.mono hbW.size)).setCell (p := ⟨W.heap.size, 16, none⟩) (Nat.le_of_lt hl0) _
  have S5 : StAt W2 w.heap.size r pc := by unfold StAt; rw [hcs]; exact e0
  have HS4 := Lib.hid S4
  have HS5 := Lib.hid S5
  have c0 : W2.cell? ⟨w.heap.size + 1, 0, none⟩ = some (.int .i64 23) := by simp [World.cell?, e1]
  have HE1 := Lib.hid e1
  clear hW1 n1 hbW b0 b1 b2 S0 S3 z1 z2 hb1 d0 d1 d2 S4 S5
  go_enter Try.func24, Try.ntmps24
  go_wp2_with (first
    | (refine wpList_load_row rfl 25 _ rfl w.heap.size rfl 25 _ (0, 0) _ b0' Try.underlying25 rfl hsz ?_)
    | (refine wpList_store_row rfl 25 _ _ rfl W.heap.size cs rfl rfl 25 _ hn0 hsz (by rw [HQ.out]; rfl) hone ?_; rw [HW1.out]; refine Hid.out ?_))
  refine Lib.hid ?_
  have p1 := HS4.out.pc hr
  have p2 := HS4.out.froz 16
  have p3 := HS4.out.lt
  obtain ⟨W3, hW3⟩ : ∃ W3, W2.setCell ⟨W.heap.size, 16, none⟩ (.int .u64 (IntKind.u64.wrap (IntKind.u64.wrap (pc + 4) - IntKind.u64.wrap (wrap64 (-4 * n))))) = W3 := ⟨_, rfl⟩
  have S6 : StAt W3 W.heap.size r (IntKind.u64.wrap (IntKind.u64.wrap (pc + 4) - IntKind.u64.wrap (wrap64 (-4 * n)))) := by rw [← hW3]; exact HS4.out.setPc hr _
  have f2 : W3.heap[w.heap.size + 1 + 1]? = some (.cells #[.int .u64 0, .int .u64 0, .int .u64 0, .int .u64 0, .int .u64 0, .int .u64 0, .int .u64 0, .int .u64 0, .int .u64 0, .int .u64 0, .int .u64 0, .int .u64 0, .int .u64 0, .int .u64 0, .int .u64 0, .int .u64 0, .int .u64 0] 25 (0, 0)) := by rw [← hW3]; exact (heap_setCell_ne W2 ⟨W.heap.size, 16, none⟩ _ (Nat.ne_of_lt hl2)).trans e2
  have q3 : Below w.heap.size w W3 := by rw [← hW3]; exact q2.setCell (p := ⟨W.heap.size, 16, none⟩) (Nat.le_of_lt hl0) _
  have cnz : (Try.prog.info? 25).map (·.size) = some (stC r (IntKind.u64.wrap (IntKind.u64.wrap (pc + 4) - IntKind.u64.wrap (wrap64 (-4 * n))))).toArray.size := by rw [stC_size hr]; exact stInfo
  have cno := stC_one r (IntKind.u64.wrap (IntKind.u64.wrap (pc + 4) - IntKind.u64.wrap (wrap64 (-4 * n))))
  have cnq : Hid ((stC r (IntKind.u64.wrap (IntKind.u64.wrap (pc + 4) - IntKind.u64.wrap (wrap64 (-4 * n))))).toArray.size = 17) := stC_size hr
  obtain ⟨cn, cnE⟩ : ∃ c', (stC r (IntKind.u64.wrap (IntKind.u64.wrap (pc + 4) - IntKind.u64.wrap (wrap64 (-4 * n))))).toArray = c' := ⟨_, rfl⟩
  rw [cnE] at cnz cno cnq
  have e3 : W3.heap[W.heap.size]? = some (.cells cn 25 (0, 0)) := by rw [← cnE]; exact S6
  have c1 : W2.cell? ⟨w.heap.size + 1, 1, none⟩ = some (.int .i64 a) := by simp [World.cell?, HE1.out]
  have ra := HS5.out.reg hr a ha
  have hai : (a : Int) < 16 := by omega
  rw [hx] at ra
  go_wp2_with (first
    | (refine wpList_load_row rfl 25 _ rfl W.heap.size rfl 25 _ (0, 0) _ e3 Try.underlying25 rfl cnz ?_)
    | (refine wpList_store_row rfl 25 _ _ rfl (w.heap.size + 1 + 1) cn rfl rfl 25 _ f2 cnz (by rw [cnq.out]; rfl) cno ?_))
  refine bodyPost_ret (results_does _ _ (w.heap.size + 1 + 1) cn (.int .i64 0) rfl (heap_setRow _ _ _ _ _ f2) cnq.out rfl) rfl ⟨by rw [cnE], below_setRow q3 (by omega) cn⟩
set_option maxRecDepth 100000 in
set_option maxHeartbeats 4000000 in
theorem does_zero_non (n : Int) (a b z : Nat) (r : List Int) (pc : Int) (sb : ByteArray) (w : World) (hng : n < 0) (hx : r.getD a 0 ≠ 0) (hreg : a < 16 ∧ b < 16 ∧ z < 16) (hk : okR r pc) :
    Calls Try.prog 24 #[.agg (stC r pc).toArray, .agg #[.int .i64 23, .int .i64 a, .int .i64 b, .int .i64 z, .int .i64 n], .string sb] w (DoesP w r (nxI pc) 0) := by
  have hr := hk.1
  obtain ⟨ha, hb, hz⟩ := hreg
  obtain ⟨cs, hcs⟩ : ∃ cs, (stC r pc).toArray = cs := ⟨_, rfl⟩
  rw [hcs]
  obtain ⟨W, hW⟩ : ∃ W, ((w.alloc (.cells cs 25)).alloc (.cells #[.int .i64 23, .int .i64 a, .int .i64 b, .int .i64 z, .int .i64 n] 61)).alloc (.cells #[.int .u64 0, .int .u64 0, .int .u64 0, .int .u64 0, .int .u64 0, .int .u64 0, .int .u64 0, .int .u64 0, .int .u64 0, .int .u64 0, .int .u64 0, .int .u64 0, .int .u64 0, .int .u64 0, .int .u64 0, .int .u64 0, .int .u64 0] 25) = W := ⟨_, rfl⟩
  have hbW : Below w.heap.size w W := by rw [← hW]; go_grown
  have z1 : (w.alloc (.cells cs 25)).heap.size = w.heap.size + 1 := by simp
  have z2 : ((w.alloc (.cells cs 25)).alloc (.cells #[.int .i64 23, .int .i64 a, .int .i64 b, .int .i64 z, .int .i64 n] 61)).heap.size = w.heap.size + 1 + 1 := by simp
  have b0 : W.heap[w.heap.size]? = some (.cells cs 25 (0, 0)) := by
    rw [← hW]; exact ((Lib.alloc_old _ _ _ (by simp; omega)).trans (Lib.alloc_old _ _ _ (by simp))).trans (heap_new _ _)
  have b1 : W.heap[w.heap.size + 1]? = some (.cells #[.int .i64 23, .int .i64 a, .int .i64 b, .int .i64 z, .int .i64 n] 61 (0, 0)) := by
    rw [← hW, ← z1]; exact (Lib.alloc_old _ _ _ (by simp)).trans (heap_new _ _)
  have b2 : W.heap[w.heap.size + 1 + 1]? = some (.cells #[.int .u64 0, .int .u64 0, .int .u64 0, .int .u64 0, .int .u64 0, .int .u64 0, .int .u64 0, .int .u64 0, .int .u64 0, .int .u64 0, .int .u64 0, .int .u64 0, .int .u64 0, .int .u64 0, .int .u64 0, .int .u64 0, .int .u64 0] 25 (0, 0)) := by
    rw [← hW, ← z2]; exact heap_new _ _
  have S0 : StAt W w.heap.size r pc := by unfold StAt; rw [hcs]; exact b0
  have hpc := S0.pc hr
  have b0' := b0
  have hsz : (Try.prog.info? 25).map (·.size) = some cs.size := by rw [← hcs, stC_size hr]; exact stInfo
  have hone : cs.all (·.oneCell') = true := by rw [← hcs]; exact stC_one _ _
  have HQ : Hid (cs.size = 17) := by simp only [Hid]; rw [← hcs]; exact stC_size hr
  have hk4 : W.cell? ⟨w.heap.size + 1, 4, none⟩ = some (.int .i64 n) := by simp [World.cell?, b1]
  have hl0 : w.heap.size < W.heap.size := (Array.getElem?_eq_some_iff.1 b0).1
  have hl1 : w.heap.size + 1 < W.heap.size := (Array.getElem?_eq_some_iff.1 b1).1
  have hl2 : w.heap.size + 1 + 1 < W.heap.size := (Array.getElem?_eq_some_iff.1 b2).1
  obtain ⟨W1, hW1, n1, hb1⟩ := state_laid W cs
  have hn0 := heap_new W (.cells #[.int .u64 0, .int .u64 0, .int .u64 0, .int .u64 0, .int .u64 0, .int .u64 0, .int .u64 0, .int .u64 0, .int .u64 0, .int .u64 0, .int .u64 0, .int .u64 0, .int .u64 0, .int .u64 0, .int .u64 0, .int .u64 0, .int .u64 0] 25)
  have HW1 := Lib.hid hW1
  have S3 : StAt W1 W.heap.size r pc := by unfold StAt; rw [hcs]; exact n1
  have d0 := (hb1.block _ S0.lt).trans b0
  have d1 := (hb1.block _ hl1).trans b1
  have d2 := (hb1.block _ hl2).trans b2
  have g1 := S3.pc hr
  have g2 := S3.froz 16
  have g3 := S3.lt
  obtain ⟨W2, hW2⟩ : ∃ W2, W1.setCell ⟨W.heap.size, 16, none⟩ (.int .u64 (IntKind.u64.wrap (pc + 4))) = W2 := ⟨_, rfl⟩
  have S4 : StAt W2 W.heap.size r (nxI pc) := by rw [← hW2]; exact S3.setPc hr _
  have e0 : W2.heap[w.heap.size]? = some (.cells cs 25 (0, 0)) := by rw [← hW2]; exact (heap_setCell_ne W1 ⟨W.heap.size, 16, none⟩ _ (Nat.ne_of_lt hl0)).trans d0
  have e1 : W2.heap[w.heap.size + 1]? = some (.cells #[.int .i64 23, .int .i64 a, .int .i64 b, .int .i64 z, .int .i64 n] 61 (0, 0)) := by rw [← hW2]; exact (heap_setCell_ne W1 ⟨W.heap.size, 16, none⟩ _ (Nat.ne_of_lt hl1)).trans d1
  have e2 : W2.heap[w.heap.size + 1 + 1]? = some (.cells #[.int .u64 0, .int .u64 0, .int .u64 0, .int .u64 0, .int .u64 0, .int .u64 0, .int .u64 0, .int .u64 0, .int .u64 0, .int .u64 0, .int .u64 0, .int .u64 0, .int .u64 0, .int .u64 0, .int .u64 0, .int .u64 0, .int .u64 0] 25 (0, 0)) := by rw [← hW2]; exact (heap_setCell_ne W1 ⟨W.heap.size, 16, none⟩ _ (Nat.ne_of_lt hl2)).trans d2
  have q2 : Below w.heap.size w W2 := by rw [← hW2]; exact (hbW.trans (hb1.mono hbW.size)).setCell (p := ⟨W.heap.size, 16, none⟩) (Nat.le_of_lt hl0) _
  have S5 : StAt W2 w.heap.size r pc := by unfold StAt; rw [hcs]; exact e0
  have HS4 := Lib.hid S4
  have HS5 := Lib.hid S5
  have c0 : W2.cell? ⟨w.heap.size + 1, 0, none⟩ = some (.int .i64 23) := by simp [World.cell?, e1]
  have HE1 := Lib.hid e1
  clear hW1 n1 hbW b0 b1 b2 S0 S3 z1 z2 hb1 d0 d1 d2 S4 S5
  go_enter Try.func24, Try.ntmps24
  go_wp2_with (first
    | (refine wpList_load_row rfl 25 _ rfl w.heap.size rfl 25 _ (0, 0) _ b0' Try.underlying25 rfl hsz ?_)
    | (refine wpList_store_row rfl 25 _ _ rfl W.heap.size cs rfl rfl 25 _ hn0 hsz (by rw [HQ.out]; rfl) hone ?_; rw [HW1.out]; refine Hid.out ?_))
  refine Lib.hid ?_
  have cnz : (Try.prog.info? 25).map (·.size) = some (stC r (nxI pc)).toArray.size := by rw [stC_size hr]; exact stInfo
  have cno := stC_one r (nxI pc)
  have cnq : Hid ((stC r (nxI pc)).toArray.size = 17) := stC_size hr
  obtain ⟨cn, cnE⟩ : ∃ c', (stC r (nxI pc)).toArray = c' := ⟨_, rfl⟩
  rw [cnE] at cnz cno cnq
  have e3 : W2.heap[W.heap.size]? = some (.cells cn 25 (0, 0)) := by rw [← cnE]; exact HS4.out
  have c1 : W2.cell? ⟨w.heap.size + 1, 1, none⟩ = some (.int .i64 a) := by simp [World.cell?, HE1.out]
  have ra := HS5.out.reg hr a ha
  have hai : (a : Int) < 16 := by omega
  have hxb : (r.getD a 0 == 0) = false := by simpa using hx
  generalize r.getD a 0 = xa at *
  go_wp2_with (first
    | (refine wpList_load_row rfl 25 _ rfl W.heap.size rfl 25 _ (0, 0) _ e3 Try.underlying25 rfl cnz ?_)
    | (refine wpList_store_row rfl 25 _ _ rfl (w.heap.size + 1 + 1) cn rfl rfl 25 _ e2 cnz (by rw [cnq.out]; rfl) cno ?_))
  refine bodyPost_ret (results_does _ _ (w.heap.size + 1 + 1) cn (.int .i64 0) rfl (heap_setRow _ _ _ _ _ e2) cnq.out rfl) rfl ⟨by rw [cnE], below_setRow q2 (by omega) cn⟩
set_option maxRecDepth 100000 in
set_option maxHeartbeats 4000000 in
theorem does_not_yesn (n : Int) (a b z : Nat) (r : List Int) (pc : Int) (sb : ByteArray) (w : World) (hng : n < 0) (hx : r.getD a 0 ≠ 0) (hreg : a < 16 ∧ b < 16 ∧ z < 16) (hk : okR r pc) :
    Calls Try.prog 24 #[.agg (stC r pc).toArray, .agg #[.int .i64 24, .int .i64 a, .int .i64 b, .int .i64 z, .int .i64 n], .string sb] w (DoesP w r (IntKind.u64.wrap (IntKind.u64.wrap (pc + 4) - IntKind.u64.wrap (wrap64 (-4 * n)))) 0) := by
  have hr := hk.1
  obtain ⟨ha, hb, hz⟩ := hreg
  obtain ⟨cs, hcs⟩ : ∃ cs, (stC r pc).toArray = cs := ⟨_, rfl⟩
  rw [hcs]
  obtain ⟨W, hW⟩ : ∃ W, ((w.alloc (.cells cs 25)).alloc (.cells #[.int .i64 24, .int .i64 a, .int .i64 b, .int .i64 z, .int .i64 n] 61)).alloc (.cells #[.int .u64 0, .int .u64 0, .int .u64 0, .int .u64 0, .int .u64 0, .int .u64 0, .int .u64 0, .int .u64 0, .int .u64 0, .int .u64 0, .int .u64 0, .int .u64 0, .int .u64 0, .int .u64 0, .int .u64 0, .int .u64 0, .int .u64 0] 25) = W := ⟨_, rfl⟩
  have hbW : Below w.heap.size w W := by rw [← hW]; go_grown
  have z1 : (w.alloc (.cells cs 25)).heap.size = w.heap.size + 1 := by simp
  have z2 : ((w.alloc (.cells cs 25)).alloc (.cells #[.int .i64 24, .int .i64 a, .int .i64 b, .int .i64 z, .int .i64 n] 61)).heap.size = w.heap.size + 1 + 1 := by simp
  have b0 : W.heap[w.heap.size]? = some (.cells cs 25 (0, 0)) := by
    rw [← hW]; exact ((Lib.alloc_old _ _ _ (by simp; omega)).trans (Lib.alloc_old _ _ _ (by simp))).trans (heap_new _ _)
  have b1 : W.heap[w.heap.size + 1]? = some (.cells #[.int .i64 24, .int .i64 a, .int .i64 b, .int .i64 z, .int .i64 n] 61 (0, 0)) := by
    rw [← hW, ← z1]; exact (Lib.alloc_old _ _ _ (by simp)).trans (heap_new _ _)
  have b2 : W.heap[w.heap.size + 1 + 1]? = some (.cells #[.int .u64 0, .int .u64 0, .int .u64 0, .int .u64 0, .int .u64 0, .int .u64 0, .int .u64 0, .int .u64 0, .int .u64 0, .int .u64 0, .int .u64 0, .int .u64 0, .int .u64 0, .int .u64 0, .int .u64 0, .int .u64 0, .int .u64 0] 25 (0, 0)) := by
    rw [← hW, ← z2]; exact heap_new _ _
  have S0 : StAt W w.heap.size r pc := by unfold StAt; rw [hcs]; exact b0
  have hpc := S0.pc hr
  have b0' := b0
  have hsz : (Try.prog.info? 25).map (·.size) = some cs.size := by rw [← hcs, stC_size hr]; exact stInfo
  have hone : cs.all (·.oneCell') = true := by rw [← hcs]; exact stC_one _ _
  have HQ : Hid (cs.size = 17) := by simp only [Hid]; rw [← hcs]; exact stC_size hr
  have hk4 : W.cell? ⟨w.heap.size + 1, 4, none⟩ = some (.int .i64 n) := by simp [World.cell?, b1]
  have hl0 : w.heap.size < W.heap.size := (Array.getElem?_eq_some_iff.1 b0).1
  have hl1 : w.heap.size + 1 < W.heap.size := (Array.getElem?_eq_some_iff.1 b1).1
  have hl2 : w.heap.size + 1 + 1 < W.heap.size := (Array.getElem?_eq_some_iff.1 b2).1
  obtain ⟨W1, hW1, n1, hb1⟩ := state_laid W cs
  have hn0 := heap_new W (.cells #[.int .u64 0, .int .u64 0, .int .u64 0, .int .u64 0, .int .u64 0, .int .u64 0, .int .u64 0, .int .u64 0, .int .u64 0, .int .u64 0, .int .u64 0, .int .u64 0, .int .u64 0, .int .u64 0, .int .u64 0, .int .u64 0, .int .u64 0] 25)
  have HW1 := Lib.hid hW1
  have S3 : StAt W1 W.heap.size r pc := by unfold StAt; rw [hcs]; exact n1
  have d0 := (hb1.block _ S0.lt).trans b0
  have d1 := (hb1.block _ hl1).trans b1
  have d2 := (hb1.block _ hl2).trans b2
  have g1 := S3.pc hr
  have g2 := S3.froz 16
  have g3 := S3.lt
  obtain ⟨W2, hW2⟩ : ∃ W2, W1.setCell ⟨W.heap.size, 16, none⟩ (.int .u64 (IntKind.u64.wrap (pc + 4))) = W2 := ⟨_, rfl⟩
  have S4 : StAt W2 W.heap.size r (nxI pc) := by rw [← hW2]; exact S3.setPc hr _
  have e0 : W2.heap[w.heap.size]? = some (.cells cs 25 (0, 0)) := by rw [← hW2]; exact (heap_setCell_ne W1 ⟨W.heap.size, 16, none⟩ _ (Nat.ne_of_lt hl0)).trans d0
  have e1 : W2.heap[w.heap.size + 1]? = some (.cells #[.int .i64 24, .int .i64 a, .int .i64 b, .int .i64 z, .int .i64 n] 61 (0, 0)) := by rw [← hW2]; exact (heap_setCell_ne W1 ⟨W.heap.size, 16, none⟩ _ (Nat.ne_of_lt hl1)).trans d1
  have e2 : W2.heap[w.heap.size + 1 + 1]? = some (.cells #[.int .u64 0, .int .u64 0, .int .u64 0, .int .u64 0, .int .u64 0, .int .u64 0, .int .u64 0, .int .u64 0, .int .u64 0, .int .u64 0, .int .u64 0, .int .u64 0, .int .u64 0, .int .u64 0, .int .u64 0, .int .u64 0, .int .u64 0] 25 (0, 0)) := by rw [← hW2]; exact (heap_setCell_ne W1 ⟨W.heap.size, 16, none⟩ _ (Nat.ne_of_lt hl2)).trans d2
  have q2 : Below w.heap.size w W2 := by rw [← hW2]; exact (hbW.trans (hb1.mono hbW.size)).setCell (p := ⟨W.heap.size, 16, none⟩) (Nat.le_of_lt hl0) _
  have S5 : StAt W2 w.heap.size r pc := by unfold StAt; rw [hcs]; exact e0
  have HS4 := Lib.hid S4
  have HS5 := Lib.hid S5
  have c0 : W2.cell? ⟨w.heap.size + 1, 0, none⟩ = some (.int .i64 24) := by simp [World.cell?, e1]
  have HE1 := Lib.hid e1
  clear hW1 n1 hbW b0 b1 b2 S0 S3 z1 z2 hb1 d0 d1 d2 S4 S5
  go_enter Try.func24, Try.ntmps24
  go_wp2_with (first
    | (refine wpList_load_row rfl 25 _ rfl w.heap.size rfl 25 _ (0, 0) _ b0' Try.underlying25 rfl hsz ?_)
    | (refine wpList_store_row rfl 25 _ _ rfl W.heap.size cs rfl rfl 25 _ hn0 hsz (by rw [HQ.out]; rfl) hone ?_; rw [HW1.out]; refine Hid.out ?_))
  refine Lib.hid ?_
  have p1 := HS4.out.pc hr
  have p2 := HS4.out.froz 16
  have p3 := HS4.out.lt
  obtain ⟨W3, hW3⟩ : ∃ W3, W2.setCell ⟨W.heap.size, 16, none⟩ (.int .u64 (IntKind.u64.wrap (IntKind.u64.wrap (pc + 4) - IntKind.u64.wrap (wrap64 (-4 * n))))) = W3 := ⟨_, rfl⟩
  have S6 : StAt W3 W.heap.size r (IntKind.u64.wrap (IntKind.u64.wrap (pc + 4) - IntKind.u64.wrap (wrap64 (-4 * n)))) := by rw [← hW3]; exact HS4.out.setPc hr _
  have f2 : W3.heap[w.heap.size + 1 + 1]? = some (.cells #[.int .u64 0, .int .u64 0, .int .u64 0, .int .u64 0, .int .u64 0, .int .u64 0, .int .u64 0, .int .u64 0, .int .u64 0, .int .u64 0, .int .u64 0, .int .u64 0, .int .u64 0, .int .u64 0, .int .u64 0, .int .u64 0, .int .u64 0] 25 (0, 0)) := by rw [← hW3]; exact (heap_setCell_ne W2 ⟨W.heap.size, 16, none⟩ _ (Nat.ne_of_lt hl2)).trans e2
  have q3 : Below w.heap.size w W3 := by rw [← hW3]; exact q2.setCell (p := ⟨W.heap.size, 16, none⟩) (Nat.le_of_lt hl0) _
  have cnz : (Try.prog.info? 25).map (·.size) = some (stC r (IntKind.u64.wrap (IntKind.u64.wrap (pc + 4) - IntKind.u64.wrap (wrap64 (-4 * n))))).toArray.size := by rw [stC_size hr]; exact stInfo
  have cno := stC_one r (IntKind.u64.wrap (IntKind.u64.wrap (pc + 4) - IntKind.u64.wrap (wrap64 (-4 * n))))
  have cnq : Hid ((stC r (IntKind.u64.wrap (IntKind.u64.wrap (pc + 4) - IntKind.u64.wrap (wrap64 (-4 * n))))).toArray.size = 17) := stC_size hr
  obtain ⟨cn, cnE⟩ : ∃ c', (stC r (IntKind.u64.wrap (IntKind.u64.wrap (pc + 4) - IntKind.u64.wrap (wrap64 (-4 * n))))).toArray = c' := ⟨_, rfl⟩
  rw [cnE] at cnz cno cnq
  have e3 : W3.heap[W.heap.size]? = some (.cells cn 25 (0, 0)) := by rw [← cnE]; exact S6
  have c1 : W2.cell? ⟨w.heap.size + 1, 1, none⟩ = some (.int .i64 a) := by simp [World.cell?, HE1.out]
  have ra := HS5.out.reg hr a ha
  have hai : (a : Int) < 16 := by omega
  have hxb : (r.getD a 0 != 0) = true := by simpa using hx
  generalize r.getD a 0 = xa at *
  go_wp2_with (first
    | (refine wpList_load_row rfl 25 _ rfl W.heap.size rfl 25 _ (0, 0) _ e3 Try.underlying25 rfl cnz ?_)
    | (refine wpList_store_row rfl 25 _ _ rfl (w.heap.size + 1 + 1) cn rfl rfl 25 _ f2 cnz (by rw [cnq.out]; rfl) cno ?_))
  refine bodyPost_ret (results_does _ _ (w.heap.size + 1 + 1) cn (.int .i64 0) rfl (heap_setRow _ _ _ _ _ f2) cnq.out rfl) rfl ⟨by rw [cnE], below_setRow q3 (by omega) cn⟩
set_option maxRecDepth 100000 in
set_option maxHeartbeats 4000000 in
theorem does_not_non (n : Int) (a b z : Nat) (r : List Int) (pc : Int) (sb : ByteArray) (w : World) (hng : n < 0) (hx : r.getD a 0 = 0) (hreg : a < 16 ∧ b < 16 ∧ z < 16) (hk : okR r pc) :
    Calls Try.prog 24 #[.agg (stC r pc).toArray, .agg #[.int .i64 24, .int .i64 a, .int .i64 b, .int .i64 z, .int .i64 n], .string sb] w (DoesP w r (nxI pc) 0) := by
  have hr := hk.1
  obtain ⟨ha, hb, hz⟩ := hreg
  obtain ⟨cs, hcs⟩ : ∃ cs, (stC r pc).toArray = cs := ⟨_, rfl⟩
  rw [hcs]
  obtain ⟨W, hW⟩ : ∃ W, ((w.alloc (.cells cs 25)).alloc (.cells #[.int .i64 24, .int .i64 a, .int .i64 b, .int .i64 z, .int .i64 n] 61)).alloc (.cells #[.int .u64 0, .int .u64 0, .int .u64 0, .int .u64 0, .int .u64 0, .int .u64 0, .int .u64 0, .int .u64 0, .int .u64 0, .int .u64 0, .int .u64 0, .int .u64 0, .int .u64 0, .int .u64 0, .int .u64 0, .int .u64 0, .int .u64 0] 25) = W := ⟨_, rfl⟩
  have hbW : Below w.heap.size w W := by rw [← hW]; go_grown
  have z1 : (w.alloc (.cells cs 25)).heap.size = w.heap.size + 1 := by simp
  have z2 : ((w.alloc (.cells cs 25)).alloc (.cells #[.int .i64 24, .int .i64 a, .int .i64 b, .int .i64 z, .int .i64 n] 61)).heap.size = w.heap.size + 1 + 1 := by simp
  have b0 : W.heap[w.heap.size]? = some (.cells cs 25 (0, 0)) := by
    rw [← hW]; exact ((Lib.alloc_old _ _ _ (by simp; omega)).trans (Lib.alloc_old _ _ _ (by simp))).trans (heap_new _ _)
  have b1 : W.heap[w.heap.size + 1]? = some (.cells #[.int .i64 24, .int .i64 a, .int .i64 b, .int .i64 z, .int .i64 n] 61 (0, 0)) := by
    rw [← hW, ← z1]; exact (Lib.alloc_old _ _ _ (by simp)).trans (heap_new _ _)
  have b2 : W.heap[w.heap.size + 1 + 1]? = some (.cells #[.int .u64 0, .int .u64 0, .int .u64 0, .int .u64 0, .int .u64 0, .int .u64 0, .int .u64 0, .int .u64 0, .int .u64 0, .int .u64 0, .int .u64 0, .int .u64 0, .int .u64 0, .int .u64 0, .int .u64 0, .int .u64 0, .int .u64 0] 25 (0, 0)) := by
    rw [← hW, ← z2]; exact heap_new _ _
  have S0 : StAt W w.heap.size r pc := by unfold StAt; rw [hcs]; exact b0
  have hpc := S0.pc hr
  have b0' := b0
  have hsz : (Try.prog.info? 25).map (·.size) = some cs.size := by rw [← hcs, stC_size hr]; exact stInfo
  have hone : cs.all (·.oneCell') = true := by rw [← hcs]; exact stC_one _ _
  have HQ : Hid (cs.size = 17) := by simp only [Hid]; rw [← hcs]; exact stC_size hr
  have hk4 : W.cell? ⟨w.heap.size + 1, 4, none⟩ = some (.int .i64 n) := by simp [World.cell?, b1]
  have hl0 : w.heap.size < W.heap.size := (Array.getElem?_eq_some_iff.1 b0).1
  have hl1 : w.heap.size + 1 < W.heap.size := (Array.getElem?_eq_some_iff.1 b1).1
  have hl2 : w.heap.size + 1 + 1 < W.heap.size := (Array.getElem?_eq_some_iff.1 b2).1
  obtain ⟨W1, hW1, n1, hb1⟩ := state_laid W cs
  have hn0 := heap_new W (.cells #[.int .u64 0, .int .u64 0, .int .u64 0, .int .u64 0, .int .u64 0, .int .u64 0, .int .u64 0, .int .u64 0, .int .u64 0, .int .u64 0, .int .u64 0, .int .u64 0, .int .u64 0, .int .u64 0, .int .u64 0, .int .u64 0, .int .u64 0] 25)
  have HW1 := Lib.hid hW1
  have S3 : StAt W1 W.heap.size r pc := by unfold StAt; rw [hcs]; exact n1
  have d0 := (hb1.block _ S0.lt).trans b0
  have d1 := (hb1.block _ hl1).trans b1
  have d2 := (hb1.block _ hl2).trans b2
  have g1 := S3.pc hr
  have g2 := S3.froz 16
  have g3 := S3.lt
  obtain ⟨W2, hW2⟩ : ∃ W2, W1.setCell ⟨W.heap.size, 16, none⟩ (.int .u64 (IntKind.u64.wrap (pc + 4))) = W2 := ⟨_, rfl⟩
  have S4 : StAt W2 W.heap.size r (nxI pc) := by rw [← hW2]; exact S3.setPc hr _
  have e0 : W2.heap[w.heap.size]? = some (.cells cs 25 (0, 0)) := by rw [← hW2]; exact (heap_setCell_ne W1 ⟨W.heap.size, 16, none⟩ _ (Nat.ne_of_lt hl0)).trans d0
  have e1 : W2.heap[w.heap.size + 1]? = some (.cells #[.int .i64 24, .int .i64 a, .int .i64 b, .int .i64 z, .int .i64 n] 61 (0, 0)) := by rw [← hW2]; exact (heap_setCell_ne W1 ⟨W.heap.size, 16, none⟩ _ (Nat.ne_of_lt hl1)).trans d1
  have e2 : W2.heap[w.heap.size + 1 + 1]? = some (.cells #[.int .u64 0, .int .u64 0, .int .u64 0, .int .u64 0, .int .u64 0, .int .u64 0, .int .u64 0, .int .u64 0, .int .u64 0, .int .u64 0, .int .u64 0, .int .u64 0, .int .u64 0, .int .u64 0, .int .u64 0, .int .u64 0, .int .u64 0] 25 (0, 0)) := by rw [← hW2]; exact (heap_setCell_ne W1 ⟨W.heap.size, 16, none⟩ _ (Nat.ne_of_lt hl2)).trans d2
  have q2 : Below w.heap.size w W2 := by rw [← hW2]; exact (hbW.trans (hb1.mono hbW.size)).setCell (p := ⟨W.heap.size, 16, none⟩) (Nat.le_of_lt hl0) _
  have S5 : StAt W2 w.heap.size r pc := by unfold StAt; rw [hcs]; exact e0
  have HS4 := Lib.hid S4
  have HS5 := Lib.hid S5
  have c0 : W2.cell? ⟨w.heap.size + 1, 0, none⟩ = some (.int .i64 24) := by simp [World.cell?, e1]
  have HE1 := Lib.hid e1
  clear hW1 n1 hbW b0 b1 b2 S0 S3 z1 z2 hb1 d0 d1 d2 S4 S5
  go_enter Try.func24, Try.ntmps24
  go_wp2_with (first
    | (refine wpList_load_row rfl 25 _ rfl w.heap.size rfl 25 _ (0, 0) _ b0' Try.underlying25 rfl hsz ?_)
    | (refine wpList_store_row rfl 25 _ _ rfl W.heap.size cs rfl rfl 25 _ hn0 hsz (by rw [HQ.out]; rfl) hone ?_; rw [HW1.out]; refine Hid.out ?_))
  refine Lib.hid ?_
  have cnz : (Try.prog.info? 25).map (·.size) = some (stC r (nxI pc)).toArray.size := by rw [stC_size hr]; exact stInfo
  have cno := stC_one r (nxI pc)
  have cnq : Hid ((stC r (nxI pc)).toArray.size = 17) := stC_size hr
  obtain ⟨cn, cnE⟩ : ∃ c', (stC r (nxI pc)).toArray = c' := ⟨_, rfl⟩
  rw [cnE] at cnz cno cnq
  have e3 : W2.heap[W.heap.size]? = some (.cells cn 25 (0, 0)) := by rw [← cnE]; exact HS4.out
  have c1 : W2.cell? ⟨w.heap.size + 1, 1, none⟩ = some (.int .i64 a) := by simp [World.cell?, HE1.out]
  have ra := HS5.out.reg hr a ha
  have hai : (a : Int) < 16 := by omega
  rw [hx] at ra
  go_wp2_with (first
    | (refine wpList_load_row rfl 25 _ rfl W.heap.size rfl 25 _ (0, 0) _ e3 Try.underlying25 rfl cnz ?_)
    | (refine wpList_store_row rfl 25 _ _ rfl (w.heap.size + 1 + 1) cn rfl rfl 25 _ e2 cnz (by rw [cnq.out]; rfl) cno ?_))
  refine bodyPost_ret (results_does _ _ (w.heap.size + 1 + 1) cn (.int .i64 0) rfl (heap_setRow _ _ _ _ _ e2) cnq.out rfl) rfl ⟨by rw [cnE], below_setRow q2 (by omega) cn⟩
end Go.Proofs.Ytbccckjkmlmhhaa
