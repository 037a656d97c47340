/- Does of the reference. -/
import Derived.Test.YtbccckjkmlmhhaaWants
import Derived.Test.YtbccckjkmlmhhaaReck
import Derived.Deep.Cut
namespace Go.Proofs.Ytbccckjkmlmhhaa
open Go.RowKit Go.Lib
/-- What a call of Does owes. -/
def DoesP (w : World) (r : List Int) (pc what : Int) (e : Ending) (w' : World) : Prop := e = .returned (.tuple #[.agg (stC r pc).toArray, .int .i64 what]) ∧ Below w.heap.size w w'
theorem results_does (tmps : Array Value) (w : World) (g : Nat) (cs : Array Value) (x : Value) (h6 : tmps.getD 6 undef = .pointer (some ⟨g, 0, none⟩)) (hg : w.heap[g]? = some (.cells cs 25 (0, 0))) (hi : cs.size = 17)
    (h7 : tmps.getD 7 undef = x) : (results Try.f24 tmps).run Try.prog w = .ok (.tuple #[.agg cs, x]) w := by
  have hl := run_loadVar_row (P := Try.prog) w g 25 25 cs (0, 0) _ hg Try.underlying25 rfl (by rw [hi]; exact stInfo)
  have h6' : tmps[6]?.getD undef = .pointer (some ⟨g, 0, none⟩) := by simpa using h6
  have h7' : tmps[7]?.getD undef = x := by simpa using h7
  simp [results, Try.results24, h6', h7', asAddr, hl]
theorem state_laid (w : World) (cs : Array Value) : ∃ W : World, (w.alloc (.cells #[.int .u64 0, .int .u64 0, .int .u64 0, .int .u64 0, .int .u64 0, .int .u64 0, .int .u64 0, .int .u64 0, .int .u64 0, .int .u64 0, .int .u64 0, .int .u64 0, .int .u64 0, .int .u64 0, .int .u64 0, .int .u64 0, .int .u64 0] 25)).setRow w.heap.size cs = W ∧ W.heap[w.heap.size]? = some (.cells cs 25 (0, 0)) ∧ Below w.heap.size w W :=
  ⟨_, rfl, heap_setRow _ _ _ _ _ (heap_new _ _), below_setRow ((Below.refl _ _).alloc (Nat.le_refl _) _) (Nat.le_refl _) _⟩
set_option maxRecDepth 100000 in
set_option maxHeartbeats 4000000 in
theorem does_halt (n : Int) (a b z : Nat) (r : List Int) (pc : Int) (sb : ByteArray) (w : World) (hng : ¬ n < 0) (hreg : a < 16 ∧ b < 16 ∧ z < 16) (hk : okR r pc) :
    Calls Try.prog 24 #[.agg (stC r pc).toArray, .agg #[.int .i64 0, .int .i64 a, .int .i64 b, .int .i64 z, .int .i64 n], .string sb] w (DoesP w r pc 2) := by
  have hr := hk.1
  obtain ⟨ha, hb, hz⟩ := hreg
  obtain ⟨cs, hcs⟩ : ∃ cs, (stC r pc).toArray = cs := ⟨_, rfl⟩
  rw [hcs]
  obtain ⟨W, hW⟩ : ∃ W, ((w.alloc (.cells cs 25)).alloc (.cells #[.int .i64 0, .int .i64 a, .int .i64 b, .int .i64 z, .int .i64 n] 61)).alloc (.cells #[.int .u64 0, .int .u64 0, .int .u64 0, .int .u64 0, .int .u64 0, .int .u64 0, .int .u64 0, .int .u64 0, .int .u64 0, .int .u64 0, .int .u64 0, .int .u64 0, .int .u64 0, .int .u64 0, .int .u64 0, .int .u64 0, .int .u64 0] 25) = W := ⟨_, rfl⟩
  have hbW : Below w.heap.size w W := by rw [← hW]; go_grown
  have z1 : (w.alloc (.cells cs 25)).heap.size = w.heap.size + 1 := by simp
  have z2 : ((w.alloc (.cells cs 25)).alloc (.cells #[.int .i64 0, .int .i64 a, .int .i64 b, .int .i64 z, .int .i64 n] 61)).heap.size = w.heap.size + 1 + 1 := by simp
  have b0 : W.heap[w.heap.size]? = some (.cells cs 25 (0, 0)) := by
    rw [← hW]; exact ((Lib.alloc_old _ _ _ (by simp; omega)).trans (Lib.alloc_old _ _ _ (by simp))).trans (heap_new _ _)
  have b1 : W.heap[w.heap.size + 1]? = some (.cells #[.int .i64 0, .int .i64 a, .int .i64 b, .int .i64 z, .int .i64 n] 61 (0, 0)) := by
    rw [← hW, ← z1]; exact (Lib.alloc_old _ _ _ (by simp)).trans (heap_new _ _)
  have b2 : W.heap[w.heap.size + 1 + 1]? = some (.cells #[.int .u64 0, .int .u64 0, .int .u64 0, .int .u64 0, .int .u64 0, .int .u64 0, .int .u64 0, .int .u64 0, .int .u64 0, .int .u64 0, .int .u64 0, .int .u64 0, .int .u64 0, .int .u64 0, .int .u64 0, .int .u64 0, .int .u64 0] 25 (0, 0)) := by
    rw [← hW, ← z2]; exact heap_new _ _
  have S0 : StAt W w.heap.size r pc := by unfold StAt; rw [hcs]; exact b0
  have hpc := S0.pc hr
  have b0' := b0
  have hsz : (Try.prog.info? 25).map (·.size) = some cs.size := by rw [← hcs, stC_size hr]; exact stInfo
  have hone : cs.all (·.oneCell') = true := by rw [← hcs]; exact stC_one _ _
  have HQ : Hid (cs.size = 17) := by simp only [Hid]; rw [← hcs]; exact stC_size hr
  have hk4 : W.cell? ⟨w.heap.size + 1, 4, none⟩ = some (.int .i64 n) := by simp [World.cell?, b1]
  have hl0 : w.heap.size < W.heap.size := (Array.getElem?_eq_some_iff.1 b0).1
  have hl1 : w.heap.size + 1 < W.heap.size := (Array.getElem?_eq_some_iff.1 b1).1
  have hl2 : w.heap.size + 1 + 1 < W.heap.size := (Array.getElem?_eq_some_iff.1 b2).1
  obtain ⟨W1, hW1, n1, hb1⟩ := state_laid W cs
  have hn0 := heap_new W (.cells #[.int .u64 0, .int .u64 0, .int .u64 0, .int .u64 0, .int .u64 0, .int .u64 0, .int .u64 0, .int .u64 0, .int .u64 0, .int .u64 0, .int .u64 0, .int .u64 0, .int .u64 0, .int .u64 0, .int .u64 0, .int .u64 0, .int .u64 0] 25)
  have HW1 := Lib.hid hW1
  have S3 : StAt W1 W.heap.size r pc := by unfold StAt; rw [hcs]; exact n1
  have d0 := (hb1.block _ S0.lt).trans b0
  have d1 := (hb1.block _ hl1).trans b1
  have d2 := (hb1.block _ hl2).trans b2
  have g1 := S3.pc hr
  have g2 := S3.froz 16
  have g3 := S3.lt
  obtain ⟨W2, hW2⟩ : ∃ W2, W1.setCell ⟨W.heap.size, 16, none⟩ (.int .u64 (IntKind.u64.wrap (pc + 4))) = W2 := ⟨_, rfl⟩
  have S4 : StAt W2 W.heap.size r (nxI pc) := by rw [← hW2]; exact S3.setPc hr _
  have e0 : W2.heap[w.heap.size]? = some (.cells cs 25 (0, 0)) := by rw [← hW2]; exact (heap_setCell_ne W1 ⟨W.heap.size, 16, none⟩ _ (Nat.ne_of_lt hl0)).trans d0
  have e1 : W2.heap[w.heap.size + 1]? = some (.cells #[.int .i64 0, .int .i64 a, .int .i64 b, .int .i64 z, .int .i64 n] 61 (0, 0)) := by rw [← hW2]; exact (heap_setCell_ne W1 ⟨W.heap.size, 16, none⟩ _ (Nat.ne_of_lt hl1)).trans d1
  have e2 : W2.heap[w.heap.size + 1 + 1]? = some (.cells #[.int .u64 0, .int .u64 0, .int .u64 0, .int .u64 0, .int .u64 0, .int .u64 0, .int .u64 0, .int .u64 0, .int .u64 0, .int .u64 0, .int .u64 0, .int .u64 0, .int .u64 0, .int .u64 0, .int .u64 0, .int .u64 0, .int .u64 0] 25 (0, 0)) := by rw [← hW2]; exact (heap_setCell_ne W1 ⟨W.heap.size, 16, none⟩ _ (Nat.ne_of_lt hl2)).trans d2
  have q2 : Below w.heap.size w W2 := by rw [← hW2]; exact (hbW.trans (hb1.mono hbW.size)).setCell (p := ⟨W.heap.size, 16, none⟩) (Nat.le_of_lt hl0) _
  have S5 : StAt W2 w.heap.size r pc := by unfold StAt; rw [hcs]; exact e0
  have HS4 := Lib.hid S4
  have HS5 := Lib.hid S5
  have c0 : W2.cell? ⟨w.heap.size + 1, 0, none⟩ = some (.int .i64 0) := by simp [World.cell?, e1]
  have HE1 := Lib.hid e1
  clear hW1 n1 hbW b0 b1 b2 S0 S3 z1 z2 hb1 d0 d1 d2 S4 S5
  go_enter Try.func24, Try.ntmps24
  go_wp2_with (first
    | (refine wpList_load_row rfl 25 _ rfl w.heap.size rfl 25 _ (0, 0) _ b0' Try.underlying25 rfl hsz ?_)
    | (refine wpList_store_row rfl 25 _ _ rfl W.heap.size cs rfl rfl 25 _ hn0 hsz (by rw [HQ.out]; rfl) hone ?_; rw [HW1.out]; refine Hid.out ?_))
  refine Lib.hid ?_
  go_wp2_with (first
    | (refine wpList_load_row rfl 25 _ rfl w.heap.size rfl 25 _ (0, 0) _ e0 Try.underlying25 rfl hsz ?_)
    | (refine wpList_store_row rfl 25 _ _ rfl (w.heap.size + 1 + 1) cs rfl rfl 25 _ e2 hsz (by rw [HQ.out]; rfl) hone ?_))
  refine bodyPost_ret (results_does _ _ (w.heap.size + 1 + 1) cs (.int .i64 2) rfl (heap_setRow _ _ _ _ _ e2) HQ.out rfl) rfl ⟨by rw [hcs], below_setRow q2 (by omega) cs⟩
set_option maxRecDepth 100000 in
set_option maxHeartbeats 4000000 in
theorem does_sys (n : Int) (a b z : Nat) (r : List Int) (pc : Int) (sb : ByteArray) (w : World) (hng : ¬ n < 0) (hreg : a < 16 ∧ b < 16 ∧ z < 16) (hk : okR r pc) :
    Calls Try.prog 24 #[.agg (stC r pc).toArray, .agg #[.int .i64 2, .int .i64 a, .int .i64 b, .int .i64 z, .int .i64 n], .string sb] w (DoesP w r (nxI pc) 1) := by
  have hr := hk.1
  obtain ⟨ha, hb, hz⟩ := hreg
  obtain ⟨cs, hcs⟩ : ∃ cs, (stC r pc).toArray = cs := ⟨_, rfl⟩
  rw [hcs]
  obtain ⟨W, hW⟩ : ∃ W, ((w.alloc (.cells cs 25)).alloc (.cells #[.int .i64 2, .int .i64 a, .int .i64 b, .int .i64 z, .int .i64 n] 61)).alloc (.cells #[.int .u64 0, .int .u64 0, .int .u64 0, .int .u64 0, .int .u64 0, .int .u64 0, .int .u64 0, .int .u64 0, .int .u64 0, .int .u64 0, .int .u64 0, .int .u64 0, .int .u64 0, .int .u64 0, .int .u64 0, .int .u64 0, .int .u64 0] 25) = W := ⟨_, rfl⟩
  have hbW : Below w.heap.size w W := by rw [← hW]; go_grown
  have z1 : (w.alloc (.cells cs 25)).heap.size = w.heap.size + 1 := by simp
  have z2 : ((w.alloc (.cells cs 25)).alloc (.cells #[.int .i64 2, .int .i64 a, .int .i64 b, .int .i64 z, .int .i64 n] 61)).heap.size = w.heap.size + 1 + 1 := by simp
  have b0 : W.heap[w.heap.size]? = some (.cells cs 25 (0, 0)) := by
    rw [← hW]; exact ((Lib.alloc_old _ _ _ (by simp; omega)).trans (Lib.alloc_old _ _ _ (by simp))).trans (heap_new _ _)
  have b1 : W.heap[w.heap.size + 1]? = some (.cells #[.int .i64 2, .int .i64 a, .int .i64 b, .int .i64 z, .int .i64 n] 61 (0, 0)) := by
    rw [← hW, ← z1]; exact (Lib.alloc_old _ _ _ (by simp)).trans (heap_new _ _)
  have b2 : W.heap[w.heap.size + 1 + 1]? = some (.cells #[.int .u64 0, .int .u64 0, .int .u64 0, .int .u64 0, .int .u64 0, .int .u64 0, .int .u64 0, .int .u64 0, .int .u64 0, .int .u64 0, .int .u64 0, .int .u64 0, .int .u64 0, .int .u64 0, .int .u64 0, .int .u64 0, .int .u64 0] 25 (0, 0)) := by
    rw [← hW, ← z2]; exact heap_new _ _
  have S0 : StAt W w.heap.size r pc := by unfold StAt; rw [hcs]; exact b0
  have hpc := S0.pc hr
  have b0' := b0
  have hsz : (Try.prog.info? 25).map (·.size) = some cs.size := by rw [← hcs, stC_size hr]; exact stInfo
  have hone : cs.all (·.oneCell') = true := by rw [← hcs]; exact stC_one _ _
  have HQ : Hid (cs.size = 17) := by simp only [Hid]; rw [← hcs]; exact stC_size hr
  have hk4 : W.cell? ⟨w.heap.size + 1, 4, none⟩ = some (.int .i64 n) := by simp [World.cell?, b1]
  have hl0 : w.heap.size < W.heap.size := (Array.getElem?_eq_some_iff.1 b0).1
  have hl1 : w.heap.size + 1 < W.heap.size := (Array.getElem?_eq_some_iff.1 b1).1
  have hl2 : w.heap.size + 1 + 1 < W.heap.size := (Array.getElem?_eq_some_iff.1 b2).1
  obtain ⟨W1, hW1, n1, hb1⟩ := state_laid W cs
  have hn0 := heap_new W (.cells #[.int .u64 0, .int .u64 0, .int .u64 0, .int .u64 0, .int .u64 0, .int .u64 0, .int .u64 0, .int .u64 0, .int .u64 0, .int .u64 0, .int .u64 0, .int .u64 0, .int .u64 0, .int .u64 0, .int .u64 0, .int .u64 0, .int .u64 0] 25)
  have HW1 := Lib.hid hW1
  have S3 : StAt W1 W.heap.size r pc := by unfold StAt; rw [hcs]; exact n1
  have d0 := (hb1.block _ S0.lt).trans b0
  have d1 := (hb1.block _ hl1).trans b1
  have d2 := (hb1.block _ hl2).trans b2
  have g1 := S3.pc hr
  have g2 := S3.froz 16
  have g3 := S3.lt
  obtain ⟨W2, hW2⟩ : ∃ W2, W1.setCell ⟨W.heap.size, 16, none⟩ (.int .u64 (IntKind.u64.wrap (pc + 4))) = W2 := ⟨_, rfl⟩
  have S4 : StAt W2 W.heap.size r (nxI pc) := by rw [← hW2]; exact S3.setPc hr _
  have e0 : W2.heap[w.heap.size]? = some (.cells cs 25 (0, 0)) := by rw [← hW2]; exact (heap_setCell_ne W1 ⟨W.heap.size, 16, none⟩ _ (Nat.ne_of_lt hl0)).trans d0
  have e1 : W2.heap[w.heap.size + 1]? = some (.cells #[.int .i64 2, .int .i64 a, .int .i64 b, .int .i64 z, .int .i64 n] 61 (0, 0)) := by rw [← hW2]; exact (heap_setCell_ne W1 ⟨W.heap.size, 16, none⟩ _ (Nat.ne_of_lt hl1)).trans d1
  have e2 : W2.heap[w.heap.size + 1 + 1]? = some (.cells #[.int .u64 0, .int .u64 0, .int .u64 0, .int .u64 0, .int .u64 0, .int .u64 0, .int .u64 0, .int .u64 0, .int .u64 0, .int .u64 0, .int .u64 0, .int .u64 0, .int .u64 0, .int .u64 0, .int .u64 0, .int .u64 0, .int .u64 0] 25 (0, 0)) := by rw [← hW2]; exact (heap_setCell_ne W1 ⟨W.heap.size, 16, none⟩ _ (Nat.ne_of_lt hl2)).trans d2
  have q2 : Below w.heap.size w W2 := by rw [← hW2]; exact (hbW.trans (hb1.mono hbW.size)).setCell (p := ⟨W.heap.size, 16, none⟩) (Nat.le_of_lt hl0) _
  have S5 : StAt W2 w.heap.size r pc := by unfold StAt; rw [hcs]; exact e0
  have HS4 := Lib.hid S4
  have HS5 := Lib.hid S5
  have c0 : W2.cell? ⟨w.heap.size + 1, 0, none⟩ = some (.int .i64 2) := by simp [World.cell?, e1]
  have HE1 := Lib.hid e1
  clear hW1 n1 hbW b0 b1 b2 S0 S3 z1 z2 hb1 d0 d1 d2 S4 S5
  go_enter Try.func24, Try.ntmps24
  go_wp2_with (first
    | (refine wpList_load_row rfl 25 _ rfl w.heap.size rfl 25 _ (0, 0) _ b0' Try.underlying25 rfl hsz ?_)
    | (refine wpList_store_row rfl 25 _ _ rfl W.heap.size cs rfl rfl 25 _ hn0 hsz (by rw [HQ.out]; rfl) hone ?_; rw [HW1.out]; refine Hid.out ?_))
  refine Lib.hid ?_
  have cnz : (Try.prog.info? 25).map (·.size) = some (stC r (nxI pc)).toArray.size := by rw [stC_size hr]; exact stInfo
  have cno := stC_one r (nxI pc)
  have cnq : Hid ((stC r (nxI pc)).toArray.size = 17) := stC_size hr
  obtain ⟨cn, cnE⟩ : ∃ c', (stC r (nxI pc)).toArray = c' := ⟨_, rfl⟩
  rw [cnE] at cnz cno cnq
  have e3 : W2.heap[W.heap.size]? = some (.cells cn 25 (0, 0)) := by rw [← cnE]; exact HS4.out
  go_wp2_with (first
    | (refine wpList_load_row rfl 25 _ rfl W.heap.size rfl 25 _ (0, 0) _ e3 Try.underlying25 rfl cnz ?_)
    | (refine wpList_store_row rfl 25 _ _ rfl (w.heap.size + 1 + 1) cn rfl rfl 25 _ e2 cnz (by rw [cnq.out]; rfl) cno ?_))
  refine bodyPost_ret (results_does _ _ (w.heap.size + 1 + 1) cn (.int .i64 1) rfl (heap_setRow _ _ _ _ _ e2) cnq.out rfl) rfl ⟨by rw [cnE], below_setRow q2 (by omega) cn⟩
set_option maxRecDepth 100000 in
set_option maxHeartbeats 4000000 in
theorem does_nop (n : Int) (op : Int) (a b z : Nat) (r : List Int) (pc : Int) (sb : ByteArray) (w : World) (hng : ¬ n < 0) (hop : op = 1 ∨ op = 19 ∨ op = 21) (hreg : a < 16 ∧ b < 16 ∧ z < 16) (hk : okR r pc) :
    Calls Try.prog 24 #[.agg (stC r pc).toArray, .agg #[.int .i64 op, .int .i64 a, .int .i64 b, .int .i64 z, .int .i64 n], .string sb] w (DoesP w r (nxI pc) 0) := by
  have hr := hk.1
  obtain ⟨ha, hb, hz⟩ := hreg
  obtain ⟨cs, hcs⟩ : ∃ cs, (stC r pc).toArray = cs := ⟨_, rfl⟩
  rw [hcs]
  obtain ⟨W, hW⟩ : ∃ W, ((w.alloc (.cells cs 25)).alloc (.cells #[.int .i64 op, .int .i64 a, .int .i64 b, .int .i64 z, .int .i64 n] 61)).alloc (.cells #[.int .u64 0, .int .u64 0, .int .u64 0, .int .u64 0, .int .u64 0, .int .u64 0, .int .u64 0, .int .u64 0, .int .u64 0, .int .u64 0, .int .u64 0, .int .u64 0, .int .u64 0, .int .u64 0, .int .u64 0, .int .u64 0, .int .u64 0] 25) = W := ⟨_, rfl⟩
  have hbW : Below w.heap.size w W := by rw [← hW]; go_grown
  have z1 : (w.alloc (.cells cs 25)).heap.size = w.heap.size + 1 := by simp
  have z2 : ((w.alloc (.cells cs 25)).alloc (.cells #[.int .i64 op, .int .i64 a, .int .i64 b, .int .i64 z, .int .i64 n] 61)).heap.size = w.heap.size + 1 + 1 := by simp
  have b0 : W.heap[w.heap.size]? = some (.cells cs 25 (0, 0)) := by
    rw [← hW]; exact ((Lib.alloc_old _ _ _ (by simp; omega)).trans (Lib.alloc_old _ _ _ (by simp))).trans (heap_new _ _)
  have b1 : W.heap[w.heap.size + 1]? = some (.cells #[.int .i64 op, .int .i64 a, .int .i64 b, .int .i64 z, .int .i64 n] 61 (0, 0)) := by
    rw [← hW, ← z1]; exact (Lib.alloc_old _ _ _ (by simp)).trans (heap_new _ _)
  have b2 : W.heap[w.heap.size + 1 + 1]? = some (.cells #[.int .u64 0, .int .u64 0, .int .u64 0, .int .u64 0, .int .u64 0, .int .u64 0, .int .u64 0, .int .u64 0, .int .u64 0, .int .u64 0, .int .u64 0, .int .u64 0, .int .u64 0, .int .u64 0, .int .u64 0, .int .u64 0, .int .u64 0] 25 (0, 0)) := by
    rw [← hW, ← z2]; exact heap_new _ _
  have S0 : StAt W w.heap.size r pc := by unfold StAt; rw [hcs]; exact b0
  have hpc := S0.pc hr
  have b0' := b0
  have hsz : (Try.prog.info? 25).map (·.size) = some cs.size := by rw [← hcs, stC_size hr]; exact stInfo
  have hone : cs.all (·.oneCell') = true := by rw [← hcs]; exact stC_one _ _
  have HQ : Hid (cs.size = 17) := by simp only [Hid]; rw [← hcs]; exact stC_size hr
  have hk4 : W.cell? ⟨w.heap.size + 1, 4, none⟩ = some (.int .i64 n) := by simp [World.cell?, b1]
  have hl0 : w.heap.size < W.heap.size := (Array.getElem?_eq_some_iff.1 b0).1
  have hl1 : w.heap.size + 1 < W.heap.size := (Array.getElem?_eq_some_iff.1 b1).1
  have hl2 : w.heap.size + 1 + 1 < W.heap.size := (Array.getElem?_eq_some_iff.1 b2).1
  obtain ⟨W1, hW1, n1, hb1⟩ := state_laid W cs
  have hn0 := heap_new W (.cells #[.int .u64 0, .int .u64 0, .int .u64 0, .int .u64 0, .int .u64 0, .int .u64 0, .int .u64 0, .int .u64 0, .int .u64 0, .int .u64 0, .int .u64 0, .int .u64 0, .int .u64 0, .int .u64 0, .int .u64 0, .int .u64 0, .int .u64 0] 25)
  have HW1 := Lib.hid hW1
  have S3 : StAt W1 W.heap.size r pc := by unfold StAt; rw [hcs]; exact n1
  have d0 := (hb1.block _ S0.lt).trans b0
  have d1 := (hb1.block _ hl1).trans b1
  have d2 := (hb1.block _ hl2).trans b2
  have g1 := S3.pc hr
  have g2 := S3.froz 16
  have g3 := S3.lt
  obtain ⟨W2, hW2⟩ : ∃ W2, W1.setCell ⟨W.heap.size, 16, none⟩ (.int .u64 (IntKind.u64.wrap (pc + 4))) = W2 := ⟨_, rfl⟩
  have S4 : StAt W2 W.heap.size r (nxI pc) := by rw [← hW2]; exact S3.setPc hr _
  have e0 : W2.heap[w.heap.size]? = some (.cells cs 25 (0, 0)) := by rw [← hW2]; exact (heap_setCell_ne W1 ⟨W.heap.size, 16, none⟩ _ (Nat.ne_of_lt hl0)).trans d0
  have e1 : W2.heap[w.heap.size + 1]? = some (.cells #[.int .i64 op, .int .i64 a, .int .i64 b, .int .i64 z, .int .i64 n] 61 (0, 0)) := by rw [← hW2]; exact (heap_setCell_ne W1 ⟨W.heap.size, 16, none⟩ _ (Nat.ne_of_lt hl1)).trans d1
  have e2 : W2.heap[w.heap.size + 1 + 1]? = some (.cells #[.int .u64 0, .int .u64 0, .int .u64 0, .int .u64 0, .int .u64 0, .int .u64 0, .int .u64 0, .int .u64 0, .int .u64 0, .int .u64 0, .int .u64 0, .int .u64 0, .int .u64 0, .int .u64 0, .int .u64 0, .int .u64 0, .int .u64 0] 25 (0, 0)) := by rw [← hW2]; exact (heap_setCell_ne W1 ⟨W.heap.size, 16, none⟩ _ (Nat.ne_of_lt hl2)).trans d2
  have q2 : Below w.heap.size w W2 := by rw [← hW2]; exact (hbW.trans (hb1.mono hbW.size)).setCell (p := ⟨W.heap.size, 16, none⟩) (Nat.le_of_lt hl0) _
  have S5 : StAt W2 w.heap.size r pc := by unfold StAt; rw [hcs]; exact e0
  have HS4 := Lib.hid S4
  have HS5 := Lib.hid S5
  have c0 : W2.cell? ⟨w.heap.size + 1, 0, none⟩ = some (.int .i64 op) := by simp [World.cell?, e1]
  have HE1 := Lib.hid e1
  clear hW1 n1 hbW b0 b1 b2 S0 S3 z1 z2 hb1 d0 d1 d2 S4 S5
  rcases hop with rfl | rfl | rfl
  all_goals
    go_enter Try.func24, Try.ntmps24
    go_wp2_with (first
      | (refine wpList_load_row rfl 25 _ rfl w.heap.size rfl 25 _ (0, 0) _ b0' Try.underlying25 rfl hsz ?_)
      | (refine wpList_store_row rfl 25 _ _ rfl W.heap.size cs rfl rfl 25 _ hn0 hsz (by rw [HQ.out]; rfl) hone ?_; rw [HW1.out]; refine Hid.out ?_))
    refine Lib.hid ?_
    have cnz : (Try.prog.info? 25).map (·.size) = some (stC r (nxI pc)).toArray.size := by rw [stC_size hr]; exact stInfo
    have cno := stC_one r (nxI pc)
    have cnq : Hid ((stC r (nxI pc)).toArray.size = 17) := stC_size hr
    obtain ⟨cn, cnE⟩ : ∃ c', (stC r (nxI pc)).toArray = c' := ⟨_, rfl⟩
    rw [cnE] at cnz cno cnq
    have e3 : W2.heap[W.heap.size]? = some (.cells cn 25 (0, 0)) := by rw [← cnE]; exact HS4.out
    go_wp2_with (first
      | (refine wpList_load_row rfl 25 _ rfl W.heap.size rfl 25 _ (0, 0) _ e3 Try.underlying25 rfl cnz ?_)
      | (refine wpList_store_row rfl 25 _ _ rfl (w.heap.size + 1 + 1) cn rfl rfl 25 _ e2 cnz (by rw [cnq.out]; rfl) cno ?_))
    refine bodyPost_ret (results_does _ _ (w.heap.size + 1 + 1) cn (.int .i64 0) rfl (heap_setRow _ _ _ _ _ e2) cnq.out rfl) rfl ⟨by rw [cnE], below_setRow q2 (by omega) cn⟩
set_option maxRecDepth 100000 in
set_option maxHeartbeats 4000000 in
theorem does_set (n : Int) (a b z : Nat) (r : List Int) (pc : Int) (sb : ByteArray) (w : World) (hng : ¬ n < 0) (hreg : a < 16 ∧ b < 16 ∧ z < 16) (hk : okR r pc) :
    Calls Try.prog 24 #[.agg (stC r pc).toArray, .agg #[.int .i64 3, .int .i64 a, .int .i64 b, .int .i64 z, .int .i64 n], .string sb] w (DoesP w (r.set a (IntKind.u64.wrap n)) (nxI pc) 0) := by
  have hr := hk.1
  obtain ⟨ha, hb, hz⟩ := hreg
  obtain ⟨cs, hcs⟩ : ∃ cs, (stC r pc).toArray = cs := ⟨_, rfl⟩
  rw [hcs]
  obtain ⟨W, hW⟩ : ∃ W, ((w.alloc (.cells cs 25)).alloc (.cells #[.int .i64 3, .int .i64 a, .int .i64 b, .int .i64 z, .int .i64 n] 61)).alloc (.cells #[.int .u64 0, .int .u64 0, .int .u64 0, .int .u64 0, .int .u64 0, .int .u64 0, .int .u64 0, .int .u64 0, .int .u64 0, .int .u64 0, .int .u64 0, .int .u64 0, .int .u64 0, .int .u64 0, .int .u64 0, .int .u64 0, .int .u64 0] 25) = W := ⟨_, rfl⟩
  have hbW : Below w.heap.size w W := by rw [← hW]; go_grown
  have z1 : (w.alloc (.cells cs 25)).heap.size = w.heap.size + 1 := by simp
  have z2 : ((w.alloc (.cells cs 25)).alloc (.cells #[.int .i64 3, .int .i64 a, .int .i64 b, .int .i64 z, .int .i64 n] 61)).heap.size = w.heap.size + 1 + 1 := by simp
  have b0 : W.heap[w.heap.size]? = some (.cells cs 25 (0, 0)) := by
    rw [← hW]; exact ((Lib.alloc_old _ _ _ (by simp; omega)).trans (Lib.alloc_old _ _ _ (by simp))).trans (heap_new _ _)
  have b1 : W.heap[w.heap.size + 1]? = some (.cells #[.int .i64 3, .int .i64 a, .int .i64 b, .int .i64 z, .int .i64 n] 61 (0, 0)) := by
    rw [← hW, ← z1]; exact (Lib.alloc_old _ _ _ (by simp)).trans (heap_new _ _)
  have b2 : W.heap[w.heap.size + 1 + 1]? = some (.cells #[.int .u64 0, .int .u64 0, .int .u64 0, .int .u64 0, .int .u64 0, .int .u64 0, .int .u64 0, .int .u64 0, .int .u64 0, .int .u64 0, .int .u64 0, .int .u64 0, .int .u64 0, .int .u64 0, .int .u64 0, .int .u64 0, .int .u64 0] 25 (0, 0)) := by
    rw [← hW, ← z2]; exact heap_new _ _
  have S0 : StAt W w.heap.size r pc := by unfold StAt; rw [hcs]; exact b0
  have hpc := S0.pc hr
  have b0' := b0
  have hsz : (Try.prog.info? 25).map (·.size) = some cs.size := by rw [← hcs, stC_size hr]; exact stInfo
  have hone : cs.all (·.oneCell') = true := by rw [← hcs]; exact stC_one _ _
  have HQ : Hid (cs.size = 17) := by simp only [Hid]; rw [← hcs]; exact stC_size hr
  have hk4 : W.cell? ⟨w.heap.size + 1, 4, none⟩ = some (.int .i64 n) := by simp [World.cell?, b1]
  have hl0 : w.heap.size < W.heap.size := (Array.getElem?_eq_some_iff.1 b0).1
  have hl1 : w.heap.size + 1 < W.heap.size := (Array.getElem?_eq_some_iff.1 b1).1
  have hl2 : w.heap.size + 1 + 1 < W.heap.size := (Array.getElem?_eq_some_iff.1 b2).1
  obtain ⟨W1, hW1, n1, hb1⟩ := state_laid W cs
  have hn0 := heap_new W (.cells #[.int .u64 0, .int .u64 0, .int .u64 0, .int .u64 0, .int .u64 0, .int .u64 0, .int .u64 0, .int .u64 0, .int .u64 0, .int .u64 0, .int .u64 0, .int .u64 0, .int .u64 0, .int .u64 0, .int .u64 0, .int .u64 0, .int .u64 0] 25)
  have HW1 := Lib.hid hW1
  have S3 : StAt W1 W.heap.size r pc := by unfold StAt; rw [hcs]; exact n1
  have d0 := (hb1.block _ S0.lt).trans b0
  have d1 := (hb1.block _ hl1).trans b1
  have d2 := (hb1.block _ hl2).trans b2
  have g1 := S3.pc hr
  have g2 := S3.froz 16
  have g3 := S3.lt
  obtain ⟨W2, hW2⟩ : ∃ W2, W1.setCell ⟨W.heap.size, 16, none⟩ (.int .u64 (IntKind.u64.wrap (pc + 4))) = W2 := ⟨_, rfl⟩
  have S4 : StAt W2 W.heap.size r (nxI pc) := by rw [← hW2]; exact S3.setPc hr _
  have e0 : W2.heap[w.heap.size]? = some (.cells cs 25 (0, 0)) := by rw [← hW2]; exact (heap_setCell_ne W1 ⟨W.heap.size, 16, none⟩ _ (Nat.ne_of_lt hl0)).trans d0
  have e1 : W2.heap[w.heap.size + 1]? = some (.cells #[.int .i64 3, .int .i64 a, .int .i64 b, .int .i64 z, .int .i64 n] 61 (0, 0)) := by rw [← hW2]; exact (heap_setCell_ne W1 ⟨W.heap.size, 16, none⟩ _ (Nat.ne_of_lt hl1)).trans d1
  have e2 : W2.heap[w.heap.size + 1 + 1]? = some (.cells #[.int .u64 0, .int .u64 0, .int .u64 0, .int .u64 0, .int .u64 0, .int .u64 0, .int .u64 0, .int .u64 0, .int .u64 0, .int .u64 0, .int .u64 0, .int .u64 0, .int .u64 0, .int .u64 0, .int .u64 0, .int .u64 0, .int .u64 0] 25 (0, 0)) := by rw [← hW2]; exact (heap_setCell_ne W1 ⟨W.heap.size, 16, none⟩ _ (Nat.ne_of_lt hl2)).trans d2
  have q2 : Below w.heap.size w W2 := by rw [← hW2]; exact (hbW.trans (hb1.mono hbW.size)).setCell (p := ⟨W.heap.size, 16, none⟩) (Nat.le_of_lt hl0) _
  have S5 : StAt W2 w.heap.size r pc := by unfold StAt; rw [hcs]; exact e0
  have HS4 := Lib.hid S4
  have HS5 := Lib.hid S5
  have c0 : W2.cell? ⟨w.heap.size + 1, 0, none⟩ = some (.int .i64 3) := by simp [World.cell?, e1]
  have HE1 := Lib.hid e1
  clear hW1 n1 hbW b0 b1 b2 S0 S3 z1 z2 hb1 d0 d1 d2 S4 S5
  go_enter Try.func24, Try.ntmps24
  go_wp2_with (first
    | (refine wpList_load_row rfl 25 _ rfl w.heap.size rfl 25 _ (0, 0) _ b0' Try.underlying25 rfl hsz ?_)
    | (refine wpList_store_row rfl 25 _ _ rfl W.heap.size cs rfl rfl 25 _ hn0 hsz (by rw [HQ.out]; rfl) hone ?_; rw [HW1.out]; refine Hid.out ?_))
  refine Lib.hid ?_
  have cnz : (Try.prog.info? 25).map (·.size) = some (stC r (nxI pc)).toArray.size := by rw [stC_size hr]; exact stInfo
  have cno := stC_one r (nxI pc)
  have cnq : Hid ((stC r (nxI pc)).toArray.size = 17) := stC_size hr
  obtain ⟨cn, cnE⟩ : ∃ c', (stC r (nxI pc)).toArray = c' := ⟨_, rfl⟩
  rw [cnE] at cnz cno cnq
  have e3 : W2.heap[W.heap.size]? = some (.cells cn 25 (0, 0)) := by rw [← cnE]; exact HS4.out
  have cmz : (Try.prog.info? 25).map (·.size) = some (stC (r.set a (IntKind.u64.wrap n)) (nxI pc)).toArray.size := by rw [stC_size (show (r.set a (IntKind.u64.wrap n)).length = 16 by rw [List.length_set]; exact hr)]; exact stInfo
  have cmo := stC_one (r.set a (IntKind.u64.wrap n)) (nxI pc)
  have cmq : Hid ((stC (r.set a (IntKind.u64.wrap n)) (nxI pc)).toArray.size = 17) := stC_size (show (r.set a (IntKind.u64.wrap n)).length = 16 by rw [List.length_set]; exact hr)
  obtain ⟨cm, cmE⟩ : ∃ c', (stC (r.set a (IntKind.u64.wrap n)) (nxI pc)).toArray = c' := ⟨_, rfl⟩
  rw [cmE] at cmz cmo cmq
  have HPut := Lib.hid (fun (W' : World) => Put_any r (nxI pc) a (IntKind.u64.wrap n) W' hr ha)
  rw [cnE, cmE] at HPut
  have c1 : W2.cell? ⟨w.heap.size + 1, 1, none⟩ = some (.int .i64 a) := by simp [World.cell?, HE1.out]
  have c4 : W2.cell? ⟨w.heap.size + 1, 4, none⟩ = some (.int .i64 n) := by simp [World.cell?, HE1.out]
  have hl6 : w.heap.size + 1 + 1 < W2.heap.size := (Array.getElem?_eq_some_iff.1 e2).1
  have hai : (a : Int) < 16 := by omega
  go_wp2_with (first
    | (refine wpList_load_row rfl 25 _ rfl W.heap.size rfl 25 _ (0, 0) _ e3 Try.underlying25 rfl cnz ?_)
    | (go_at_call 41; refine (HPut.out _).mono ?_; rintro e w6 ⟨rfl, hB6⟩; refine Hid.out ?_))
  refine Lib.hid ?_
  have f2 := (hB6.block _ hl6).trans e2
  have q6 := q2.trans (hB6.mono q2.size)
  go_wp2_with (first
    | (refine wpList_store_row rfl 25 _ _ rfl (w.heap.size + 1 + 1) cm rfl rfl 25 _ f2 cmz (by rw [cmq.out]; rfl) cmo ?_))
  refine bodyPost_ret (results_does _ _ (w.heap.size + 1 + 1) cm (.int .i64 0) rfl (heap_setRow _ _ _ _ _ f2) cmq.out rfl) rfl ⟨by rw [cmE], below_setRow q6 (by omega) cm⟩
end Go.Proofs.Ytbccckjkmlmhhaa
