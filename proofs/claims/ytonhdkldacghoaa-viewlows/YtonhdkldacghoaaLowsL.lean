/- ViewLows: the law's walk. -/
import Derived.Test.YtonhdkldacghoaaLivesW
import Derived.Test.YtonhdkldacghoaaROwn
namespace Go.Proofs.Ytonhdkldacghoaa
open Go.RowKit Go.Sort Go.Shelf

theorem wpList_load_atW {P : Program} {ops : Array Oper} {rest : List Oper} {o : Oper} {a : Act} {w : World} {Q : Exit → Act → World → Prop} (hw : Region.wanted o (yielded ops a.tmps) = true) (ty : TypeId) (x : Operand) (ho : o.op = .load ty x)
    (p : Addr) (hx : a.eval x = .pointer (some p)) (v : Value) (hl : (loadVar ty p).run P w = .ok v w) (h : wpList P ops Q rest (a.put o.dst v) w) : wpList P ops Q (o :: rest) a w :=
  Go.BigFrame.wpList_want hw fun _ hK => wp_load_at ty x ho p hx v hl (hK _ _ h)
/-- What lies in the two boxes, in every world behind W0. -/
structure Bx (l : Lab) (cs : Array Value) (N : Nat) (W0 X : World) : Prop where
  bel : Below W0.heap.size W0 X
  c0 : X.cell? ⟨N, 0, none⟩ = some (.int .i64 l.d)
  c1 : X.cell? ⟨N, 1, none⟩ = some (.slice l.p l.xs.length l.cap)
  ld : (loadVar 42 ⟨N + 1, 0, none⟩).run Try.prog X = .ok (.agg cs) X
theorem Bx.next {l : Lab} {cs : Array Value} {N : Nat} {W0 X Y : World} (h : Bx l cs N W0 X) (hb : Below X.heap.size X Y) (hH : W0.heap[N + 1]? = some (.cells cs 42)) (hs : cs.size = 38) (hN : N + 1 < W0.heap.size) : Bx l cs N W0 Y := by
  have hz := h.bel.size
  refine ⟨h.bel.trans (hb.mono hz), (hb.cell (p := ⟨N, 0, none⟩) (by simp; omega)).trans h.c0, (hb.cell (p := ⟨N, 1, none⟩) (by simp; omega)).trans h.c1, ?_⟩
  have hY : Y.heap[N + 1]? = some (.cells cs 42) := (hb.block _ (by omega)).trans ((h.bel.block _ hN).trans hH)
  exact run_load_at Y (N + 1) 0 _ cs _ (fun f u hu => by rw [Nat.zero_add]; exact heap_cells hY hu) Try.underlying42 rfl (by rw [hs]; exact infoOb)
set_option maxRecDepth 100000 in
set_option maxHeartbeats 2000000 in
theorem ViewLows_any (l : Lab) (o : Ob) (w : World) (hl : CatsAt w l.p l.xs) (hm : l.xs.length ≤ maxLen) (ho : ObOk w o) :
    Calls Try.prog 5 #[l.val, .agg o.cs] w fun e w' => e = .returned (.bool true) ∧ Below w.heap.size w w' := by
  obtain ⟨cs, hcs⟩ : ∃ cs, o.cs = cs := ⟨_, rfl⟩
  have k5 : cs[5]? = some (.int .i64 o.L.d) := by rw [← hcs, Ob.head _ _ (by decide)]; rfl
  have k6 : cs[6]? = some (.slice o.L.p o.L.xs.length o.L.cap) := by rw [← hcs, Ob.head _ _ (by decide)]; rfl
  have hs38 : cs.size = 38 := by rw [← hcs]; exact Ob.size ho.st
  obtain ⟨W0, hW0⟩ : ∃ W, (w.alloc (.cells #[.int .i64 l.d, .slice l.p l.xs.length l.cap] 25)).alloc (.cells cs 42) = W := ⟨_, rfl⟩
  have hB0 : Below w.heap.size w W0 := by rw [← hW0]; go_grown
  have hz : W0.heap.size = w.heap.size + 2 := by rw [← hW0]; simp
  have c0 : W0.cell? ⟨w.heap.size, 0, none⟩ = some (.int .i64 l.d) := by rw [← hW0]; simp [go_sem]
  have c1 : W0.cell? ⟨w.heap.size, 1, none⟩ = some (.slice l.p l.xs.length l.cap) := by rw [← hW0]; simp [go_sem]
  have hH : W0.heap[w.heap.size + 1]? = some (.cells cs 42) := by rw [← hW0]; simpa using heap_alloc_new (w.alloc (.cells #[.int .i64 l.d, .slice l.p l.xs.length l.cap] 25)) (.cells cs 42)
  have hn1 : w.heap.size + 1 < W0.heap.size := by omega
  have hX0 : Bx l cs w.heap.size W0 W0 := ⟨Below.refl _ _, c0, c1, run_load_at W0 (w.heap.size + 1) 0 _ cs _ (fun f u hu => by rw [Nat.zero_add]; exact heap_cells hH hu) Try.underlying42 rfl (by rw [hs38]; exact infoOb)⟩
  have HN : Hid (∀ X Y, Bx l cs w.heap.size W0 X → Below X.heap.size X Y → Bx l cs w.heap.size W0 Y) := Lib.hid (fun X Y h hb => h.next hb hH hs38 hn1)
  have H5 : Hid (∀ X, Bx l cs w.heap.size W0 X → X.cell? ⟨w.heap.size + 1, 5, none⟩ = some (.int .i64 o.L.d) ∧ X.cell? ⟨w.heap.size + 1, 6, none⟩ = some (.slice o.L.p o.L.xs.length o.L.cap)) := Lib.hid (fun X h => ⟨(h.bel.cell (p := ⟨w.heap.size + 1, 5, none⟩) hn1).trans (heap_cells hH k5), (h.bel.cell (p := ⟨w.heap.size + 1, 6, none⟩) hn1).trans (heap_cells hH k6)⟩)
  have HC : Hid (∀ X, Bx l cs w.heap.size W0 X → CatsAt X l.p l.xs ∧ ObOk X o) := Lib.hid (fun X h => ⟨(hl.below hB0).below h.bel, (ho.below hB0).below h.bel⟩)
  have HCS := Lib.hid hcs
  rw [hcs]
  have HL0 := Lib.hid (lives_any W0)
  clear hcs k5 k6 hs38 c0 c1 hH hl ho hz
  unfold Lab.val
  go_enter Try.func5, Try.ntmps5
  go_wp2_with (go_at_call 8; refine HL0.out.mono ?_; rintro e w1 ⟨rfl, hb1⟩; refine Hid.out ?_)
  refine Lib.hid ?_
  have hX1 := HN.out _ _ hX0 hb1
  have hn1' : w.heap.size + 1 < w1.heap.size := by have := hX1.bel.size; omega
  have c0 := hX1.c0
  have c1 := hX1.c1
  obtain ⟨hl1, ho1⟩ := HC.out _ hX1
  have HF := Lib.hid (refFree_any l.d l.p l.cap l.xs w1 hm hl1)
  clear hW0 HL0 hb1 hX0 hl1 ho1
  by_cases hf : freeS l.d l.xs = true
  · go_wp2_with (go_at_call 14; refine HF.out.mono ?_; rintro e w2 ⟨rfl, hb2⟩; refine Hid.out ?_)
    refine Lib.hid ?_
    have hX2 := HN.out _ _ hX1 hb2
    have hn2 : w.heap.size + 1 < w2.heap.size := by have := hX2.bel.size; omega
    obtain ⟨d5, d6⟩ := H5.out _ hX2
    obtain ⟨hl2, ho2⟩ := HC.out _ hX2
    have HP := Lib.hid (refPlain_any o.L.d o.L.p o.L.cap o.L.xs w2 ho2.Lm ho2.L)
    clear HF c0 c1 hb2 hX1 hl2 ho2
    by_cases hp : plainS o.L.d o.L.xs = true
    · go_wp2_with (go_at_call 15; refine HP.out.mono ?_; rintro e w3 ⟨rfl, hb3⟩; refine Hid.out ?_)
      refine Lib.hid ?_
      have hX3 := HN.out _ _ hX2 hb3
      have hn3 : w.heap.size + 1 < w3.heap.size := by have := hX3.bel.size; omega
      have hlen : l.xs.length + o.L.xs.length ≤ 17592186044000 := by
        have h1 := (right_rise (free_right hf)).2.2.1
        have h2 := (right_rise (plain_right hp)).2.2.1
        omega
      have hXg : ∀ n os, Bx l cs w.heap.size W0 (gx w3 n os) := fun n os => HN.out _ _ hX3 (gx_below w3 n os)
      have g0 : ∀ n os, (gx w3 n os).cell? ⟨w.heap.size, 0, none⟩ = some (.int .i64 l.d) := fun n os => (hXg n os).c0
      have g1 : ∀ n os, (gx w3 n os).cell? ⟨w.heap.size, 1, none⟩ = some (.slice l.p l.xs.length l.cap) := fun n os => (hXg n os).c1
      have HLD : Hid (∀ w', (∃ q : GrownBy, w' = gx w3 q.n q.os) → (loadVar 42 ⟨w.heap.size + 1, 0, none⟩).run Try.prog w' = .ok (.agg cs) w') := Lib.hid (fun w' ⟨q, hq⟩ => by subst hq; exact (hXg _ _).ld)
      have HL1 : Hid (∀ n os, Calls Try.prog 12 #[.agg #[.int .i64 l.d, .slice l.p l.xs.length l.cap], .agg cs] (gx w3 n os) fun e w'' => e = .returned (.bool (rlowS l o.L)) ∧ ∃ p : GrownBy, w'' = gx w3 p.n p.os) := Lib.hid (fun n os => by rw [← HCS.out, ← low_ref hf hp]; exact calls_gx (Low_any l o _ (HC.out _ (hXg n os)).1 hm (HC.out _ (hXg n os)).2))
      have HL2 : Hid (∀ n os, Calls Try.prog 21 #[.agg #[.int .i64 l.d, .slice l.p l.xs.length l.cap], .agg cs] (gx w3 n os) fun e w'' => e = .returned (.bool (rlowS l o.L)) ∧ ∃ p : GrownBy, w'' = gx w3 p.n p.os) := Lib.hid (fun n os => by rw [← HCS.out]; exact calls_gx (rLow_any l o _ (HC.out _ (hXg n os)).1 (HC.out _ (hXg n os)).2 hlen))
      have HL3 : Hid (∀ n os, Calls Try.prog 22 #[.agg #[.int .i64 l.d, .slice l.p l.xs.length l.cap], .agg cs] (gx w3 n os) fun e w'' => e = .returned (.bool (rownS o.kind l o.L)) ∧ ∃ p : GrownBy, w'' = gx w3 p.n p.os) := Lib.hid (fun n os => by rw [← HCS.out, ← own_ref o.kind hf hp]; exact calls_gx (Owner_any l o _ (HC.out _ (hXg n os)).1 hm (HC.out _ (hXg n os)).2))
      have HL4 : Hid (∀ n os, Calls Try.prog 23 #[.agg #[.int .i64 l.d, .slice l.p l.xs.length l.cap], .agg cs] (gx w3 n os) fun e w'' => e = .returned (.bool (rownS o.kind l o.L)) ∧ ∃ p : GrownBy, w'' = gx w3 p.n p.os) := Lib.hid (fun n os => by rw [← HCS.out]; exact calls_gx (rOwn_any l o _ (HC.out _ (hXg n os)).1 (HC.out _ (hXg n os)).2 hlen))
      obtain ⟨x1, hx1⟩ : ∃ x, rlowS l o.L = x := ⟨_, rfl⟩
      obtain ⟨x2, hx2⟩ : ∃ x, rownS o.kind l o.L = x := ⟨_, rfl⟩
      rw [hx1] at HL1 HL2
      rw [hx2] at HL3 HL4
      have HB := Lib.hid (hB0.trans (hX3.bel.mono hB0.size))
      have hn0 : w.heap.size < w3.heap.size := by omega
      clear HP d5 d6 hb3 hX2 hlen hf hp hx1 hx2 hXg hX3 HN H5 HC HCS hn2 hn1' hn1 hB0
      have e1 : (x1 == x1) = true := by simp
      have e2 : (x2 == x2) = true := by simp
      go_wp2
      refine wp_region_quiet_gx (by kernel_rfl) (by kernel_rfl) ?_
      iterate 1 (quiet_step (fail))
      go_big_quiet_want
      refine quiet_load_at 42 _ ⟨w.heap.size + 1, 0, none⟩ (.agg cs) rfl rfl HLD.out ?_
      go_simp
      go_big_quiet_on
      repeat (go_big_quiet_step (first | (go_at_call 12; with_reducible exact HL1.out _ _) | (go_at_call 21; with_reducible exact HL2.out _ _) | (go_at_call 22; with_reducible exact HL3.out _ _) | (go_at_call 23; with_reducible exact HL4.out _ _)))
      go_big_quiet_want
      refine quiet_load_at 42 _ ⟨w.heap.size + 1, 0, none⟩ (.agg cs) rfl rfl HLD.out ?_
      go_simp
      go_big_quiet_on
      repeat (go_big_quiet_step (first | (go_at_call 12; with_reducible exact HL1.out _ _) | (go_at_call 21; with_reducible exact HL2.out _ _) | (go_at_call 22; with_reducible exact HL3.out _ _) | (go_at_call 23; with_reducible exact HL4.out _ _)))
      go_big_quiet_want
      refine quiet_load_at 42 _ ⟨w.heap.size + 1, 0, none⟩ (.agg cs) rfl rfl HLD.out ?_
      go_simp
      go_big_quiet_on
      repeat (go_big_quiet_step (first | (go_at_call 12; with_reducible exact HL1.out _ _) | (go_at_call 21; with_reducible exact HL2.out _ _) | (go_at_call 22; with_reducible exact HL3.out _ _) | (go_at_call 23; with_reducible exact HL4.out _ _)))
      go_big_quiet_want
      refine quiet_load_at 42 _ ⟨w.heap.size + 1, 0, none⟩ (.agg cs) rfl rfl HLD.out ?_
      go_simp
      go_big_quiet_on
      repeat (go_big_quiet_step (first | (go_at_call 12; with_reducible exact HL1.out _ _) | (go_at_call 21; with_reducible exact HL2.out _ _) | (go_at_call 22; with_reducible exact HL3.out _ _) | (go_at_call 23; with_reducible exact HL4.out _ _)))
      refine wpQuiet_nil ?_
      intro _ hw'
      obtain ⟨⟨nq, osq⟩, hw''⟩ := hw'
      rw [hw'']
      have hbg := gx_below w3 nq osq
      go_wp2
      go_ret
      exact ⟨ret_bool (by simp), HB.out.trans (hbg.mono HB.out.size)⟩
    · have hp' : plainS o.L.d o.L.xs = false := by simpa using hp
      go_wp2_with (go_at_call 15; refine HP.out.mono ?_; rintro e w3 ⟨rfl, hb3⟩)
      go_ret
      exact ⟨rfl, hB0.trans ((HN.out _ _ hX2 hb3).bel.mono hB0.size)⟩
  · have hf' : freeS l.d l.xs = false := by simpa using hf
    go_wp2_with (go_at_call 14; refine HF.out.mono ?_; rintro e w2 ⟨rfl, hb2⟩)
    go_ret
    exact ⟨rfl, hB0.trans ((HN.out _ _ hX1 hb2).bel.mono hB0.size)⟩
end Go.Proofs.Ytonhdkldacghoaa
