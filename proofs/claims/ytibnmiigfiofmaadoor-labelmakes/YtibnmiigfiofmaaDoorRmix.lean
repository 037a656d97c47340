/- What Join and Meet of the reference answer, for every two labels. -/
import Derived.Test.YtibnmiigfiofmaaDoorMx
import Derived.Test.YtibnmiigfiofmaaDoorTail
namespace Go.Proofs.YtibnmiigfiofmaaDoor
open Go.RowKit Go.Sort

/-- A world that is as another was, but for one block and what is new. -/
structure Kp (b : Nat) (w w' : World) : Prop where
  os : w'.os = w.os
  tape : w'.tape = w.tape
  output : w'.output = w.output
  size : w.heap.size ≤ w'.heap.size
  block : ∀ k, k < w.heap.size → k ≠ b → w'.heap[k]? = w.heap[k]?
theorem Kp.refl (b : Nat) (w : World) : Kp b w w := ⟨rfl, rfl, rfl, Nat.le_refl _, fun _ _ _ => rfl⟩
theorem Kp.on {b : Nat} {w w' w2 : World} (h : Kp b w w') (hb : Below w'.heap.size w' w2) : Kp b w w2 :=
  ⟨hb.os.trans h.os, hb.tape.trans h.tape, hb.output.trans h.output, Nat.le_trans h.size hb.size, fun k hk hn => (hb.block k (Nat.lt_of_lt_of_le hk h.size)).trans (h.block k hk hn)⟩
theorem Kp.set {b : Nat} {w w' : World} (h : Kp b w w') (o : Nat) (u : Value) : Kp b w (w'.setCell ⟨b, o, none⟩ u) :=
  ⟨h.os, h.tape, h.output, by simpa using h.size, fun k hk hn => (Below.heap_setCell w' ⟨b, o, none⟩ u k hn).trans (h.block k hk hn)⟩
theorem Kp.cell {b : Nat} {w w' : World} (h : Kp b w w') {p : Addr} (hp : p.block < w.heap.size) (hn : p.block ≠ b) : w'.cell? p = w.cell? p := World.cell?_of_block (w := w) (h.block p.block hp hn)
theorem Kp.frozen {b : Nat} {w w' : World} (h : Kp b w w') {p : Addr} (hp : p.block < w.heap.size) (hn : p.block ≠ b) : w'.frozen? p = w.frozen? p := World.frozen?_of_block (w := w) (h.block p.block hp hn)
theorem Kp.below {b B : Nat} {w w' : World} (h : Kp b w w') (hB : B ≤ b) (hB' : B ≤ w.heap.size) : Below B w w' :=
  ⟨h.os, h.tape, h.output, h.size, fun k hk => h.block k (by omega) (by omega)⟩

theorem calls_bel {P : Program} {f : FuncId} {args : Array Value} {W0 W : World} {v : Value} (hW : Below W0.heap.size W0 W)
    (h : Calls P f args W fun e w' => e = .returned v ∧ Below W.heap.size W w') : Calls P f args W fun e w'' => e = .returned v ∧ ∃ p : GrownBy, w'' = gx W0 p.n p.os :=
  h.mono fun _ _ ⟨he, hb⟩ => ⟨he, below_gx (hW.trans (hb.mono hW.size))⟩
theorem bel_drew0 {W : World} : Below W.heap.size W W.drew := (Below.refl _ _).drew
theorem bel_drew {W : World} {n : Nat} {os : Array Obj} : Below W.heap.size W (gx W n os).drew := (gx_below W n os).drew
theorem bel_put {b : Nat} {w1 wr w5 : World} {n : Nat} {os : Array Obj} (hK : Kp b w1 wr) (h : Below (gx wr n os).heap.size (gx wr n os) w5) : Kp b w1 w5 := hK.on ((gx_below wr n os).trans (h.mono (gx_below wr n os).size))
theorem out_kept {b : Nat} {wr w5 : World} {n : Nat} {os : Array Obj} {v0 v1 : Value} (o0 : wr.cell? ⟨b, 0, none⟩ = some v0) (o1 : wr.cell? ⟨b, 1, none⟩ = some v1) (of : ∀ o, wr.frozen? ⟨b, o, none⟩ = false) (h : Below (gx wr n os).heap.size (gx wr n os) w5) (hb : b < wr.heap.size) :
    w5.cell? ⟨b, 0, none⟩ = some v0 ∧ w5.cell? ⟨b, 1, none⟩ = some v1 ∧ ∀ o, w5.frozen? ⟨b, o, none⟩ = false := by
  have hB := (gx_below wr n os).trans (h.mono (gx_below wr n os).size)
  exact ⟨(hB.cell (p := ⟨b, 0, none⟩) hb).trans o0, (hB.cell (p := ⟨b, 1, none⟩) hb).trans o1, fun o => (hB.frozen (p := ⟨b, o, none⟩) hb).trans (of o)⟩
def rmixS (m : Int → Int → Int) (A B : Lab) : List (Int × Int) := shortS (m A.d B.d) (rowS (fun c => m (atS A.d A.xs c) (atS B.d B.xs c)) (namedS [A, B]))

set_option maxRecDepth 100000 in
set_option maxHeartbeats 2000000 in
theorem rJoin_lt (A B : Lab) (w : World) (hm : A.xs.length + B.xs.length ≤ 1000000) (ha : CatsAt w A.p A.xs) (hb : CatsAt w B.p B.xs) (hd : A.d < B.d) :
    Calls Tryd.prog 23 #[.agg #[.int .i64 A.d, .slice A.p A.xs.length A.cap], .agg #[.int .i64 B.d, .slice B.p B.xs.length B.cap]] w fun e w' => ∃ v, e = .returned (.tuple #[.agg #[.int .i64 (fitD B.d (rmixS mx A B)), v], .int .i64 (fitE (rmixS mx A B))]) ∧ Rw w.heap.size w' v (fitL (rmixS mx A B)) ∧ Below w.heap.size w w' := by
  have ma : A.xs.length ≤ maxLen := by unfold maxLen; omega
  have mb : B.xs.length ≤ maxLen := by unfold maxLen; omega
  obtain ⟨W0, hW0⟩ : ∃ W0, W0 = (((w.alloc (.cells #[.int .i64 A.d, .slice A.p A.xs.length A.cap] 24)).alloc (.cells #[.int .i64 B.d, .slice B.p B.xs.length B.cap] 24)).alloc (.cells #[.int .i64 0, .slice none 0 0] 24)).alloc (.cells #[.int .i64 B.d, .slice none 0 0] 24) := ⟨_, rfl⟩
  have hB0 : Below w.heap.size w W0 := by rw [hW0]; go_grown
  have hs0 : W0.heap.size = w.heap.size + 1 + 1 + 1 + 1 := by rw [hW0]; simp
  have a0 : W0.cell? ⟨w.heap.size, 0, none⟩ = some (.int .i64 A.d) := by rw [hW0]; simp [go_sem]
  have a1 : W0.cell? ⟨w.heap.size, 1, none⟩ = some (.slice A.p A.xs.length A.cap) := by rw [hW0]; simp [go_sem]
  have b0 : W0.cell? ⟨w.heap.size + 1, 0, none⟩ = some (.int .i64 B.d) := by rw [hW0]; simp [go_sem]
  have b1 : W0.cell? ⟨w.heap.size + 1, 1, none⟩ = some (.slice B.p B.xs.length B.cap) := by rw [hW0]; simp [go_sem]
  have c0 : W0.cell? ⟨w.heap.size + 1 + 1, 0, none⟩ = some (.int .i64 0) := by rw [hW0]; simp [go_sem]
  have c1 : W0.cell? ⟨w.heap.size + 1 + 1, 1, none⟩ = some (.slice none 0 0) := by rw [hW0]; simp [go_sem]
  have o0 : W0.cell? ⟨w.heap.size + 1 + 1 + 1, 0, none⟩ = some (.int .i64 B.d) := by rw [hW0]; simp [go_sem]
  have o1 : W0.cell? ⟨w.heap.size + 1 + 1 + 1, 1, none⟩ = some (.slice none 0 0) := by rw [hW0]; simp [go_sem]
  have cf : ∀ o, W0.frozen? ⟨w.heap.size + 1 + 1, o, none⟩ = false := fun o => by rw [hW0]; simp [go_sem]
  have of : ∀ o, W0.frozen? ⟨w.heap.size + 1 + 1 + 1, o, none⟩ = false := fun o => by rw [hW0]; simp [go_sem]
  have hbA : Below W0.heap.size W0 (W0.alloc (.cells #[.int .i64 A.d, .slice A.p A.xs.length A.cap, .int .i64 B.d, .slice B.p B.xs.length B.cap] 24)) := by go_grown
  have hbA' := hB0.trans (hbA.mono hB0.size)
  have hN := Named_any W0.heap.size [A, B] _ (by simp) (by simp) (by simp [total]; omega) (labs2 (World.alloc_heap_new W0 (.cells #[.int .i64 A.d, .slice A.p A.xs.length A.cap, .int .i64 B.d, .slice B.p B.xs.length B.cap] 24)) ⟨ha.below hbA', ma⟩ ⟨hb.below hbA', mb⟩)
  simp only [List.length_cons, List.length_nil, Nat.zero_add, Nat.reduceAdd] at hN
  rw [hs0, hW0] at hN
  have hlen : (namedS [A, B]).length ≤ 1000000 := by
    have := named_len [A, B] 2
    simp [total] at this; omega
  have HD : Hid (rmixS mx A B = shortS B.d (rowS (fun c => mx (atS A.d A.xs c) (atS B.d B.xs c)) (namedS [A, B]))) := by
    have e : mx A.d B.d = B.d := by unfold mx; split <;> omega
    simp only [Hid, rmixS]; rw [e]
  obtain ⟨zz, hzz⟩ : ∃ zz, zz = rmixS mx A B := ⟨_, rfl⟩
  rw [← hzz] at HD ⊢
  clear hzz
  go_enter Tryd.func23, Tryd.ntmps23
  go_wp2_with (go_at_call 57; refine hN.mono ?_; rintro e w1 ⟨g, cap, rfl, hown, hb1⟩; refine Hid.out ?_)
  refine Lib.hid ?_
  rw [← hW0] at hown hb1
  have hb01 : Below W0.heap.size W0 w1 := hbA.trans (hb1.mono hbA.size)
  have hcell : ∀ k, (h : k < (namedS [A, B]).length) → w1.cell? ⟨g, k, none⟩ = some (.int .i64 (namedS [A, B])[k]) := fun k h => by
    rw [hown.cellAt k (by omega)]; simp [icells, h]
  have hg := hown.lt g rfl
  have hncap : (namedS [A, B]).length ≤ cap := by
    rcases hown.2 with ⟨h, _⟩ | ⟨_, _, _, h, _, _, h3, _⟩
    · cases h
    · cases h; exact h3
  have HCELL : Hid (∀ k, (h : k < (namedS [A, B]).length) → w1.cell? ⟨g, k, none⟩ = some (.int .i64 (namedS [A, B])[k])) := hcell
  have hg1 : w.heap.size + 1 + 1 + 1 + 1 ≤ g := by have := hg.1; simp at this; omega
  have hg2 := hg.2
  clear hN hown hb1 hcell hW0 hbA hbA' hg
  obtain ⟨cs, hcs⟩ : ∃ cs, cs = namedS [A, B] := ⟨_, rfl⟩
  rw [← hcs] at HCELL HD hlen hncap ⊢
  clear hcs
  have hB1 : Below w.heap.size w w1 := hB0.trans (hb01.mono hB0.size)
  have hz1 : w.heap.size + 1 + 1 + 1 + 1 ≤ w1.heap.size := by have := hb01.size; omega
  have c0' := (hb01.cell (p := ⟨w.heap.size + 1 + 1, 0, none⟩) (by simp; omega)).trans c0
  have c1' := (hb01.cell (p := ⟨w.heap.size + 1 + 1, 1, none⟩) (by simp; omega)).trans c1
  have o0' := (hb01.cell (p := ⟨w.heap.size + 1 + 1 + 1, 0, none⟩) (by simp; omega)).trans o0
  have o1' := (hb01.cell (p := ⟨w.heap.size + 1 + 1 + 1, 1, none⟩) (by simp; omega)).trans o1
  have cf' : ∀ o, w1.frozen? ⟨w.heap.size + 1 + 1, o, none⟩ = false := fun o => (hb01.frozen (p := ⟨w.heap.size + 1 + 1, o, none⟩) (by simp; omega)).trans (cf o)
  have of' : ∀ o, w1.frozen? ⟨w.heap.size + 1 + 1 + 1, o, none⟩ = false := fun o => (hb01.frozen (p := ⟨w.heap.size + 1 + 1 + 1, o, none⟩) (by simp; omega)).trans (of o)
  have a0' := (hb01.cell (p := ⟨w.heap.size, 0, none⟩) (by simp; omega)).trans a0
  have a1' := (hb01.cell (p := ⟨w.heap.size, 1, none⟩) (by simp; omega)).trans a1
  have b0' := (hb01.cell (p := ⟨w.heap.size + 1, 0, none⟩) (by simp; omega)).trans b0
  have b1' := (hb01.cell (p := ⟨w.heap.size + 1, 1, none⟩) (by simp; omega)).trans b1
  clear hb01 hB0 hs0 a0 a1 b0 b1 c0 c1 o0 o1 cf of
  go_wp2
  go_loopw [20] (fun i wr => ∃ (k : Nat) (v : Value), k ≤ cs.length ∧ i = .int .i64 k ∧ Rw w1.heap.size wr v (shortS B.d (rowS (fun c => mx (atS A.d A.xs c) (atS B.d B.xs c)) (cs.take k))) ∧ wr.cell? ⟨w.heap.size + 1 + 1 + 1, 0, none⟩ = some (.int .i64 B.d) ∧ wr.cell? ⟨w.heap.size + 1 + 1 + 1, 1, none⟩ = some v ∧ (∀ o, wr.frozen? ⟨w.heap.size + 1 + 1 + 1, o, none⟩ = false) ∧ Kp (w.heap.size + 1 + 1 + 1) w1 wr) (fun i _ => cs.length - (intOf i).toNat)
  case atStart => exact ⟨0, .slice none 0 0, Nat.zero_le _, rfl, .inl ⟨rfl, rfl⟩, o0', o1', of', Kp.refl _ _⟩
  case round =>
    obtain ⟨k, v, hk, rfl, hR, r0, r1, rf, hK⟩ := hrel
    have hzw : w.heap.size + 1 + 1 + 1 + 1 ≤ wr.heap.size := by have := hK.size; omega
    have p0 := (hK.cell (p := ⟨w.heap.size, 0, none⟩) (by simp; omega) (by simp <;> omega)).trans a0'
    have p1 := (hK.cell (p := ⟨w.heap.size, 1, none⟩) (by simp; omega) (by simp <;> omega)).trans a1'
    have q0 := (hK.cell (p := ⟨w.heap.size + 1, 0, none⟩) (by simp; omega) (by simp)).trans b0'
    have q1 := (hK.cell (p := ⟨w.heap.size + 1, 1, none⟩) (by simp; omega) (by simp)).trans b1'
    have hBw : Below w.heap.size w wr := hB1.trans (hK.below (by omega) (by omega))
    by_cases hlt : k < cs.length
    · have hx : wr.cell? ⟨g, k, none⟩ = some (.int .i64 cs[k]) := (hK.cell (p := ⟨g, k, none⟩) hg2 (by simp; omega)).trans (HCELL.out k hlt)
      have HS : Hid (shortS B.d (rowS (fun c => mx (atS A.d A.xs c) (atS B.d B.xs c)) (cs.take (k + 1))) = putS B.d (shortS B.d (rowS (fun c => mx (atS A.d A.xs c) (atS B.d B.xs c)) (cs.take k))) cs[k] (mx (atS A.d A.xs cs[k]) (atS B.d B.xs cs[k]))) := row_put _ _ cs k hlt
      have hle : (shortS B.d (rowS (fun c => mx (atS A.d A.xs c) (atS B.d B.xs c)) (cs.take k))).length ≤ k := by
        refine Nat.le_trans (short_le _ _) ?_
        rw [row_len]; exact List.length_take_le _ _
      have hki : (k : Int) < (cs.length : Int) := by omega
      have HA : Hid (∀ W, Below wr.heap.size wr W → CatsAt W A.p A.xs) := fun W h => (ha.below hBw).below h
      have HB : Hid (∀ W, Below wr.heap.size wr W → CatsAt W B.p B.xs) := fun W h => (hb.below hBw).below h
      obtain ⟨pv, cv, rfl, hcv, hlv⟩ := hR.out
      clear ha hb hcv
      obtain ⟨zs, hzs⟩ : ∃ zs, zs = shortS B.d (rowS (fun c => mx (atS A.d A.xs c) (atS B.d B.xs c)) (cs.take k)) := ⟨_, rfl⟩
      rw [← hzs] at hR HS hle r1 hlv
      have HR : Hid (∀ W, Below wr.heap.size wr W → Rw w1.heap.size W (.slice pv zs.length cv) zs) := fun W h => hR.below h
      have s0 : ∀ n os, (gx wr n os).cell? ⟨w.heap.size, 0, none⟩ = some (.int .i64 A.d) := fun n os => cell_gx (a := ⟨w.heap.size, 0, none⟩) (by simp; omega) p0 n os
      have s1 : ∀ n os, (gx wr n os).cell? ⟨w.heap.size, 1, none⟩ = some (.slice A.p A.xs.length A.cap) := fun n os => cell_gx (a := ⟨w.heap.size, 1, none⟩) (by simp; omega) p1 n os
      have t0 : ∀ n os, (gx wr n os).cell? ⟨w.heap.size + 1, 0, none⟩ = some (.int .i64 B.d) := fun n os => cell_gx (a := ⟨w.heap.size + 1, 0, none⟩) (by simp; omega) q0 n os
      have t1 : ∀ n os, (gx wr n os).cell? ⟨w.heap.size + 1, 1, none⟩ = some (.slice B.p B.xs.length B.cap) := fun n os => cell_gx (a := ⟨w.heap.size + 1, 1, none⟩) (by simp; omega) q1 n os
      have u0 : ∀ n os, (gx wr n os).cell? ⟨w.heap.size + 1 + 1 + 1, 0, none⟩ = some (.int .i64 B.d) := fun n os => cell_gx (a := ⟨w.heap.size + 1 + 1 + 1, 0, none⟩) (by simp; omega) r0 n os
      have u1 : ∀ n os, (gx wr n os).cell? ⟨w.heap.size + 1 + 1 + 1, 1, none⟩ = some (.slice pv zs.length cv) := fun n os => cell_gx (a := ⟨w.heap.size + 1 + 1 + 1, 1, none⟩) (by simp; omega) r1 n os
      have HK := Lib.hid hK
      clear hR hzs hK
      by_cases hv : atS A.d A.xs cs[k] < atS B.d B.xs cs[k]
      · have hmv : mx (atS A.d A.xs cs[k]) (atS B.d B.xs cs[k]) = atS B.d B.xs cs[k] := by unfold mx; split <;> omega
        rw [hmv] at HS
        have HP : Hid (∀ W, Below wr.heap.size wr W → Calls Tryd.prog 58 #[.agg #[.int .i64 B.d, .slice pv zs.length cv], .int .i64 cs[k], .int .i64 (atS B.d B.xs cs[k])] W fun e w' => ∃ v', e = .returned (.agg #[.int .i64 B.d, v']) ∧ Rw w1.heap.size w' v' (putS B.d zs cs[k] (atS B.d B.xs cs[k])) ∧ Below W.heap.size W w') := fun W h => Put_any w1.heap.size B.d cs[k] (atS B.d B.xs cs[k]) (.slice pv zs.length cv) zs W (by omega) (Nat.le_trans HK.out.size h.size) (HR.out W h)
        clear hmv
        go_wp2
        refine wp_region_tail_gx 9 (by kernel_rfl) (by kernel_rfl) ?_
        simp only [List.take_succ_cons, List.take_zero, List.drop_succ_cons, List.drop_zero]
        repeat (quiet_step (first
          | (go_at_call 17; with_reducible exact calls_gx (refAt_any A.d cs[k] A.p A.cap A.xs _ ma (HA.out _ (gx_below _ _ _))))
          | (go_at_call 17; with_reducible exact calls_gx (refAt_any B.d cs[k] B.p B.cap B.xs _ mb (HB.out _ (gx_below _ _ _))))))
        refine wpQuiet_nil ?_
        intro _ hw'
        obtain ⟨⟨nq, osq⟩, hw''⟩ := hw'
        subst hw''
        go_wp2_with (go_at_call 58; refine Calls.mono (HP.out _ (gx_below _ _ _)) ?_; rintro e w5 ⟨v5, rfl, hR5, hb5⟩; refine Hid.out ?_)
        refine Lib.hid ?_
        obtain ⟨p5, c5, rfl, hc5, hl5⟩ := hR5.out
        have hk5 := bel_put HK.out hb5
        obtain ⟨y0, y1, yf⟩ := out_kept (o0 := r0) (o1 := r1) (of := rf) hb5 (by omega)
        clear hb5 hc5 s0 s1 t0 t1 u0 u1 HR HA HB HP
        go_wp2
        go_roundw
        case rel =>
          refine ⟨k + 1, _, by omega, by go_num, by rw [HS.out]; exact Rw.set (Rw.set hR5 (by simp; omega) _) (by simp; omega) _, by simp [go_sem, y0], World.cell?_setCell_same' _ _ _ (by simp [go_sem, y1]), fun o => by rw [World.frozen?_setCell, World.frozen?_setCell]; exact yf o, (hk5.set _ _).set _ _⟩
        case measure => simp [intOf]; omega
      · have hmv : mx (atS A.d A.xs cs[k]) (atS B.d B.xs cs[k]) = atS A.d A.xs cs[k] := by unfold mx; split <;> omega
        rw [hmv] at HS
        have HP : Hid (∀ W, Below wr.heap.size wr W → Calls Tryd.prog 58 #[.agg #[.int .i64 B.d, .slice pv zs.length cv], .int .i64 cs[k], .int .i64 (atS A.d A.xs cs[k])] W fun e w' => ∃ v', e = .returned (.agg #[.int .i64 B.d, v']) ∧ Rw w1.heap.size w' v' (putS B.d zs cs[k] (atS A.d A.xs cs[k])) ∧ Below W.heap.size W w') := fun W h => Put_any w1.heap.size B.d cs[k] (atS A.d A.xs cs[k]) (.slice pv zs.length cv) zs W (by omega) (Nat.le_trans HK.out.size h.size) (HR.out W h)
        clear hmv
        go_wp2
        refine wp_region_tail_gx 9 (by kernel_rfl) (by kernel_rfl) ?_
        simp only [List.take_succ_cons, List.take_zero, List.drop_succ_cons, List.drop_zero]
        repeat (quiet_step (first
          | (go_at_call 17; with_reducible exact calls_gx (refAt_any A.d cs[k] A.p A.cap A.xs _ ma (HA.out _ (gx_below _ _ _))))
          | (go_at_call 17; with_reducible exact calls_gx (refAt_any B.d cs[k] B.p B.cap B.xs _ mb (HB.out _ (gx_below _ _ _))))))
        refine wpQuiet_nil ?_
        intro _ hw'
        obtain ⟨⟨nq, osq⟩, hw''⟩ := hw'
        subst hw''
        go_wp2_with (go_at_call 58; refine Calls.mono (HP.out _ (gx_below _ _ _)) ?_; rintro e w5 ⟨v5, rfl, hR5, hb5⟩; refine Hid.out ?_)
        refine Lib.hid ?_
        obtain ⟨p5, c5, rfl, hc5, hl5⟩ := hR5.out
        have hk5 := bel_put HK.out hb5
        obtain ⟨y0, y1, yf⟩ := out_kept (o0 := r0) (o1 := r1) (of := rf) hb5 (by omega)
        clear hb5 hc5 s0 s1 t0 t1 u0 u1 HR HA HB HP
        go_wp2
        go_roundw
        case rel =>
          refine ⟨k + 1, _, by omega, by go_num, by rw [HS.out]; exact Rw.set (Rw.set hR5 (by simp; omega) _) (by simp; omega) _, by simp [go_sem, y0], World.cell?_setCell_same' _ _ _ (by simp [go_sem, y1]), fun o => by rw [World.frozen?_setCell, World.frozen?_setCell]; exact yf o, (hk5.set _ _).set _ _⟩
        case measure => simp [intOf]; omega
    · have hk' : cs.take k = cs := List.take_of_length_le (by omega)
      rw [hk', ← HD.out] at hR
      have hC := Cut_any w1.heap.size B.d v zz wr hR
      obtain ⟨pv, cv, rfl, hcv, hlv⟩ := hR.out
      clear hk' ha hb hcv
      have x0 := (hK.cell (p := ⟨w.heap.size + 1 + 1, 0, none⟩) (by simp; omega) (by simp)).trans c0'
      have x1 := (hK.cell (p := ⟨w.heap.size + 1 + 1, 1, none⟩) (by simp; omega) (by simp)).trans c1'
      have xf : ∀ o, wr.frozen? ⟨w.heap.size + 1 + 1, o, none⟩ = false := fun o => (hK.frozen (p := ⟨w.heap.size + 1 + 1, o, none⟩) (by simp; omega) (by simp)).trans (cf' o)
      clear p0 p1 q0 q1
      go_wp2_with (go_at_call 59; refine hC.mono ?_; rintro e w5 ⟨v5, rfl, hR5, hb5⟩; refine Hid.out ?_)
      refine Lib.hid ?_
      obtain ⟨p5, c5, rfl, hc5, hl5⟩ := hR5.out
      have y0 := (hb5.cell (p := ⟨w.heap.size + 1 + 1, 0, none⟩) (by simp; omega)).trans x0
      have y1 := (hb5.cell (p := ⟨w.heap.size + 1 + 1, 1, none⟩) (by simp; omega)).trans x1
      have yf : ∀ o, w5.frozen? ⟨w.heap.size + 1 + 1, o, none⟩ = false := fun o => (hb5.frozen (p := ⟨w.heap.size + 1 + 1, o, none⟩) (by simp; omega)).trans (xf o)
      clear hC hc5 x0 x1 xf
      go_wp2
      refine bodyPost_ret (by simp [results, Tryd.results23, go_sem, y0, y1]; rfl) rfl ⟨_, rfl, ?_, ?_⟩
      · exact Rw.mono (Rw.set (Rw.set hR5 (by simp; omega) _) (by simp; omega) _) (by omega)
      · exact ((hBw.trans (hb5.mono hBw.size)).setCell (p := ⟨w.heap.size + 1 + 1, 0, none⟩) (by simp; omega) _).setCell (p := ⟨w.heap.size + 1 + 1, 1, none⟩) (by simp; omega) _

set_option maxRecDepth 100000 in
set_option maxHeartbeats 2000000 in
theorem rJoin_ge (A B : Lab) (w : World) (hm : A.xs.length + B.xs.length ≤ 1000000) (ha : CatsAt w A.p A.xs) (hb : CatsAt w B.p B.xs) (hd : ¬ A.d < B.d) :
    Calls Tryd.prog 23 #[.agg #[.int .i64 A.d, .slice A.p A.xs.length A.cap], .agg #[.int .i64 B.d, .slice B.p B.xs.length B.cap]] w fun e w' => ∃ v, e = .returned (.tuple #[.agg #[.int .i64 (fitD A.d (rmixS mx A B)), v], .int .i64 (fitE (rmixS mx A B))]) ∧ Rw w.heap.size w' v (fitL (rmixS mx A B)) ∧ Below w.heap.size w w' := by
  have ma : A.xs.length ≤ maxLen := by unfold maxLen; omega
  have mb : B.xs.length ≤ maxLen := by unfold maxLen; omega
  obtain ⟨W0, hW0⟩ : ∃ W0, W0 = (((w.alloc (.cells #[.int .i64 A.d, .slice A.p A.xs.length A.cap] 24)).alloc (.cells #[.int .i64 B.d, .slice B.p B.xs.length B.cap] 24)).alloc (.cells #[.int .i64 0, .slice none 0 0] 24)).alloc (.cells #[.int .i64 A.d, .slice none 0 0] 24) := ⟨_, rfl⟩
  have hB0 : Below w.heap.size w W0 := by rw [hW0]; go_grown
  have hs0 : W0.heap.size = w.heap.size + 1 + 1 + 1 + 1 := by rw [hW0]; simp
  have a0 : W0.cell? ⟨w.heap.size, 0, none⟩ = some (.int .i64 A.d) := by rw [hW0]; simp [go_sem]
  have a1 : W0.cell? ⟨w.heap.size, 1, none⟩ = some (.slice A.p A.xs.length A.cap) := by rw [hW0]; simp [go_sem]
  have b0 : W0.cell? ⟨w.heap.size + 1, 0, none⟩ = some (.int .i64 B.d) := by rw [hW0]; simp [go_sem]
  have b1 : W0.cell? ⟨w.heap.size + 1, 1, none⟩ = some (.slice B.p B.xs.length B.cap) := by rw [hW0]; simp [go_sem]
  have c0 : W0.cell? ⟨w.heap.size + 1 + 1, 0, none⟩ = some (.int .i64 0) := by rw [hW0]; simp [go_sem]
  have c1 : W0.cell? ⟨w.heap.size + 1 + 1, 1, none⟩ = some (.slice none 0 0) := by rw [hW0]; simp [go_sem]
  have o0 : W0.cell? ⟨w.heap.size + 1 + 1 + 1, 0, none⟩ = some (.int .i64 A.d) := by rw [hW0]; simp [go_sem]
  have o1 : W0.cell? ⟨w.heap.size + 1 + 1 + 1, 1, none⟩ = some (.slice none 0 0) := by rw [hW0]; simp [go_sem]
  have cf : ∀ o, W0.frozen? ⟨w.heap.size + 1 + 1, o, none⟩ = false := fun o => by rw [hW0]; simp [go_sem]
  have of : ∀ o, W0.frozen? ⟨w.heap.size + 1 + 1 + 1, o, none⟩ = false := fun o => by rw [hW0]; simp [go_sem]
  have hbA : Below W0.heap.size W0 (W0.alloc (.cells #[.int .i64 A.d, .slice A.p A.xs.length A.cap, .int .i64 B.d, .slice B.p B.xs.length B.cap] 24)) := by go_grown
  have hbA' := hB0.trans (hbA.mono hB0.size)
  have hN := Named_any W0.heap.size [A, B] _ (by simp) (by simp) (by simp [total]; omega) (labs2 (World.alloc_heap_new W0 (.cells #[.int .i64 A.d, .slice A.p A.xs.length A.cap, .int .i64 B.d, .slice B.p B.xs.length B.cap] 24)) ⟨ha.below hbA', ma⟩ ⟨hb.below hbA', mb⟩)
  simp only [List.length_cons, List.length_nil, Nat.zero_add, Nat.reduceAdd] at hN
  rw [hs0, hW0] at hN
  have hlen : (namedS [A, B]).length ≤ 1000000 := by
    have := named_len [A, B] 2
    simp [total] at this; omega
  have HD : Hid (rmixS mx A B = shortS A.d (rowS (fun c => mx (atS A.d A.xs c) (atS B.d B.xs c)) (namedS [A, B]))) := by
    have e : mx A.d B.d = A.d := by unfold mx; split <;> omega
    simp only [Hid, rmixS]; rw [e]
  obtain ⟨zz, hzz⟩ : ∃ zz, zz = rmixS mx A B := ⟨_, rfl⟩
  rw [← hzz] at HD ⊢
  clear hzz
  go_enter Tryd.func23, Tryd.ntmps23
  go_wp2_with (go_at_call 57; refine hN.mono ?_; rintro e w1 ⟨g, cap, rfl, hown, hb1⟩; refine Hid.out ?_)
  refine Lib.hid ?_
  rw [← hW0] at hown hb1
  have hb01 : Below W0.heap.size W0 w1 := hbA.trans (hb1.mono hbA.size)
  have hcell : ∀ k, (h : k < (namedS [A, B]).length) → w1.cell? ⟨g, k, none⟩ = some (.int .i64 (namedS [A, B])[k]) := fun k h => by
    rw [hown.cellAt k (by omega)]; simp [icells, h]
  have hg := hown.lt g rfl
  have hncap : (namedS [A, B]).length ≤ cap := by
    rcases hown.2 with ⟨h, _⟩ | ⟨_, _, _, h, _, _, h3, _⟩
    · cases h
    · cases h; exact h3
  have HCELL : Hid (∀ k, (h : k < (namedS [A, B]).length) → w1.cell? ⟨g, k, none⟩ = some (.int .i64 (namedS [A, B])[k])) := hcell
  have hg1 : w.heap.size + 1 + 1 + 1 + 1 ≤ g := by have := hg.1; simp at this; omega
  have hg2 := hg.2
  clear hN hown hb1 hcell hW0 hbA hbA' hg
  obtain ⟨cs, hcs⟩ : ∃ cs, cs = namedS [A, B] := ⟨_, rfl⟩
  rw [← hcs] at HCELL HD hlen hncap ⊢
  clear hcs
  have hB1 : Below w.heap.size w w1 := hB0.trans (hb01.mono hB0.size)
  have hz1 : w.heap.size + 1 + 1 + 1 + 1 ≤ w1.heap.size := by have := hb01.size; omega
  have c0' := (hb01.cell (p := ⟨w.heap.size + 1 + 1, 0, none⟩) (by simp; omega)).trans c0
  have c1' := (hb01.cell (p := ⟨w.heap.size + 1 + 1, 1, none⟩) (by simp; omega)).trans c1
  have o0' := (hb01.cell (p := ⟨w.heap.size + 1 + 1 + 1, 0, none⟩) (by simp; omega)).trans o0
  have o1' := (hb01.cell (p := ⟨w.heap.size + 1 + 1 + 1, 1, none⟩) (by simp; omega)).trans o1
  have cf' : ∀ o, w1.frozen? ⟨w.heap.size + 1 + 1, o, none⟩ = false := fun o => (hb01.frozen (p := ⟨w.heap.size + 1 + 1, o, none⟩) (by simp; omega)).trans (cf o)
  have of' : ∀ o, w1.frozen? ⟨w.heap.size + 1 + 1 + 1, o, none⟩ = false := fun o => (hb01.frozen (p := ⟨w.heap.size + 1 + 1 + 1, o, none⟩) (by simp; omega)).trans (of o)
  have a0' := (hb01.cell (p := ⟨w.heap.size, 0, none⟩) (by simp; omega)).trans a0
  have a1' := (hb01.cell (p := ⟨w.heap.size, 1, none⟩) (by simp; omega)).trans a1
  have b0' := (hb01.cell (p := ⟨w.heap.size + 1, 0, none⟩) (by simp; omega)).trans b0
  have b1' := (hb01.cell (p := ⟨w.heap.size + 1, 1, none⟩) (by simp; omega)).trans b1
  clear hb01 hB0 hs0 a0 a1 b0 b1 c0 c1 o0 o1 cf of
  go_wp2
  go_loopw [20] (fun i wr => ∃ (k : Nat) (v : Value), k ≤ cs.length ∧ i = .int .i64 k ∧ Rw w1.heap.size wr v (shortS A.d (rowS (fun c => mx (atS A.d A.xs c) (atS B.d B.xs c)) (cs.take k))) ∧ wr.cell? ⟨w.heap.size + 1 + 1 + 1, 0, none⟩ = some (.int .i64 A.d) ∧ wr.cell? ⟨w.heap.size + 1 + 1 + 1, 1, none⟩ = some v ∧ (∀ o, wr.frozen? ⟨w.heap.size + 1 + 1 + 1, o, none⟩ = false) ∧ Kp (w.heap.size + 1 + 1 + 1) w1 wr) (fun i _ => cs.length - (intOf i).toNat)
  case atStart => exact ⟨0, .slice none 0 0, Nat.zero_le _, rfl, .inl ⟨rfl, rfl⟩, o0', o1', of', Kp.refl _ _⟩
  case round =>
    obtain ⟨k, v, hk, rfl, hR, r0, r1, rf, hK⟩ := hrel
    have hzw : w.heap.size + 1 + 1 + 1 + 1 ≤ wr.heap.size := by have := hK.size; omega
    have p0 := (hK.cell (p := ⟨w.heap.size, 0, none⟩) (by simp; omega) (by simp <;> omega)).trans a0'
    have p1 := (hK.cell (p := ⟨w.heap.size, 1, none⟩) (by simp; omega) (by simp <;> omega)).trans a1'
    have q0 := (hK.cell (p := ⟨w.heap.size + 1, 0, none⟩) (by simp; omega) (by simp)).trans b0'
    have q1 := (hK.cell (p := ⟨w.heap.size + 1, 1, none⟩) (by simp; omega) (by simp)).trans b1'
    have hBw : Below w.heap.size w wr := hB1.trans (hK.below (by omega) (by omega))
    by_cases hlt : k < cs.length
    · have hx : wr.cell? ⟨g, k, none⟩ = some (.int .i64 cs[k]) := (hK.cell (p := ⟨g, k, none⟩) hg2 (by simp; omega)).trans (HCELL.out k hlt)
      have HS : Hid (shortS A.d (rowS (fun c => mx (atS A.d A.xs c) (atS B.d B.xs c)) (cs.take (k + 1))) = putS A.d (shortS A.d (rowS (fun c => mx (atS A.d A.xs c) (atS B.d B.xs c)) (cs.take k))) cs[k] (mx (atS A.d A.xs cs[k]) (atS B.d B.xs cs[k]))) := row_put _ _ cs k hlt
      have hle : (shortS A.d (rowS (fun c => mx (atS A.d A.xs c) (atS B.d B.xs c)) (cs.take k))).length ≤ k := by
        refine Nat.le_trans (short_le _ _) ?_
        rw [row_len]; exact List.length_take_le _ _
      have hki : (k : Int) < (cs.length : Int) := by omega
      have HA : Hid (∀ W, Below wr.heap.size wr W → CatsAt W A.p A.xs) := fun W h => (ha.below hBw).below h
      have HB : Hid (∀ W, Below wr.heap.size wr W → CatsAt W B.p B.xs) := fun W h => (hb.below hBw).below h
      obtain ⟨pv, cv, rfl, hcv, hlv⟩ := hR.out
      clear ha hb hcv
      obtain ⟨zs, hzs⟩ : ∃ zs, zs = shortS A.d (rowS (fun c => mx (atS A.d A.xs c) (atS B.d B.xs c)) (cs.take k)) := ⟨_, rfl⟩
      rw [← hzs] at hR HS hle r1 hlv
      have HR : Hid (∀ W, Below wr.heap.size wr W → Rw w1.heap.size W (.slice pv zs.length cv) zs) := fun W h => hR.below h
      have s0 : ∀ n os, (gx wr n os).cell? ⟨w.heap.size, 0, none⟩ = some (.int .i64 A.d) := fun n os => cell_gx (a := ⟨w.heap.size, 0, none⟩) (by simp; omega) p0 n os
      have s1 : ∀ n os, (gx wr n os).cell? ⟨w.heap.size, 1, none⟩ = some (.slice A.p A.xs.length A.cap) := fun n os => cell_gx (a := ⟨w.heap.size, 1, none⟩) (by simp; omega) p1 n os
      have t0 : ∀ n os, (gx wr n os).cell? ⟨w.heap.size + 1, 0, none⟩ = some (.int .i64 B.d) := fun n os => cell_gx (a := ⟨w.heap.size + 1, 0, none⟩) (by simp; omega) q0 n os
      have t1 : ∀ n os, (gx wr n os).cell? ⟨w.heap.size + 1, 1, none⟩ = some (.slice B.p B.xs.length B.cap) := fun n os => cell_gx (a := ⟨w.heap.size + 1, 1, none⟩) (by simp; omega) q1 n os
      have u0 : ∀ n os, (gx wr n os).cell? ⟨w.heap.size + 1 + 1 + 1, 0, none⟩ = some (.int .i64 A.d) := fun n os => cell_gx (a := ⟨w.heap.size + 1 + 1 + 1, 0, none⟩) (by simp; omega) r0 n os
      have u1 : ∀ n os, (gx wr n os).cell? ⟨w.heap.size + 1 + 1 + 1, 1, none⟩ = some (.slice pv zs.length cv) := fun n os => cell_gx (a := ⟨w.heap.size + 1 + 1 + 1, 1, none⟩) (by simp; omega) r1 n os
      have HK := Lib.hid hK
      clear hR hzs hK
      by_cases hv : atS A.d A.xs cs[k] < atS B.d B.xs cs[k]
      · have hmv : mx (atS A.d A.xs cs[k]) (atS B.d B.xs cs[k]) = atS B.d B.xs cs[k] := by unfold mx; split <;> omega
        rw [hmv] at HS
        have HP : Hid (∀ W, Below wr.heap.size wr W → Calls Tryd.prog 58 #[.agg #[.int .i64 A.d, .slice pv zs.length cv], .int .i64 cs[k], .int .i64 (atS B.d B.xs cs[k])] W fun e w' => ∃ v', e = .returned (.agg #[.int .i64 A.d, v']) ∧ Rw w1.heap.size w' v' (putS A.d zs cs[k] (atS B.d B.xs cs[k])) ∧ Below W.heap.size W w') := fun W h => Put_any w1.heap.size A.d cs[k] (atS B.d B.xs cs[k]) (.slice pv zs.length cv) zs W (by omega) (Nat.le_trans HK.out.size h.size) (HR.out W h)
        clear hmv
        go_wp2
        refine wp_region_tail_gx 9 (by kernel_rfl) (by kernel_rfl) ?_
        simp only [List.take_succ_cons, List.take_zero, List.drop_succ_cons, List.drop_zero]
        repeat (quiet_step (first
          | (go_at_call 17; with_reducible exact calls_gx (refAt_any A.d cs[k] A.p A.cap A.xs _ ma (HA.out _ (gx_below _ _ _))))
          | (go_at_call 17; with_reducible exact calls_gx (refAt_any B.d cs[k] B.p B.cap B.xs _ mb (HB.out _ (gx_below _ _ _))))))
        refine wpQuiet_nil ?_
        intro _ hw'
        obtain ⟨⟨nq, osq⟩, hw''⟩ := hw'
        subst hw''
        go_wp2_with (go_at_call 58; refine Calls.mono (HP.out _ (gx_below _ _ _)) ?_; rintro e w5 ⟨v5, rfl, hR5, hb5⟩; refine Hid.out ?_)
        refine Lib.hid ?_
        obtain ⟨p5, c5, rfl, hc5, hl5⟩ := hR5.out
        have hk5 := bel_put HK.out hb5
        obtain ⟨y0, y1, yf⟩ := out_kept (o0 := r0) (o1 := r1) (of := rf) hb5 (by omega)
        clear hb5 hc5 s0 s1 t0 t1 u0 u1 HR HA HB HP
        go_wp2
        go_roundw
        case rel =>
          refine ⟨k + 1, _, by omega, by go_num, by rw [HS.out]; exact Rw.set (Rw.set hR5 (by simp; omega) _) (by simp; omega) _, by simp [go_sem, y0], World.cell?_setCell_same' _ _ _ (by simp [go_sem, y1]), fun o => by rw [World.frozen?_setCell, World.frozen?_setCell]; exact yf o, (hk5.set _ _).set _ _⟩
        case measure => simp [intOf]; omega
      · have hmv : mx (atS A.d A.xs cs[k]) (atS B.d B.xs cs[k]) = atS A.d A.xs cs[k] := by unfold mx; split <;> omega
        rw [hmv] at HS
        have HP : Hid (∀ W, Below wr.heap.size wr W → Calls Tryd.prog 58 #[.agg #[.int .i64 A.d, .slice pv zs.length cv], .int .i64 cs[k], .int .i64 (atS A.d A.xs cs[k])] W fun e w' => ∃ v', e = .returned (.agg #[.int .i64 A.d, v']) ∧ Rw w1.heap.size w' v' (putS A.d zs cs[k] (atS A.d A.xs cs[k])) ∧ Below W.heap.size W w') := fun W h => Put_any w1.heap.size A.d cs[k] (atS A.d A.xs cs[k]) (.slice pv zs.length cv) zs W (by omega) (Nat.le_trans HK.out.size h.size) (HR.out W h)
        clear hmv
        go_wp2
        refine wp_region_tail_gx 9 (by kernel_rfl) (by kernel_rfl) ?_
        simp only [List.take_succ_cons, List.take_zero, List.drop_succ_cons, List.drop_zero]
        repeat (quiet_step (first
          | (go_at_call 17; with_reducible exact calls_gx (refAt_any A.d cs[k] A.p A.cap A.xs _ ma (HA.out _ (gx_below _ _ _))))
          | (go_at_call 17; with_reducible exact calls_gx (refAt_any B.d cs[k] B.p B.cap B.xs _ mb (HB.out _ (gx_below _ _ _))))))
        refine wpQuiet_nil ?_
        intro _ hw'
        obtain ⟨⟨nq, osq⟩, hw''⟩ := hw'
        subst hw''
        go_wp2_with (go_at_call 58; refine Calls.mono (HP.out _ (gx_below _ _ _)) ?_; rintro e w5 ⟨v5, rfl, hR5, hb5⟩; refine Hid.out ?_)
        refine Lib.hid ?_
        obtain ⟨p5, c5, rfl, hc5, hl5⟩ := hR5.out
        have hk5 := bel_put HK.out hb5
        obtain ⟨y0, y1, yf⟩ := out_kept (o0 := r0) (o1 := r1) (of := rf) hb5 (by omega)
        clear hb5 hc5 s0 s1 t0 t1 u0 u1 HR HA HB HP
        go_wp2
        go_roundw
        case rel =>
          refine ⟨k + 1, _, by omega, by go_num, by rw [HS.out]; exact Rw.set (Rw.set hR5 (by simp; omega) _) (by simp; omega) _, by simp [go_sem, y0], World.cell?_setCell_same' _ _ _ (by simp [go_sem, y1]), fun o => by rw [World.frozen?_setCell, World.frozen?_setCell]; exact yf o, (hk5.set _ _).set _ _⟩
        case measure => simp [intOf]; omega
    · have hk' : cs.take k = cs := List.take_of_length_le (by omega)
      rw [hk', ← HD.out] at hR
      have hC := Cut_any w1.heap.size A.d v zz wr hR
      obtain ⟨pv, cv, rfl, hcv, hlv⟩ := hR.out
      clear hk' ha hb hcv
      have x0 := (hK.cell (p := ⟨w.heap.size + 1 + 1, 0, none⟩) (by simp; omega) (by simp)).trans c0'
      have x1 := (hK.cell (p := ⟨w.heap.size + 1 + 1, 1, none⟩) (by simp; omega) (by simp)).trans c1'
      have xf : ∀ o, wr.frozen? ⟨w.heap.size + 1 + 1, o, none⟩ = false := fun o => (hK.frozen (p := ⟨w.heap.size + 1 + 1, o, none⟩) (by simp; omega) (by simp)).trans (cf' o)
      clear p0 p1 q0 q1
      go_wp2_with (go_at_call 59; refine hC.mono ?_; rintro e w5 ⟨v5, rfl, hR5, hb5⟩; refine Hid.out ?_)
      refine Lib.hid ?_
      obtain ⟨p5, c5, rfl, hc5, hl5⟩ := hR5.out
      have y0 := (hb5.cell (p := ⟨w.heap.size + 1 + 1, 0, none⟩) (by simp; omega)).trans x0
      have y1 := (hb5.cell (p := ⟨w.heap.size + 1 + 1, 1, none⟩) (by simp; omega)).trans x1
      have yf : ∀ o, w5.frozen? ⟨w.heap.size + 1 + 1, o, none⟩ = false := fun o => (hb5.frozen (p := ⟨w.heap.size + 1 + 1, o, none⟩) (by simp; omega)).trans (xf o)
      clear hC hc5 x0 x1 xf
      go_wp2
      refine bodyPost_ret (by simp [results, Tryd.results23, go_sem, y0, y1]; rfl) rfl ⟨_, rfl, ?_, ?_⟩
      · exact Rw.mono (Rw.set (Rw.set hR5 (by simp; omega) _) (by simp; omega) _) (by omega)
      · exact ((hBw.trans (hb5.mono hBw.size)).setCell (p := ⟨w.heap.size + 1 + 1, 0, none⟩) (by simp; omega) _).setCell (p := ⟨w.heap.size + 1 + 1, 1, none⟩) (by simp; omega) _

set_option maxRecDepth 100000 in
set_option maxHeartbeats 2000000 in
theorem rMeet_lt (A B : Lab) (w : World) (hm : A.xs.length + B.xs.length ≤ 1000000) (ha : CatsAt w A.p A.xs) (hb : CatsAt w B.p B.xs) (hd : B.d < A.d) :
    Calls Tryd.prog 25 #[.agg #[.int .i64 A.d, .slice A.p A.xs.length A.cap], .agg #[.int .i64 B.d, .slice B.p B.xs.length B.cap]] w fun e w' => ∃ v, e = .returned (.tuple #[.agg #[.int .i64 (fitD B.d (rmixS mn A B)), v], .int .i64 (fitE (rmixS mn A B))]) ∧ Rw w.heap.size w' v (fitL (rmixS mn A B)) ∧ Below w.heap.size w w' := by
  have ma : A.xs.length ≤ maxLen := by unfold maxLen; omega
  have mb : B.xs.length ≤ maxLen := by unfold maxLen; omega
  obtain ⟨W0, hW0⟩ : ∃ W0, W0 = (((w.alloc (.cells #[.int .i64 A.d, .slice A.p A.xs.length A.cap] 24)).alloc (.cells #[.int .i64 B.d, .slice B.p B.xs.length B.cap] 24)).alloc (.cells #[.int .i64 0, .slice none 0 0] 24)).alloc (.cells #[.int .i64 B.d, .slice none 0 0] 24) := ⟨_, rfl⟩
  have hB0 : Below w.heap.size w W0 := by rw [hW0]; go_grown
  have hs0 : W0.heap.size = w.heap.size + 1 + 1 + 1 + 1 := by rw [hW0]; simp
  have a0 : W0.cell? ⟨w.heap.size, 0, none⟩ = some (.int .i64 A.d) := by rw [hW0]; simp [go_sem]
  have a1 : W0.cell? ⟨w.heap.size, 1, none⟩ = some (.slice A.p A.xs.length A.cap) := by rw [hW0]; simp [go_sem]
  have b0 : W0.cell? ⟨w.heap.size + 1, 0, none⟩ = some (.int .i64 B.d) := by rw [hW0]; simp [go_sem]
  have b1 : W0.cell? ⟨w.heap.size + 1, 1, none⟩ = some (.slice B.p B.xs.length B.cap) := by rw [hW0]; simp [go_sem]
  have c0 : W0.cell? ⟨w.heap.size + 1 + 1, 0, none⟩ = some (.int .i64 0) := by rw [hW0]; simp [go_sem]
  have c1 : W0.cell? ⟨w.heap.size + 1 + 1, 1, none⟩ = some (.slice none 0 0) := by rw [hW0]; simp [go_sem]
  have o0 : W0.cell? ⟨w.heap.size + 1 + 1 + 1, 0, none⟩ = some (.int .i64 B.d) := by rw [hW0]; simp [go_sem]
  have o1 : W0.cell? ⟨w.heap.size + 1 + 1 + 1, 1, none⟩ = some (.slice none 0 0) := by rw [hW0]; simp [go_sem]
  have cf : ∀ o, W0.frozen? ⟨w.heap.size + 1 + 1, o, none⟩ = false := fun o => by rw [hW0]; simp [go_sem]
  have of : ∀ o, W0.frozen? ⟨w.heap.size + 1 + 1 + 1, o, none⟩ = false := fun o => by rw [hW0]; simp [go_sem]
  have hbA : Below W0.heap.size W0 (W0.alloc (.cells #[.int .i64 A.d, .slice A.p A.xs.length A.cap, .int .i64 B.d, .slice B.p B.xs.length B.cap] 24)) := by go_grown
  have hbA' := hB0.trans (hbA.mono hB0.size)
  have hN := Named_any W0.heap.size [A, B] _ (by simp) (by simp) (by simp [total]; omega) (labs2 (World.alloc_heap_new W0 (.cells #[.int .i64 A.d, .slice A.p A.xs.length A.cap, .int .i64 B.d, .slice B.p B.xs.length B.cap] 24)) ⟨ha.below hbA', ma⟩ ⟨hb.below hbA', mb⟩)
  simp only [List.length_cons, List.length_nil, Nat.zero_add, Nat.reduceAdd] at hN
  rw [hs0, hW0] at hN
  have hlen : (namedS [A, B]).length ≤ 1000000 := by
    have := named_len [A, B] 2
    simp [total] at this; omega
  have HD : Hid (rmixS mn A B = shortS B.d (rowS (fun c => mn (atS A.d A.xs c) (atS B.d B.xs c)) (namedS [A, B]))) := by
    have e : mn A.d B.d = B.d := by unfold mn; split <;> omega
    simp only [Hid, rmixS]; rw [e]
  obtain ⟨zz, hzz⟩ : ∃ zz, zz = rmixS mn A B := ⟨_, rfl⟩
  rw [← hzz] at HD ⊢
  clear hzz
  go_enter Tryd.func25, Tryd.ntmps25
  go_wp2_with (go_at_call 57; refine hN.mono ?_; rintro e w1 ⟨g, cap, rfl, hown, hb1⟩; refine Hid.out ?_)
  refine Lib.hid ?_
  rw [← hW0] at hown hb1
  have hb01 : Below W0.heap.size W0 w1 := hbA.trans (hb1.mono hbA.size)
  have hcell : ∀ k, (h : k < (namedS [A, B]).length) → w1.cell? ⟨g, k, none⟩ = some (.int .i64 (namedS [A, B])[k]) := fun k h => by
    rw [hown.cellAt k (by omega)]; simp [icells, h]
  have hg := hown.lt g rfl
  have hncap : (namedS [A, B]).length ≤ cap := by
    rcases hown.2 with ⟨h, _⟩ | ⟨_, _, _, h, _, _, h3, _⟩
    · cases h
    · cases h; exact h3
  have HCELL : Hid (∀ k, (h : k < (namedS [A, B]).length) → w1.cell? ⟨g, k, none⟩ = some (.int .i64 (namedS [A, B])[k])) := hcell
  have hg1 : w.heap.size + 1 + 1 + 1 + 1 ≤ g := by have := hg.1; simp at this; omega
  have hg2 := hg.2
  clear hN hown hb1 hcell hW0 hbA hbA' hg
  obtain ⟨cs, hcs⟩ : ∃ cs, cs = namedS [A, B] := ⟨_, rfl⟩
  rw [← hcs] at HCELL HD hlen hncap ⊢
  clear hcs
  have hB1 : Below w.heap.size w w1 := hB0.trans (hb01.mono hB0.size)
  have hz1 : w.heap.size + 1 + 1 + 1 + 1 ≤ w1.heap.size := by have := hb01.size; omega
  have c0' := (hb01.cell (p := ⟨w.heap.size + 1 + 1, 0, none⟩) (by simp; omega)).trans c0
  have c1' := (hb01.cell (p := ⟨w.heap.size + 1 + 1, 1, none⟩) (by simp; omega)).trans c1
  have o0' := (hb01.cell (p := ⟨w.heap.size + 1 + 1 + 1, 0, none⟩) (by simp; omega)).trans o0
  have o1' := (hb01.cell (p := ⟨w.heap.size + 1 + 1 + 1, 1, none⟩) (by simp; omega)).trans o1
  have cf' : ∀ o, w1.frozen? ⟨w.heap.size + 1 + 1, o, none⟩ = false := fun o => (hb01.frozen (p := ⟨w.heap.size + 1 + 1, o, none⟩) (by simp; omega)).trans (cf o)
  have of' : ∀ o, w1.frozen? ⟨w.heap.size + 1 + 1 + 1, o, none⟩ = false := fun o => (hb01.frozen (p := ⟨w.heap.size + 1 + 1 + 1, o, none⟩) (by simp; omega)).trans (of o)
  have a0' := (hb01.cell (p := ⟨w.heap.size, 0, none⟩) (by simp; omega)).trans a0
  have a1' := (hb01.cell (p := ⟨w.heap.size, 1, none⟩) (by simp; omega)).trans a1
  have b0' := (hb01.cell (p := ⟨w.heap.size + 1, 0, none⟩) (by simp; omega)).trans b0
  have b1' := (hb01.cell (p := ⟨w.heap.size + 1, 1, none⟩) (by simp; omega)).trans b1
  clear hb01 hB0 hs0 a0 a1 b0 b1 c0 c1 o0 o1 cf of
  go_wp2
  go_loopw [20] (fun i wr => ∃ (k : Nat) (v : Value), k ≤ cs.length ∧ i = .int .i64 k ∧ Rw w1.heap.size wr v (shortS B.d (rowS (fun c => mn (atS A.d A.xs c) (atS B.d B.xs c)) (cs.take k))) ∧ wr.cell? ⟨w.heap.size + 1 + 1 + 1, 0, none⟩ = some (.int .i64 B.d) ∧ wr.cell? ⟨w.heap.size + 1 + 1 + 1, 1, none⟩ = some v ∧ (∀ o, wr.frozen? ⟨w.heap.size + 1 + 1 + 1, o, none⟩ = false) ∧ Kp (w.heap.size + 1 + 1 + 1) w1 wr) (fun i _ => cs.length - (intOf i).toNat)
  case atStart => exact ⟨0, .slice none 0 0, Nat.zero_le _, rfl, .inl ⟨rfl, rfl⟩, o0', o1', of', Kp.refl _ _⟩
  case round =>
    obtain ⟨k, v, hk, rfl, hR, r0, r1, rf, hK⟩ := hrel
    have hzw : w.heap.size + 1 + 1 + 1 + 1 ≤ wr.heap.size := by have := hK.size; omega
    have p0 := (hK.cell (p := ⟨w.heap.size, 0, none⟩) (by simp; omega) (by simp <;> omega)).trans a0'
    have p1 := (hK.cell (p := ⟨w.heap.size, 1, none⟩) (by simp; omega) (by simp <;> omega)).trans a1'
    have q0 := (hK.cell (p := ⟨w.heap.size + 1, 0, none⟩) (by simp; omega) (by simp)).trans b0'
    have q1 := (hK.cell (p := ⟨w.heap.size + 1, 1, none⟩) (by simp; omega) (by simp)).trans b1'
    have hBw : Below w.heap.size w wr := hB1.trans (hK.below (by omega) (by omega))
    by_cases hlt : k < cs.length
    · have hx : wr.cell? ⟨g, k, none⟩ = some (.int .i64 cs[k]) := (hK.cell (p := ⟨g, k, none⟩) hg2 (by simp; omega)).trans (HCELL.out k hlt)
      have HS : Hid (shortS B.d (rowS (fun c => mn (atS A.d A.xs c) (atS B.d B.xs c)) (cs.take (k + 1))) = putS B.d (shortS B.d (rowS (fun c => mn (atS A.d A.xs c) (atS B.d B.xs c)) (cs.take k))) cs[k] (mn (atS A.d A.xs cs[k]) (atS B.d B.xs cs[k]))) := row_put _ _ cs k hlt
      have hle : (shortS B.d (rowS (fun c => mn (atS A.d A.xs c) (atS B.d B.xs c)) (cs.take k))).length ≤ k := by
        refine Nat.le_trans (short_le _ _) ?_
        rw [row_len]; exact List.length_take_le _ _
      have hki : (k : Int) < (cs.length : Int) := by omega
      have HA : Hid (∀ W, Below wr.heap.size wr W → CatsAt W A.p A.xs) := fun W h => (ha.below hBw).below h
      have HB : Hid (∀ W, Below wr.heap.size wr W → CatsAt W B.p B.xs) := fun W h => (hb.below hBw).below h
      obtain ⟨pv, cv, rfl, hcv, hlv⟩ := hR.out
      clear ha hb hcv
      obtain ⟨zs, hzs⟩ : ∃ zs, zs = shortS B.d (rowS (fun c => mn (atS A.d A.xs c) (atS B.d B.xs c)) (cs.take k)) := ⟨_, rfl⟩
      rw [← hzs] at hR HS hle r1 hlv
      have HR : Hid (∀ W, Below wr.heap.size wr W → Rw w1.heap.size W (.slice pv zs.length cv) zs) := fun W h => hR.below h
      have s0 : ∀ n os, (gx wr n os).cell? ⟨w.heap.size, 0, none⟩ = some (.int .i64 A.d) := fun n os => cell_gx (a := ⟨w.heap.size, 0, none⟩) (by simp; omega) p0 n os
      have s1 : ∀ n os, (gx wr n os).cell? ⟨w.heap.size, 1, none⟩ = some (.slice A.p A.xs.length A.cap) := fun n os => cell_gx (a := ⟨w.heap.size, 1, none⟩) (by simp; omega) p1 n os
      have t0 : ∀ n os, (gx wr n os).cell? ⟨w.heap.size + 1, 0, none⟩ = some (.int .i64 B.d) := fun n os => cell_gx (a := ⟨w.heap.size + 1, 0, none⟩) (by simp; omega) q0 n os
      have t1 : ∀ n os, (gx wr n os).cell? ⟨w.heap.size + 1, 1, none⟩ = some (.slice B.p B.xs.length B.cap) := fun n os => cell_gx (a := ⟨w.heap.size + 1, 1, none⟩) (by simp; omega) q1 n os
      have u0 : ∀ n os, (gx wr n os).cell? ⟨w.heap.size + 1 + 1 + 1, 0, none⟩ = some (.int .i64 B.d) := fun n os => cell_gx (a := ⟨w.heap.size + 1 + 1 + 1, 0, none⟩) (by simp; omega) r0 n os
      have u1 : ∀ n os, (gx wr n os).cell? ⟨w.heap.size + 1 + 1 + 1, 1, none⟩ = some (.slice pv zs.length cv) := fun n os => cell_gx (a := ⟨w.heap.size + 1 + 1 + 1, 1, none⟩) (by simp; omega) r1 n os
      have HK := Lib.hid hK
      clear hR hzs hK
      by_cases hv : atS B.d B.xs cs[k] < atS A.d A.xs cs[k]
      · have hmv : mn (atS A.d A.xs cs[k]) (atS B.d B.xs cs[k]) = atS B.d B.xs cs[k] := by unfold mn; split <;> omega
        rw [hmv] at HS
        have HP : Hid (∀ W, Below wr.heap.size wr W → Calls Tryd.prog 58 #[.agg #[.int .i64 B.d, .slice pv zs.length cv], .int .i64 cs[k], .int .i64 (atS B.d B.xs cs[k])] W fun e w' => ∃ v', e = .returned (.agg #[.int .i64 B.d, v']) ∧ Rw w1.heap.size w' v' (putS B.d zs cs[k] (atS B.d B.xs cs[k])) ∧ Below W.heap.size W w') := fun W h => Put_any w1.heap.size B.d cs[k] (atS B.d B.xs cs[k]) (.slice pv zs.length cv) zs W (by omega) (Nat.le_trans HK.out.size h.size) (HR.out W h)
        clear hmv
        go_wp2
        refine wp_region_tail_gx 9 (by kernel_rfl) (by kernel_rfl) ?_
        simp only [List.take_succ_cons, List.take_zero, List.drop_succ_cons, List.drop_zero]
        repeat (quiet_step (first
          | (go_at_call 17; with_reducible exact calls_gx (refAt_any A.d cs[k] A.p A.cap A.xs _ ma (HA.out _ (gx_below _ _ _))))
          | (go_at_call 17; with_reducible exact calls_gx (refAt_any B.d cs[k] B.p B.cap B.xs _ mb (HB.out _ (gx_below _ _ _))))))
        refine wpQuiet_nil ?_
        intro _ hw'
        obtain ⟨⟨nq, osq⟩, hw''⟩ := hw'
        subst hw''
        go_wp2_with (go_at_call 58; refine Calls.mono (HP.out _ (gx_below _ _ _)) ?_; rintro e w5 ⟨v5, rfl, hR5, hb5⟩; refine Hid.out ?_)
        refine Lib.hid ?_
        obtain ⟨p5, c5, rfl, hc5, hl5⟩ := hR5.out
        have hk5 := bel_put HK.out hb5
        obtain ⟨y0, y1, yf⟩ := out_kept (o0 := r0) (o1 := r1) (of := rf) hb5 (by omega)
        clear hb5 hc5 s0 s1 t0 t1 u0 u1 HR HA HB HP
        go_wp2
        go_roundw
        case rel =>
          refine ⟨k + 1, _, by omega, by go_num, by rw [HS.out]; exact Rw.set (Rw.set hR5 (by simp; omega) _) (by simp; omega) _, by simp [go_sem, y0], World.cell?_setCell_same' _ _ _ (by simp [go_sem, y1]), fun o => by rw [World.frozen?_setCell, World.frozen?_setCell]; exact yf o, (hk5.set _ _).set _ _⟩
        case measure => simp [intOf]; omega
      · have hmv : mn (atS A.d A.xs cs[k]) (atS B.d B.xs cs[k]) = atS A.d A.xs cs[k] := by unfold mn; split <;> omega
        rw [hmv] at HS
        have HP : Hid (∀ W, Below wr.heap.size wr W → Calls Tryd.prog 58 #[.agg #[.int .i64 B.d, .slice pv zs.length cv], .int .i64 cs[k], .int .i64 (atS A.d A.xs cs[k])] W fun e w' => ∃ v', e = .returned (.agg #[.int .i64 B.d, v']) ∧ Rw w1.heap.size w' v' (putS B.d zs cs[k] (atS A.d A.xs cs[k])) ∧ Below W.heap.size W w') := fun W h => Put_any w1.heap.size B.d cs[k] (atS A.d A.xs cs[k]) (.slice pv zs.length cv) zs W (by omega) (Nat.le_trans HK.out.size h.size) (HR.out W h)
        clear hmv
        go_wp2
        refine wp_region_tail_gx 9 (by kernel_rfl) (by kernel_rfl) ?_
        simp only [List.take_succ_cons, List.take_zero, List.drop_succ_cons, List.drop_zero]
        repeat (quiet_step (first
          | (go_at_call 17; with_reducible exact calls_gx (refAt_any A.d cs[k] A.p A.cap A.xs _ ma (HA.out _ (gx_below _ _ _))))
          | (go_at_call 17; with_reducible exact calls_gx (refAt_any B.d cs[k] B.p B.cap B.xs _ mb (HB.out _ (gx_below _ _ _))))))
        refine wpQuiet_nil ?_
        intro _ hw'
        obtain ⟨⟨nq, osq⟩, hw''⟩ := hw'
        subst hw''
        go_wp2_with (go_at_call 58; refine Calls.mono (HP.out _ (gx_below _ _ _)) ?_; rintro e w5 ⟨v5, rfl, hR5, hb5⟩; refine Hid.out ?_)
        refine Lib.hid ?_
        obtain ⟨p5, c5, rfl, hc5, hl5⟩ := hR5.out
        have hk5 := bel_put HK.out hb5
        obtain ⟨y0, y1, yf⟩ := out_kept (o0 := r0) (o1 := r1) (of := rf) hb5 (by omega)
        clear hb5 hc5 s0 s1 t0 t1 u0 u1 HR HA HB HP
        go_wp2
        go_roundw
        case rel =>
          refine ⟨k + 1, _, by omega, by go_num, by rw [HS.out]; exact Rw.set (Rw.set hR5 (by simp; omega) _) (by simp; omega) _, by simp [go_sem, y0], World.cell?_setCell_same' _ _ _ (by simp [go_sem, y1]), fun o => by rw [World.frozen?_setCell, World.frozen?_setCell]; exact yf o, (hk5.set _ _).set _ _⟩
        case measure => simp [intOf]; omega
    · have hk' : cs.take k = cs := List.take_of_length_le (by omega)
      rw [hk', ← HD.out] at hR
      have hC := Cut_any w1.heap.size B.d v zz wr hR
      obtain ⟨pv, cv, rfl, hcv, hlv⟩ := hR.out
      clear hk' ha hb hcv
      have x0 := (hK.cell (p := ⟨w.heap.size + 1 + 1, 0, none⟩) (by simp; omega) (by simp)).trans c0'
      have x1 := (hK.cell (p := ⟨w.heap.size + 1 + 1, 1, none⟩) (by simp; omega) (by simp)).trans c1'
      have xf : ∀ o, wr.frozen? ⟨w.heap.size + 1 + 1, o, none⟩ = false := fun o => (hK.frozen (p := ⟨w.heap.size + 1 + 1, o, none⟩) (by simp; omega) (by simp)).trans (cf' o)
      clear p0 p1 q0 q1
      go_wp2_with (go_at_call 59; refine hC.mono ?_; rintro e w5 ⟨v5, rfl, hR5, hb5⟩; refine Hid.out ?_)
      refine Lib.hid ?_
      obtain ⟨p5, c5, rfl, hc5, hl5⟩ := hR5.out
      have y0 := (hb5.cell (p := ⟨w.heap.size + 1 + 1, 0, none⟩) (by simp; omega)).trans x0
      have y1 := (hb5.cell (p := ⟨w.heap.size + 1 + 1, 1, none⟩) (by simp; omega)).trans x1
      have yf : ∀ o, w5.frozen? ⟨w.heap.size + 1 + 1, o, none⟩ = false := fun o => (hb5.frozen (p := ⟨w.heap.size + 1 + 1, o, none⟩) (by simp; omega)).trans (xf o)
      clear hC hc5 x0 x1 xf
      go_wp2
      refine bodyPost_ret (by simp [results, Tryd.results25, go_sem, y0, y1]; rfl) rfl ⟨_, rfl, ?_, ?_⟩
      · exact Rw.mono (Rw.set (Rw.set hR5 (by simp; omega) _) (by simp; omega) _) (by omega)
      · exact ((hBw.trans (hb5.mono hBw.size)).setCell (p := ⟨w.heap.size + 1 + 1, 0, none⟩) (by simp; omega) _).setCell (p := ⟨w.heap.size + 1 + 1, 1, none⟩) (by simp; omega) _

set_option maxRecDepth 100000 in
set_option maxHeartbeats 2000000 in
theorem rMeet_ge (A B : Lab) (w : World) (hm : A.xs.length + B.xs.length ≤ 1000000) (ha : CatsAt w A.p A.xs) (hb : CatsAt w B.p B.xs) (hd : ¬ B.d < A.d) :
    Calls Tryd.prog 25 #[.agg #[.int .i64 A.d, .slice A.p A.xs.length A.cap], .agg #[.int .i64 B.d, .slice B.p B.xs.length B.cap]] w fun e w' => ∃ v, e = .returned (.tuple #[.agg #[.int .i64 (fitD A.d (rmixS mn A B)), v], .int .i64 (fitE (rmixS mn A B))]) ∧ Rw w.heap.size w' v (fitL (rmixS mn A B)) ∧ Below w.heap.size w w' := by
  have ma : A.xs.length ≤ maxLen := by unfold maxLen; omega
  have mb : B.xs.length ≤ maxLen := by unfold maxLen; omega
  obtain ⟨W0, hW0⟩ : ∃ W0, W0 = (((w.alloc (.cells #[.int .i64 A.d, .slice A.p A.xs.length A.cap] 24)).alloc (.cells #[.int .i64 B.d, .slice B.p B.xs.length B.cap] 24)).alloc (.cells #[.int .i64 0, .slice none 0 0] 24)).alloc (.cells #[.int .i64 A.d, .slice none 0 0] 24) := ⟨_, rfl⟩
  have hB0 : Below w.heap.size w W0 := by rw [hW0]; go_grown
  have hs0 : W0.heap.size = w.heap.size + 1 + 1 + 1 + 1 := by rw [hW0]; simp
  have a0 : W0.cell? ⟨w.heap.size, 0, none⟩ = some (.int .i64 A.d) := by rw [hW0]; simp [go_sem]
  have a1 : W0.cell? ⟨w.heap.size, 1, none⟩ = some (.slice A.p A.xs.length A.cap) := by rw [hW0]; simp [go_sem]
  have b0 : W0.cell? ⟨w.heap.size + 1, 0, none⟩ = some (.int .i64 B.d) := by rw [hW0]; simp [go_sem]
  have b1 : W0.cell? ⟨w.heap.size + 1, 1, none⟩ = some (.slice B.p B.xs.length B.cap) := by rw [hW0]; simp [go_sem]
  have c0 : W0.cell? ⟨w.heap.size + 1 + 1, 0, none⟩ = some (.int .i64 0) := by rw [hW0]; simp [go_sem]
  have c1 : W0.cell? ⟨w.heap.size + 1 + 1, 1, none⟩ = some (.slice none 0 0) := by rw [hW0]; simp [go_sem]
  have o0 : W0.cell? ⟨w.heap.size + 1 + 1 + 1, 0, none⟩ = some (.int .i64 A.d) := by rw [hW0]; simp [go_sem]
  have o1 : W0.cell? ⟨w.heap.size + 1 + 1 + 1, 1, none⟩ = some (.slice none 0 0) := by rw [hW0]; simp [go_sem]
  have cf : ∀ o, W0.frozen? ⟨w.heap.size + 1 + 1, o, none⟩ = false := fun o => by rw [hW0]; simp [go_sem]
  have of : ∀ o, W0.frozen? ⟨w.heap.size + 1 + 1 + 1, o, none⟩ = false := fun o => by rw [hW0]; simp [go_sem]
  have hbA : Below W0.heap.size W0 (W0.alloc (.cells #[.int .i64 A.d, .slice A.p A.xs.length A.cap, .int .i64 B.d, .slice B.p B.xs.length B.cap] 24)) := by go_grown
  have hbA' := hB0.trans (hbA.mono hB0.size)
  have hN := Named_any W0.heap.size [A, B] _ (by simp) (by simp) (by simp [total]; omega) (labs2 (World.alloc_heap_new W0 (.cells #[.int .i64 A.d, .slice A.p A.xs.length A.cap, .int .i64 B.d, .slice B.p B.xs.length B.cap] 24)) ⟨ha.below hbA', ma⟩ ⟨hb.below hbA', mb⟩)
  simp only [List.length_cons, List.length_nil, Nat.zero_add, Nat.reduceAdd] at hN
  rw [hs0, hW0] at hN
  have hlen : (namedS [A, B]).length ≤ 1000000 := by
    have := named_len [A, B] 2
    simp [total] at this; omega
  have HD : Hid (rmixS mn A B = shortS A.d (rowS (fun c => mn (atS A.d A.xs c) (atS B.d B.xs c)) (namedS [A, B]))) := by
    have e : mn A.d B.d = A.d := by unfold mn; split <;> omega
    simp only [Hid, rmixS]; rw [e]
  obtain ⟨zz, hzz⟩ : ∃ zz, zz = rmixS mn A B := ⟨_, rfl⟩
  rw [← hzz] at HD ⊢
  clear hzz
  go_enter Tryd.func25, Tryd.ntmps25
  go_wp2_with (go_at_call 57; refine hN.mono ?_; rintro e w1 ⟨g, cap, rfl, hown, hb1⟩; refine Hid.out ?_)
  refine Lib.hid ?_
  rw [← hW0] at hown hb1
  have hb01 : Below W0.heap.size W0 w1 := hbA.trans (hb1.mono hbA.size)
  have hcell : ∀ k, (h : k < (namedS [A, B]).length) → w1.cell? ⟨g, k, none⟩ = some (.int .i64 (namedS [A, B])[k]) := fun k h => by
    rw [hown.cellAt k (by omega)]; simp [icells, h]
  have hg := hown.lt g rfl
  have hncap : (namedS [A, B]).length ≤ cap := by
    rcases hown.2 with ⟨h, _⟩ | ⟨_, _, _, h, _, _, h3, _⟩
    · cases h
    · cases h; exact h3
  have HCELL : Hid (∀ k, (h : k < (namedS [A, B]).length) → w1.cell? ⟨g, k, none⟩ = some (.int .i64 (namedS [A, B])[k])) := hcell
  have hg1 : w.heap.size + 1 + 1 + 1 + 1 ≤ g := by have := hg.1; simp at this; omega
  have hg2 := hg.2
  clear hN hown hb1 hcell hW0 hbA hbA' hg
  obtain ⟨cs, hcs⟩ : ∃ cs, cs = namedS [A, B] := ⟨_, rfl⟩
  rw [← hcs] at HCELL HD hlen hncap ⊢
  clear hcs
  have hB1 : Below w.heap.size w w1 := hB0.trans (hb01.mono hB0.size)
  have hz1 : w.heap.size + 1 + 1 + 1 + 1 ≤ w1.heap.size := by have := hb01.size; omega
  have c0' := (hb01.cell (p := ⟨w.heap.size + 1 + 1, 0, none⟩) (by simp; omega)).trans c0
  have c1' := (hb01.cell (p := ⟨w.heap.size + 1 + 1, 1, none⟩) (by simp; omega)).trans c1
  have o0' := (hb01.cell (p := ⟨w.heap.size + 1 + 1 + 1, 0, none⟩) (by simp; omega)).trans o0
  have o1' := (hb01.cell (p := ⟨w.heap.size + 1 + 1 + 1, 1, none⟩) (by simp; omega)).trans o1
  have cf' : ∀ o, w1.frozen? ⟨w.heap.size + 1 + 1, o, none⟩ = false := fun o => (hb01.frozen (p := ⟨w.heap.size + 1 + 1, o, none⟩) (by simp; omega)).trans (cf o)
  have of' : ∀ o, w1.frozen? ⟨w.heap.size + 1 + 1 + 1, o, none⟩ = false := fun o => (hb01.frozen (p := ⟨w.heap.size + 1 + 1 + 1, o, none⟩) (by simp; omega)).trans (of o)
  have a0' := (hb01.cell (p := ⟨w.heap.size, 0, none⟩) (by simp; omega)).trans a0
  have a1' := (hb01.cell (p := ⟨w.heap.size, 1, none⟩) (by simp; omega)).trans a1
  have b0' := (hb01.cell (p := ⟨w.heap.size + 1, 0, none⟩) (by simp; omega)).trans b0
  have b1' := (hb01.cell (p := ⟨w.heap.size + 1, 1, none⟩) (by simp; omega)).trans b1
  clear hb01 hB0 hs0 a0 a1 b0 b1 c0 c1 o0 o1 cf of
  go_wp2
  go_loopw [20] (fun i wr => ∃ (k : Nat) (v : Value), k ≤ cs.length ∧ i = .int .i64 k ∧ Rw w1.heap.size wr v (shortS A.d (rowS (fun c => mn (atS A.d A.xs c) (atS B.d B.xs c)) (cs.take k))) ∧ wr.cell? ⟨w.heap.size + 1 + 1 + 1, 0, none⟩ = some (.int .i64 A.d) ∧ wr.cell? ⟨w.heap.size + 1 + 1 + 1, 1, none⟩ = some v ∧ (∀ o, wr.frozen? ⟨w.heap.size + 1 + 1 + 1, o, none⟩ = false) ∧ Kp (w.heap.size + 1 + 1 + 1) w1 wr) (fun i _ => cs.length - (intOf i).toNat)
  case atStart => exact ⟨0, .slice none 0 0, Nat.zero_le _, rfl, .inl ⟨rfl, rfl⟩, o0', o1', of', Kp.refl _ _⟩
  case round =>
    obtain ⟨k, v, hk, rfl, hR, r0, r1, rf, hK⟩ := hrel
    have hzw : w.heap.size + 1 + 1 + 1 + 1 ≤ wr.heap.size := by have := hK.size; omega
    have p0 := (hK.cell (p := ⟨w.heap.size, 0, none⟩) (by simp; omega) (by simp <;> omega)).trans a0'
    have p1 := (hK.cell (p := ⟨w.heap.size, 1, none⟩) (by simp; omega) (by simp <;> omega)).trans a1'
    have q0 := (hK.cell (p := ⟨w.heap.size + 1, 0, none⟩) (by simp; omega) (by simp)).trans b0'
    have q1 := (hK.cell (p := ⟨w.heap.size + 1, 1, none⟩) (by simp; omega) (by simp)).trans b1'
    have hBw : Below w.heap.size w wr := hB1.trans (hK.below (by omega) (by omega))
    by_cases hlt : k < cs.length
    · have hx : wr.cell? ⟨g, k, none⟩ = some (.int .i64 cs[k]) := (hK.cell (p := ⟨g, k, none⟩) hg2 (by simp; omega)).trans (HCELL.out k hlt)
      have HS : Hid (shortS A.d (rowS (fun c => mn (atS A.d A.xs c) (atS B.d B.xs c)) (cs.take (k + 1))) = putS A.d (shortS A.d (rowS (fun c => mn (atS A.d A.xs c) (atS B.d B.xs c)) (cs.take k))) cs[k] (mn (atS A.d A.xs cs[k]) (atS B.d B.xs cs[k]))) := row_put _ _ cs k hlt
      have hle : (shortS A.d (rowS (fun c => mn (atS A.d A.xs c) (atS B.d B.xs c)) (cs.take k))).length ≤ k := by
        refine Nat.le_trans (short_le _ _) ?_
        rw [row_len]; exact List.length_take_le _ _
      have hki : (k : Int) < (cs.length : Int) := by omega
      have HA : Hid (∀ W, Below wr.heap.size wr W → CatsAt W A.p A.xs) := fun W h => (ha.below hBw).below h
      have HB : Hid (∀ W, Below wr.heap.size wr W → CatsAt W B.p B.xs) := fun W h => (hb.below hBw).below h
      obtain ⟨pv, cv, rfl, hcv, hlv⟩ := hR.out
      clear ha hb hcv
      obtain ⟨zs, hzs⟩ : ∃ zs, zs = shortS A.d (rowS (fun c => mn (atS A.d A.xs c) (atS B.d B.xs c)) (cs.take k)) := ⟨_, rfl⟩
      rw [← hzs] at hR HS hle r1 hlv
      have HR : Hid (∀ W, Below wr.heap.size wr W → Rw w1.heap.size W (.slice pv zs.length cv) zs) := fun W h => hR.below h
      have s0 : ∀ n os, (gx wr n os).cell? ⟨w.heap.size, 0, none⟩ = some (.int .i64 A.d) := fun n os => cell_gx (a := ⟨w.heap.size, 0, none⟩) (by simp; omega) p0 n os
      have s1 : ∀ n os, (gx wr n os).cell? ⟨w.heap.size, 1, none⟩ = some (.slice A.p A.xs.length A.cap) := fun n os => cell_gx (a := ⟨w.heap.size, 1, none⟩) (by simp; omega) p1 n os
      have t0 : ∀ n os, (gx wr n os).cell? ⟨w.heap.size + 1, 0, none⟩ = some (.int .i64 B.d) := fun n os => cell_gx (a := ⟨w.heap.size + 1, 0, none⟩) (by simp; omega) q0 n os
      have t1 : ∀ n os, (gx wr n os).cell? ⟨w.heap.size + 1, 1, none⟩ = some (.slice B.p B.xs.length B.cap) := fun n os => cell_gx (a := ⟨w.heap.size + 1, 1, none⟩) (by simp; omega) q1 n os
      have u0 : ∀ n os, (gx wr n os).cell? ⟨w.heap.size + 1 + 1 + 1, 0, none⟩ = some (.int .i64 A.d) := fun n os => cell_gx (a := ⟨w.heap.size + 1 + 1 + 1, 0, none⟩) (by simp; omega) r0 n os
      have u1 : ∀ n os, (gx wr n os).cell? ⟨w.heap.size + 1 + 1 + 1, 1, none⟩ = some (.slice pv zs.length cv) := fun n os => cell_gx (a := ⟨w.heap.size + 1 + 1 + 1, 1, none⟩) (by simp; omega) r1 n os
      have HK := Lib.hid hK
      clear hR hzs hK
      by_cases hv : atS B.d B.xs cs[k] < atS A.d A.xs cs[k]
      · have hmv : mn (atS A.d A.xs cs[k]) (atS B.d B.xs cs[k]) = atS B.d B.xs cs[k] := by unfold mn; split <;> omega
        rw [hmv] at HS
        have HP : Hid (∀ W, Below wr.heap.size wr W → Calls Tryd.prog 58 #[.agg #[.int .i64 A.d, .slice pv zs.length cv], .int .i64 cs[k], .int .i64 (atS B.d B.xs cs[k])] W fun e w' => ∃ v', e = .returned (.agg #[.int .i64 A.d, v']) ∧ Rw w1.heap.size w' v' (putS A.d zs cs[k] (atS B.d B.xs cs[k])) ∧ Below W.heap.size W w') := fun W h => Put_any w1.heap.size A.d cs[k] (atS B.d B.xs cs[k]) (.slice pv zs.length cv) zs W (by omega) (Nat.le_trans HK.out.size h.size) (HR.out W h)
        clear hmv
        go_wp2
        refine wp_region_tail_gx 9 (by kernel_rfl) (by kernel_rfl) ?_
        simp only [List.take_succ_cons, List.take_zero, List.drop_succ_cons, List.drop_zero]
        repeat (quiet_step (first
          | (go_at_call 17; with_reducible exact calls_gx (refAt_any A.d cs[k] A.p A.cap A.xs _ ma (HA.out _ (gx_below _ _ _))))
          | (go_at_call 17; with_reducible exact calls_gx (refAt_any B.d cs[k] B.p B.cap B.xs _ mb (HB.out _ (gx_below _ _ _))))))
        refine wpQuiet_nil ?_
        intro _ hw'
        obtain ⟨⟨nq, osq⟩, hw''⟩ := hw'
        subst hw''
        go_wp2_with (go_at_call 58; refine Calls.mono (HP.out _ (gx_below _ _ _)) ?_; rintro e w5 ⟨v5, rfl, hR5, hb5⟩; refine Hid.out ?_)
        refine Lib.hid ?_
        obtain ⟨p5, c5, rfl, hc5, hl5⟩ := hR5.out
        have hk5 := bel_put HK.out hb5
        obtain ⟨y0, y1, yf⟩ := out_kept (o0 := r0) (o1 := r1) (of := rf) hb5 (by omega)
        clear hb5 hc5 s0 s1 t0 t1 u0 u1 HR HA HB HP
        go_wp2
        go_roundw
        case rel =>
          refine ⟨k + 1, _, by omega, by go_num, by rw [HS.out]; exact Rw.set (Rw.set hR5 (by simp; omega) _) (by simp; omega) _, by simp [go_sem, y0], World.cell?_setCell_same' _ _ _ (by simp [go_sem, y1]), fun o => by rw [World.frozen?_setCell, World.frozen?_setCell]; exact yf o, (hk5.set _ _).set _ _⟩
        case measure => simp [intOf]; omega
      · have hmv : mn (atS A.d A.xs cs[k]) (atS B.d B.xs cs[k]) = atS A.d A.xs cs[k] := by unfold mn; split <;> omega
        rw [hmv] at HS
        have HP : Hid (∀ W, Below wr.heap.size wr W → Calls Tryd.prog 58 #[.agg #[.int .i64 A.d, .slice pv zs.length cv], .int .i64 cs[k], .int .i64 (atS A.d A.xs cs[k])] W fun e w' => ∃ v', e = .returned (.agg #[.int .i64 A.d, v']) ∧ Rw w1.heap.size w' v' (putS A.d zs cs[k] (atS A.d A.xs cs[k])) ∧ Below W.heap.size W w') := fun W h => Put_any w1.heap.size A.d cs[k] (atS A.d A.xs cs[k]) (.slice pv zs.length cv) zs W (by omega) (Nat.le_trans HK.out.size h.size) (HR.out W h)
        clear hmv
        go_wp2
        refine wp_region_tail_gx 9 (by kernel_rfl) (by kernel_rfl) ?_
        simp only [List.take_succ_cons, List.take_zero, List.drop_succ_cons, List.drop_zero]
        repeat (quiet_step (first
          | (go_at_call 17; with_reducible exact calls_gx (refAt_any A.d cs[k] A.p A.cap A.xs _ ma (HA.out _ (gx_below _ _ _))))
          | (go_at_call 17; with_reducible exact calls_gx (refAt_any B.d cs[k] B.p B.cap B.xs _ mb (HB.out _ (gx_below _ _ _))))))
        refine wpQuiet_nil ?_
        intro _ hw'
        obtain ⟨⟨nq, osq⟩, hw''⟩ := hw'
        subst hw''
        go_wp2_with (go_at_call 58; refine Calls.mono (HP.out _ (gx_below _ _ _)) ?_; rintro e w5 ⟨v5, rfl, hR5, hb5⟩; refine Hid.out ?_)
        refine Lib.hid ?_
        obtain ⟨p5, c5, rfl, hc5, hl5⟩ := hR5.out
        have hk5 := bel_put HK.out hb5
        obtain ⟨y0, y1, yf⟩ := out_kept (o0 := r0) (o1 := r1) (of := rf) hb5 (by omega)
        clear hb5 hc5 s0 s1 t0 t1 u0 u1 HR HA HB HP
        go_wp2
        go_roundw
        case rel =>
          refine ⟨k + 1, _, by omega, by go_num, by rw [HS.out]; exact Rw.set (Rw.set hR5 (by simp; omega) _) (by simp; omega) _, by simp [go_sem, y0], World.cell?_setCell_same' _ _ _ (by simp [go_sem, y1]), fun o => by rw [World.frozen?_setCell, World.frozen?_setCell]; exact yf o, (hk5.set _ _).set _ _⟩
        case measure => simp [intOf]; omega
    · have hk' : cs.take k = cs := List.take_of_length_le (by omega)
      rw [hk', ← HD.out] at hR
      have hC := Cut_any w1.heap.size A.d v zz wr hR
      obtain ⟨pv, cv, rfl, hcv, hlv⟩ := hR.out
      clear hk' ha hb hcv
      have x0 := (hK.cell (p := ⟨w.heap.size + 1 + 1, 0, none⟩) (by simp; omega) (by simp)).trans c0'
      have x1 := (hK.cell (p := ⟨w.heap.size + 1 + 1, 1, none⟩) (by simp; omega) (by simp)).trans c1'
      have xf : ∀ o, wr.frozen? ⟨w.heap.size + 1 + 1, o, none⟩ = false := fun o => (hK.frozen (p := ⟨w.heap.size + 1 + 1, o, none⟩) (by simp; omega) (by simp)).trans (cf' o)
      clear p0 p1 q0 q1
      go_wp2_with (go_at_call 59; refine hC.mono ?_; rintro e w5 ⟨v5, rfl, hR5, hb5⟩; refine Hid.out ?_)
      refine Lib.hid ?_
      obtain ⟨p5, c5, rfl, hc5, hl5⟩ := hR5.out
      have y0 := (hb5.cell (p := ⟨w.heap.size + 1 + 1, 0, none⟩) (by simp; omega)).trans x0
      have y1 := (hb5.cell (p := ⟨w.heap.size + 1 + 1, 1, none⟩) (by simp; omega)).trans x1
      have yf : ∀ o, w5.frozen? ⟨w.heap.size + 1 + 1, o, none⟩ = false := fun o => (hb5.frozen (p := ⟨w.heap.size + 1 + 1, o, none⟩) (by simp; omega)).trans (xf o)
      clear hC hc5 x0 x1 xf
      go_wp2
      refine bodyPost_ret (by simp [results, Tryd.results25, go_sem, y0, y1]; rfl) rfl ⟨_, rfl, ?_, ?_⟩
      · exact Rw.mono (Rw.set (Rw.set hR5 (by simp; omega) _) (by simp; omega) _) (by omega)
      · exact ((hBw.trans (hb5.mono hBw.size)).setCell (p := ⟨w.heap.size + 1 + 1, 0, none⟩) (by simp; omega) _).setCell (p := ⟨w.heap.size + 1 + 1, 1, none⟩) (by simp; omega) _

theorem rJoin_any (A B : Lab) (w : World) (hm : A.xs.length + B.xs.length ≤ 1000000) (ha : CatsAt w A.p A.xs) (hb : CatsAt w B.p B.xs) :
    Calls Tryd.prog 23 #[.agg #[.int .i64 A.d, .slice A.p A.xs.length A.cap], .agg #[.int .i64 B.d, .slice B.p B.xs.length B.cap]] w fun e w' => ∃ v, e = .returned (.tuple #[.agg #[.int .i64 (fitD (mx A.d B.d) (rmixS mx A B)), v], .int .i64 (fitE (rmixS mx A B))]) ∧ Rw w.heap.size w' v (fitL (rmixS mx A B)) ∧ Below w.heap.size w w' := by
  by_cases hd : A.d < B.d
  · have e : mx A.d B.d = B.d := by unfold mx; split <;> omega
    rw [e]; exact rJoin_lt A B w hm ha hb hd
  · have e : mx A.d B.d = A.d := by unfold mx; split <;> omega
    rw [e]; exact rJoin_ge A B w hm ha hb hd

theorem rMeet_any (A B : Lab) (w : World) (hm : A.xs.length + B.xs.length ≤ 1000000) (ha : CatsAt w A.p A.xs) (hb : CatsAt w B.p B.xs) :
    Calls Tryd.prog 25 #[.agg #[.int .i64 A.d, .slice A.p A.xs.length A.cap], .agg #[.int .i64 B.d, .slice B.p B.xs.length B.cap]] w fun e w' => ∃ v, e = .returned (.tuple #[.agg #[.int .i64 (fitD (mn A.d B.d) (rmixS mn A B)), v], .int .i64 (fitE (rmixS mn A B))]) ∧ Rw w.heap.size w' v (fitL (rmixS mn A B)) ∧ Below w.heap.size w w' := by
  by_cases hd : B.d < A.d
  · have e : mn A.d B.d = B.d := by unfold mn; split <;> omega
    rw [e]; exact rMeet_lt A B w hm ha hb hd
  · have e : mn A.d B.d = A.d := by unfold mn; split <;> omega
    rw [e]; exact rMeet_ge A B w hm ha hb hd
end Go.Proofs.YtibnmiigfiofmaaDoor
