/- What mayLink and mayCreate of package kern answer. -/
import Derived.Test.YtfmeajanbmaimaaGreatKBegin
import Derived.Deep.MidRow
import Derived.Lib.LazyBuf
/- Cells that lie in a row in memory and may be written: what becomes of them. -/
namespace Go.Proofs.YtfmeajanbmaimaaGreat.Rg
open Go.RowKit Go.Sort
/-- The cells lie in block b from o on, and may be written. -/
structure At (w : World) (b o : Nat) (cs : List Value) : Prop where
  rng : w.rangeAt b o cs
  fz : ∀ j, j < cs.length → w.frozen? ⟨b, o + j, none⟩ = false
theorem At.cell {w : World} {b o : Nat} {cs : List Value} (h : At w b o cs) {j : Nat} {v : Value} (hv : cs[j]? = some v) : w.cell? ⟨b, o + j, none⟩ = some v := h.rng j v hv
theorem At.there {w : World} {b o : Nat} {cs : List Value} (h : At w b o cs) : w.there b o cs.length := fun j hj =>
  ⟨by rw [h.cell (List.getElem?_eq_getElem hj)]; rfl, h.fz j hj⟩
theorem At.lt {w : World} {b o : Nat} {cs : List Value} (h : At w b o cs) (hc : 0 < cs.length) : b < w.heap.size := by
  have := h.cell (List.getElem?_eq_getElem hc)
  exact World.block_lt_of_cell? w _ this
theorem At.of_block {w w' : World} {b o : Nat} {cs : List Value} (h : At w b o cs) (hb : w'.heap[b]? = w.heap[b]?) : At w' b o cs where
  rng := fun j v hv => by have := h.rng j v hv; simp only [World.cell?, hb] at this ⊢; exact this
  fz := fun j hj => by have := h.fz j hj; simp only [World.frozen?, hb] at this ⊢; exact this
theorem At.below {w w' : World} {B b o : Nat} {cs : List Value} (h : At w b o cs) (hb : Below B w w') (hB : b < B) : At w' b o cs := h.of_block (hb.block b hB)
theorem At.drewN {w : World} {b o : Nat} {cs : List Value} (h : At w b o cs) (n : Nat) : At (w.drewN n) b o cs := h.of_block rfl
theorem At.new (w : World) (cs : Array Value) (t : TypeId) : At (w.alloc (.cells cs t)) w.heap.size 0 cs.toList where
  rng := fun j v hv => by simp only [World.cell?, heap_alloc_new]; simpa using hv
  fz := fun j _ => by
    have h : (w.alloc (.cells cs t)).heap[w.heap.size]? = some (.cells cs t) := heap_alloc_new _ _
    simp only [World.frozen?, h]; simp
theorem one_new (w : World) (X : Array Value) (t : TypeId) : ∃ W, w.alloc (.cells X t) = W ∧ Below w.heap.size w W ∧ At W w.heap.size 0 X.toList ∧ W.heap.size = w.heap.size + 1 :=
  ⟨_, rfl, (Below.refl _ _).alloc (Nat.le_refl _) _, At.new w X t, by simp⟩
/-- What was written into the middle. -/
theorem At.sets {w : World} {b o i : Nat} {cs : List Value} (h : At w b o cs) (vs : List Value) (hi : i + vs.length ≤ cs.length) : At (w.setCells b (o + i) vs) b o (cs.take i ++ vs ++ cs.drop (i + vs.length)) where
  rng := fun j v hv => by
    by_cases h1 : j < i
    · rw [List.getElem?_append_left (by simp; omega), List.getElem?_append_left (by simp; omega), List.getElem?_take_of_lt h1] at hv
      rw [World.cell?_setCells_out b vs (o + i) w ⟨b, o + j, none⟩ (fun _ _ => .inl (by show o + j < o + i; omega))]
      exact h.rng j v hv
    · by_cases h2 : j < i + vs.length
      · rw [List.getElem?_append_left (by simp; omega), List.getElem?_append_right (by simp; omega)] at hv
        have h3 := World.rangeAt_setCells_same w b (o + i) vs (fun k hk => by
          have := h.there (i + k) (by omega)
          rw [← Nat.add_assoc] at this; exact this) (j - i) v (by rw [List.length_take, Nat.min_eq_left (by omega)] at hv; exact hv)
        rw [show o + i + (j - i) = o + j from by omega] at h3
        exact h3
      · rw [List.getElem?_append_right (by simp; omega), List.getElem?_drop] at hv
        rw [World.cell?_setCells_out b vs (o + i) w ⟨b, o + j, none⟩ (fun _ _ => .inr (by show o + i + vs.length ≤ o + j; omega))]
        refine h.rng j v ?_
        rw [← hv]; congr 1
        simp only [List.length_append, List.length_take]
        omega
  fz := fun j hj => by
    rw [World.frozen?_setCells]
    refine h.fz j ?_
    simp only [List.length_append, List.length_take, List.length_drop] at hj
    omega
theorem setCell_one (w : World) (b o : Nat) (v : Value) : w.setCell ⟨b, o, none⟩ v = w.setCells b o [v] := rfl
theorem At.set {w : World} {b o : Nat} {cs : List Value} (h : At w b o cs) (j : Nat) (v : Value) (hj : j < cs.length) : At (w.setCell ⟨b, o + j, none⟩ v) b o (cs.set j v) := by
  have := h.sets (i := j) [v] (by simp; omega)
  rw [setCell_one]
  rw [List.set_eq_take_append_cons_drop, if_pos hj]
  simpa using this
/-- One block has turned, and what is new; all else is as it was. -/
structure Oth (b : Nat) (w w' : World) : Prop where
  os : w'.os = w.os
  tape : w'.tape = w.tape
  output : w'.output = w.output
  size : w.heap.size ≤ w'.heap.size
  block : ∀ k, k < w.heap.size → k ≠ b → w'.heap[k]? = w.heap[k]?
theorem Oth.refl (b : Nat) (w : World) : Oth b w w := ⟨rfl, rfl, rfl, Nat.le_refl _, fun _ _ _ => rfl⟩
theorem Oth.trans {b : Nat} {w w' w'' : World} (h : Oth b w w') (g : Oth b w' w'') : Oth b w w'' :=
  ⟨g.os.trans h.os, g.tape.trans h.tape, g.output.trans h.output, Nat.le_trans h.size g.size, fun k hk hn => (g.block k (Nat.lt_of_lt_of_le hk h.size) hn).trans (h.block k hk hn)⟩
theorem Oth.setCells (b o : Nat) (w : World) (vs : List Value) : Oth b w (w.setCells b o vs) := by
  induction vs generalizing o w with
  | nil => exact Oth.refl _ _
  | cons v vs ih =>
    have h : Oth b w (w.setCell ⟨b, o, none⟩ v) := ⟨rfl, rfl, rfl, by simp, fun k _ hn => Below.heap_setCell w ⟨b, o, none⟩ v k hn⟩
    exact h.trans (ih (o + 1) (w.setCell ⟨b, o, none⟩ v))
theorem Oth.setCell (b o : Nat) (w : World) (v : Value) : Oth b w (w.setCell ⟨b, o, none⟩ v) := Oth.setCells b o w [v]
theorem Oth.drewN (b : Nat) (w : World) (n : Nat) : Oth b w (w.drewN n) := ⟨rfl, rfl, rfl, Nat.le_refl _, fun _ _ _ => rfl⟩
theorem Oth.below {b B : Nat} {w0 w w' : World} (h : Oth b w w') (h0 : Below B w0 w) (hB : B ≤ b) (hB0 : B ≤ w0.heap.size) : Below B w0 w' :=
  ⟨h.os.trans h0.os, h.tape.trans h0.tape, h.output.trans h0.output, Nat.le_trans h0.size h.size, fun k hk => (h.block k (Nat.lt_of_lt_of_le hk (Nat.le_trans hB0 h0.size)) (by omega)).trans (h0.block k hk)⟩
theorem wpList_store_new {P : Program} {ops : Array Oper} {rest : List Oper} {o : Oper} {a : Act} {Q : Exit → Act → World → Prop} (w : World) (Z : Array Value) (t : TypeId) (hgd : o.guard = none) (ty : TypeId) (x y : Operand) (ho : o.op = .store ty x y)
    (cs : List Value) (hx : a.eval x = .pointer (some ⟨w.heap.size, 0, none⟩)) (hy : a.eval y = .agg cs.toArray) (hZ : Z.size = cs.length) (hi : (P.info? ty).map (·.size) = some cs.length) (h1 : ∀ v ∈ cs, v.oneCell' = true)
    (h : ∀ W, Below w.heap.size w W → At W w.heap.size 0 cs → W.heap.size = w.heap.size + 1 → wpList P ops Q rest (a.put o.dst undef) W) : wpList P ops Q (o :: rest) a (w.alloc (.cells Z t)) := by
  obtain ⟨V, hV, hb, hA, hs⟩ := one_new w Z t
  rw [hV]
  have hl : Z.toList.length = cs.length := by rw [Array.length_toList]; exact hZ
  have ht : V.there w.heap.size 0 cs.length := by rw [← hl]; exact hA.there
  refine wpList_store_mid hgd ty x y ho w.heap.size 0 cs.toArray hx hy (by rw [List.size_toArray]; exact ht) (by rw [List.size_toArray]; exact hi) (all_oneCell_toArray h1) ?_
  refine h _ ((Oth.setCells _ _ _ _).below hb (Nat.le_refl _) (Nat.le_refl _)) ?_ ?_
  · have := hA.sets (i := 0) cs (by omega)
    rw [Nat.zero_add, Nat.zero_add, List.take_zero, List.nil_append, ← hl, List.drop_length, List.append_nil] at this
    exact this
  · rw [← hs]
    have : ∀ (vs : List Value) (o : Nat) (W : World), (W.setCells w.heap.size o vs).heap.size = W.heap.size := by
      intro vs
      induction vs with
      | nil => intro o W; rfl
      | cons v vs ih => intro o W; show ((W.setCell _ v).setCells w.heap.size (o + 1) vs).heap.size = _; rw [ih]; simp
    exact this _ _ _
end Go.Proofs.YtfmeajanbmaimaaGreat.Rg
/- Which call is done. -/
namespace Go.Proofs.YtfmeajanbmaimaaGreat
open Go.RowKit Go.Sort
def rowsL : List Value := [.nilFunc, .func (.func 54) #[] #[], .func (.func 55) #[] #[], .func (.func 56) #[] #[], .func (.func 57) #[] #[], .func (.func 58) #[] #[], .func (.func 59) #[] #[], .func (.func 60) #[] #[], .func (.func 61) #[] #[], .func (.func 62) #[] #[], .func (.func 63) #[] #[], .func (.func 64) #[] #[], .func (.func 65) #[] #[], .func (.func 66) #[] #[], .func (.func 67) #[] #[], .func (.func 68) #[] #[], .func (.func 69) #[] #[], .func (.func 70) #[] #[], .func (.func 71) #[] #[], .func (.func 72) #[] #[], .func (.func 73) #[] #[], .func (.func 74) #[] #[], .func (.func 75) #[] #[], .func (.func 76) #[] #[], .func (.func 77) #[] #[], .func (.func 78) #[] #[], .func (.func 79) #[] #[], .func (.func 80) #[] #[], .func (.func 81) #[] #[], .func (.func 82) #[] #[], .func (.func 83) #[] #[], .func (.func 84) #[] #[], .func (.func 85) #[] #[]]
theorem infoR : (Tryz.prog.info? 140).map (·.size) = some 33 := by kernel_rfl
set_option maxRecDepth 100000 in
set_option maxHeartbeats 2000000 in
theorem rowOf_cell (w : World) : Calls Tryz.prog 22 #[.int .i64 5] w fun e w' => e = .returned (.func (.func 58) #[] #[]) ∧ Below w.heap.size w w' := by
  have hl : rowsL.length = 33 := rfl
  have h1 : ∀ v ∈ rowsL, v.oneCell' = true := by decide
  have hg : rowsL[5]? = some (.func (.func 58) #[] #[]) := rfl
  have HI := Lib.hid infoR
  have HL : Hid (rowsL.toArray = #[.nilFunc, .func (.func 54) #[] #[], .func (.func 55) #[] #[], .func (.func 56) #[] #[], .func (.func 57) #[] #[], .func (.func 58) #[] #[], .func (.func 59) #[] #[], .func (.func 60) #[] #[], .func (.func 61) #[] #[], .func (.func 62) #[] #[], .func (.func 63) #[] #[], .func (.func 64) #[] #[], .func (.func 65) #[] #[], .func (.func 66) #[] #[], .func (.func 67) #[] #[], .func (.func 68) #[] #[], .func (.func 69) #[] #[], .func (.func 70) #[] #[], .func (.func 71) #[] #[], .func (.func 72) #[] #[], .func (.func 73) #[] #[], .func (.func 74) #[] #[], .func (.func 75) #[] #[], .func (.func 76) #[] #[], .func (.func 77) #[] #[], .func (.func 78) #[] #[], .func (.func 79) #[] #[], .func (.func 80) #[] #[], .func (.func 81) #[] #[], .func (.func 82) #[] #[], .func (.func 83) #[] #[], .func (.func 84) #[] #[], .func (.func 85) #[] #[]]) := Lib.hid rfl
  obtain ⟨RL, hRL⟩ : ∃ RL, rowsL = RL := ⟨_, rfl⟩
  rw [hRL] at hl h1 hg HL
  clear hRL
  go_enter Tryz.func22, Tryz.ntmps22
  go_wp2_with (refine Rg.wpList_store_new w _ _ rfl _ _ _ rfl RL rfl (congrArg Value.agg HL.out.symm) (by rw [hl]; rfl) (by rw [hl]; exact HI.out) h1 (fun W2 hB2 hA2 hs2 => ?_); refine Hid.out ?_)
  refine Lib.hid ?_
  have c : W2.cell? ⟨w.heap.size, 5, none⟩ = some (.func (.func 58) #[] #[]) := by
    have := hA2.cell hg
    rw [Nat.zero_add] at this; exact this
  have HB := Lib.hid hB2
  clear hB2 hA2 hs2 HL hl h1 hg
  go_wp2
  go_ret
  exact ⟨rfl, HB.out⟩
set_option maxRecDepth 100000 in
set_option maxHeartbeats 2000000 in
theorem rowOf_read (w : World) : Calls Tryz.prog 22 #[.int .i64 14] w fun e w' => e = .returned (.func (.func 67) #[] #[]) ∧ Below w.heap.size w w' := by
  have hl : rowsL.length = 33 := rfl
  have h1 : ∀ v ∈ rowsL, v.oneCell' = true := by decide
  have hg : rowsL[14]? = some (.func (.func 67) #[] #[]) := rfl
  have HI := Lib.hid infoR
  have HL : Hid (rowsL.toArray = #[.nilFunc, .func (.func 54) #[] #[], .func (.func 55) #[] #[], .func (.func 56) #[] #[], .func (.func 57) #[] #[], .func (.func 58) #[] #[], .func (.func 59) #[] #[], .func (.func 60) #[] #[], .func (.func 61) #[] #[], .func (.func 62) #[] #[], .func (.func 63) #[] #[], .func (.func 64) #[] #[], .func (.func 65) #[] #[], .func (.func 66) #[] #[], .func (.func 67) #[] #[], .func (.func 68) #[] #[], .func (.func 69) #[] #[], .func (.func 70) #[] #[], .func (.func 71) #[] #[], .func (.func 72) #[] #[], .func (.func 73) #[] #[], .func (.func 74) #[] #[], .func (.func 75) #[] #[], .func (.func 76) #[] #[], .func (.func 77) #[] #[], .func (.func 78) #[] #[], .func (.func 79) #[] #[], .func (.func 80) #[] #[], .func (.func 81) #[] #[], .func (.func 82) #[] #[], .func (.func 83) #[] #[], .func (.func 84) #[] #[], .func (.func 85) #[] #[]]) := Lib.hid rfl
  obtain ⟨RL, hRL⟩ : ∃ RL, rowsL = RL := ⟨_, rfl⟩
  rw [hRL] at hl h1 hg HL
  clear hRL
  go_enter Tryz.func22, Tryz.ntmps22
  go_wp2_with (refine Rg.wpList_store_new w _ _ rfl _ _ _ rfl RL rfl (congrArg Value.agg HL.out.symm) (by rw [hl]; rfl) (by rw [hl]; exact HI.out) h1 (fun W2 hB2 hA2 hs2 => ?_); refine Hid.out ?_)
  refine Lib.hid ?_
  have c : W2.cell? ⟨w.heap.size, 14, none⟩ = some (.func (.func 67) #[] #[]) := by
    have := hA2.cell hg
    rw [Nat.zero_add] at this; exact this
  have HB := Lib.hid hB2
  clear hB2 hA2 hs2 HL hl h1 hg
  go_wp2
  go_ret
  exact ⟨rfl, HB.out⟩
set_option maxRecDepth 100000 in
set_option maxHeartbeats 2000000 in
theorem rowOf_write (w : World) : Calls Tryz.prog 22 #[.int .i64 15] w fun e w' => e = .returned (.func (.func 68) #[] #[]) ∧ Below w.heap.size w w' := by
  have hl : rowsL.length = 33 := rfl
  have h1 : ∀ v ∈ rowsL, v.oneCell' = true := by decide
  have hg : rowsL[15]? = some (.func (.func 68) #[] #[]) := rfl
  have HI := Lib.hid infoR
  have HL : Hid (rowsL.toArray = #[.nilFunc, .func (.func 54) #[] #[], .func (.func 55) #[] #[], .func (.func 56) #[] #[], .func (.func 57) #[] #[], .func (.func 58) #[] #[], .func (.func 59) #[] #[], .func (.func 60) #[] #[], .func (.func 61) #[] #[], .func (.func 62) #[] #[], .func (.func 63) #[] #[], .func (.func 64) #[] #[], .func (.func 65) #[] #[], .func (.func 66) #[] #[], .func (.func 67) #[] #[], .func (.func 68) #[] #[], .func (.func 69) #[] #[], .func (.func 70) #[] #[], .func (.func 71) #[] #[], .func (.func 72) #[] #[], .func (.func 73) #[] #[], .func (.func 74) #[] #[], .func (.func 75) #[] #[], .func (.func 76) #[] #[], .func (.func 77) #[] #[], .func (.func 78) #[] #[], .func (.func 79) #[] #[], .func (.func 80) #[] #[], .func (.func 81) #[] #[], .func (.func 82) #[] #[], .func (.func 83) #[] #[], .func (.func 84) #[] #[], .func (.func 85) #[] #[]]) := Lib.hid rfl
  obtain ⟨RL, hRL⟩ : ∃ RL, rowsL = RL := ⟨_, rfl⟩
  rw [hRL] at hl h1 hg HL
  clear hRL
  go_enter Tryz.func22, Tryz.ntmps22
  go_wp2_with (refine Rg.wpList_store_new w _ _ rfl _ _ _ rfl RL rfl (congrArg Value.agg HL.out.symm) (by rw [hl]; rfl) (by rw [hl]; exact HI.out) h1 (fun W2 hB2 hA2 hs2 => ?_); refine Hid.out ?_)
  refine Lib.hid ?_
  have c : W2.cell? ⟨w.heap.size, 15, none⟩ = some (.func (.func 68) #[] #[]) := by
    have := hA2.cell hg
    rw [Nat.zero_add] at this; exact this
  have HB := Lib.hid hB2
  clear hB2 hA2 hs2 HL hl h1 hg
  go_wp2
  go_ret
  exact ⟨rfl, HB.out⟩
end Go.Proofs.YtfmeajanbmaimaaGreat
/- A kernel with a new object, a new number drawn, a new segment. -/
namespace Go.Proofs.YtfmeajanbmaimaaGreat
open Go.RowKit Go.Sort
open Classical in
noncomputable def ownA (P : Nat → Prop) (g : KTag) (own : Nat → Option KTag) (k : Nat) : Option KTag := if P k then some g else own k
theorem ownA_yes {P : Nat → Prop} {g : KTag} {own : Nat → Option KTag} {k : Nat} (h : P k) : ownA P g own k = some g := by unfold ownA; rw [if_pos h]
theorem ownA_no {P : Nat → Prop} {g : KTag} {own : Nat → Option KTag} {k : Nat} (h : ¬ P k) : ownA P g own k = own k := by unfold ownA; rw [if_neg h]
theorem seg_own {W : World} {lo B : Nat} {d : List UInt8} {own own' : Nat → Option KTag} {g : KTag} (h : SegAt W lo B d own g) (hk : ∀ k, own k = some g → own' k = some g) : SegAt W lo B d own' g := by
  obtain ⟨ls, h0, h1, h2, h3⟩ := h
  exact ⟨ls, h0, hk B h1, fun x hx => hk _ (h2 x hx), fun c t f a n cp hc hs => hk _ (h3 c t f a n cp hc hs)⟩
/-- The table has changed. -/
theorem KAt.made {lo : Nat} {W W' : World} {K : Kn} (h : KAt lo W K) {D' : DataW Unit} {T' : Ho.Tab} (hT : Ho.TAt W' K.base K.tb K.mb D' T') (hF : Ho.Fm W W' (Ho.tfoot K.tb K.mb K.T) (Ho.tfoot K.tb K.mb T')) :
    KAt lo W' { K with D := D', T := T', own := ownA (Ho.tfoot K.tb K.mb T') .tab K.own } := by
  have hlo : lo ≤ W.heap.size := Nat.le_of_lt (Nat.lt_of_le_of_lt (h.lt K.kb (by rw [h.okb]; simp)).1 (h.lt K.kb (by rw [h.okb]; simp)).2)
  have nf : ∀ {k g}, K.own k = some g → g ≠ .tab → ¬ Ho.tfoot K.tb K.mb K.T k := fun {k g} e hg hf => hg (by rw [h.ot k hf] at e; exact (Option.some.inj e).symm)
  have nf' : ∀ {k g}, K.own k = some g → g ≠ .tab → ¬ Ho.tfoot K.tb K.mb T' k := fun {k g} e hg hf => by
    rcases hF.new k hf with h1 | h1
    · exact nf e hg h1
    · have := (h.lt k (by rw [e]; simp)).2; omega
  have ks : ∀ {k g}, K.own k = some g → g ≠ .tab → W'.heap[k]? = W.heap[k]? := fun {k g} e hg => hF.same k (h.lt k (by rw [e]; simp)).2 (nf e hg)
  have ko : ∀ {k g}, K.own k = some g → g ≠ .tab → ownA (Ho.tfoot K.tb K.mb T') .tab K.own k = some g := fun {k g} e hg => (ownA_no (nf' e hg)).trans e
  refine ⟨(ks h.okb (by simp)).trans h.blk, hT, h.rms.same hF.size (fun k _ hf => ks (h.orm k hf) (by simp)), h.mS.same (ks h.oS (by simp)), h.mT.same (ks h.oT (by simp)), h.mR.same (ks h.oR (by simp)), fun id B hB => ?_, fun id B hB => ?_, ko h.okb (by simp), fun k hf => ownA_yes hf, fun k hf => ko (h.orm k hf) (by simp), ko h.oS (by simp), ko h.oP (by simp), ko h.oT (by simp), ko h.oG (by simp), ko h.oD (by simp), ko h.oR (by simp), fun k hk => ?_⟩
  · obtain ⟨q1, q2, q3, q4, q5⟩ := h.thr id B hB
    exact ⟨(ks q2 (by simp)).trans q1, ko q2 (by simp), q3, lv_keep q4 hF.size (fun k e => ks (q5 k e) (by simp)), fun k e => ko (q5 k e) (by simp)⟩
  · obtain ⟨b, q1, q2⟩ := h.sgs id B hB
    exact ⟨b, q1, seg_own (seg_keep q2 (fun k e => ks e (by simp))) (fun k e => ko e (by simp))⟩
  · by_cases hf : Ho.tfoot K.tb K.mb T' k
    · refine ⟨?_, (hT.lt hf).2⟩
      rcases hF.new k hf with h1 | h1
      · exact (h.lt k (by rw [h.ot k h1]; simp)).1
      · omega
    · change ownA (Ho.tfoot K.tb K.mb T') .tab K.own k ≠ none at hk
      rw [ownA_no hf] at hk
      exact ⟨(h.lt k hk).1, Nat.lt_of_lt_of_le (h.lt k hk).2 hF.size⟩
/-- One of the kernel's own maps has turned. -/
theorem KAt.keepBut {lo : Nat} {W W' : World} {K : Kn} (h : KAt lo W K) {m : Nat} (hg : W.grownBy W' (some m)) : ∀ {k g}, K.own k = some g → k ≠ m → W'.heap[k]? = W.heap[k]? := fun {k _} e hk => hg.block k (h.lt k (by rw [e]; simp)).2 (fun e' => hk (Option.some.inj e'))
theorem KAt.drew {lo : Nat} {W W' : World} {K : Kn} (h : KAt lo W K) {n' : Nat} {S' : Int → Bool} (hS : SAt W' K.mr n' S') (hg : W.grownBy W' (some K.mr)) : KAt lo W' { K with nR := n', S := S' } := by
  have hz := hg.size
  have ne : ∀ {k g}, K.own k = some g → g ≠ .mp 7 → k ≠ K.mr := fun {k g} e hg' hk => hg' (by rw [hk, h.oR] at e; exact (Option.some.inj e).symm)
  have ks : ∀ {k g}, K.own k = some g → g ≠ .mp 7 → W'.heap[k]? = W.heap[k]? := fun {k g} e hg' => h.keepBut hg e (ne e hg')
  refine ⟨(ks h.okb (by simp)).trans h.blk, h.tab.same (fun k hf => ks (h.ot k hf) (by simp)), h.rms.same hz (fun k _ hf => ks (h.orm k hf) (by simp)), h.mS.same (ks h.oS (by simp)), h.mT.same (ks h.oT (by simp)), hS, fun id B hB => ?_, fun id B hB => ?_, h.okb, h.ot, h.orm, h.oS, h.oP, h.oT, h.oG, h.oD, h.oR, fun k hk => ⟨(h.lt k hk).1, Nat.lt_of_lt_of_le (h.lt k hk).2 hz⟩⟩
  · obtain ⟨q1, q2, q3, q4, q5⟩ := h.thr id B hB
    exact ⟨(ks q2 (by simp)).trans q1, q2, q3, lv_keep q4 hz (fun k e => ks (q5 k e) (by simp)), q5⟩
  · obtain ⟨b, q1, q2⟩ := h.sgs id B hB
    exact ⟨b, q1, seg_keep q2 (fun k e => ks e (by simp))⟩
/-- A segment's own blocks. -/
def segF (W : World) (B : Nat) (ls : List (Nat × Bool)) (k : Nat) : Prop := k = B ∨ (∃ x ∈ ls, x.1 = k) ∨ ∃ c t f a n cp, W.heap[B]? = some (.cells c t f) ∧ c[1]? = some (.slice (some a) n cp) ∧ a.block = k
theorem KAt.newSeg {lo : Nat} {W W' : World} {K : Kn} (h : KAt lo W K) {n' : Nat} {id : Int} {B b : Nat} {d : List UInt8} {ls : List (Nat × Bool)} (hS : Wa.MAt W' 3 K.ms n' (Wa.updF K.fS (Wa.ky id) (some B))) (hg : W.grownBy W' (some K.ms)) (hno : K.fS (Wa.ky id) = none) (hlo : lo ≤ b)
    (hB : Pg.BAt Pg.N0 W b B d ls) (hf : ∀ k, segF W B ls k → K.own k = none ∧ lo ≤ k ∧ k < W.heap.size) :
    KAt lo W' { K with nS := n', fS := Wa.updF K.fS (Wa.ky id) (some B), sd := fun i => if i = id then d else K.sd i, own := ownA (segF W B ls) (.sg id) K.own } := by
  have hz := hg.size
  have ne : ∀ {k g}, K.own k = some g → g ≠ .mp 2 → k ≠ K.ms := fun {k g} e hg' hk => hg' (by rw [hk, h.oS] at e; exact (Option.some.inj e).symm)
  have ks : ∀ {k g}, K.own k = some g → g ≠ .mp 2 → W'.heap[k]? = W.heap[k]? := fun {k g} e hg' => h.keepBut hg e (ne e hg')
  have ko : ∀ {k g}, K.own k = some g → ownA (segF W B ls) (.sg id) K.own k = some g := fun {k g} e => (ownA_no (fun hk => by rw [(hf k hk).1] at e; cases e)).trans e
  have nms : ∀ k, segF W B ls k → k ≠ K.ms := fun k hk e => by have := (hf k hk).1; rw [e, h.oS] at this; cases this
  have kf : ∀ k, segF W B ls k → W'.heap[k]? = W.heap[k]? := fun k hk => hg.block k (hf k hk).2.2 (fun e => nms k hk (Option.some.inj e))
  refine ⟨(ks h.okb (by simp)).trans h.blk, h.tab.same (fun k hf' => ks (h.ot k hf') (by simp)), h.rms.same hz (fun k _ hf' => ks (h.orm k hf') (by simp)), hS, h.mT.same (ks h.oT (by simp)), h.mR.same (ks h.oR (by simp)), fun i C hC => ?_, fun i C hC => ?_, ko h.okb, fun k hf' => ko (h.ot k hf'), fun k hf' => ko (h.orm k hf'), ko h.oS, ko h.oP, ko h.oT, ko h.oG, ko h.oD, ko h.oR, fun k hk => ?_⟩
  · obtain ⟨q1, q2, q3, q4, q5⟩ := h.thr i C hC
    exact ⟨(ks q2 (by simp)).trans q1, ko q2, q3, lv_keep q4 hz (fun k e => ks (q5 k e) (by simp)), fun k e => ko (q5 k e)⟩
  · change Wa.updF K.fS (Wa.ky id) (some B) (Wa.ky i) = some C at hC
    by_cases hi : i = id
    · subst hi
      have hCB : C = B := by unfold Wa.updF at hC; rw [if_pos rfl] at hC; exact (Option.some.inj hC).symm
      subst hCB
      refine ⟨b, hlo, ?_⟩
      show SegAt W' b C (if i = i then d else K.sd i) _ _
      rw [if_pos rfl]
      have hs : SegAt W b C d (ownA (segF W C ls) (.sg i) K.own) (.sg i) := ⟨ls, hB, ownA_yes (.inl rfl), fun x hx => ownA_yes (.inr (.inl ⟨x, hx, rfl⟩)), fun c t f a n cp hc hs => ownA_yes (.inr (.inr ⟨c, t, f, a, n, cp, hc, hs, rfl⟩))⟩
      refine seg_keep hs (fun k e => ?_)
      by_cases hk : segF W C ls k
      · exact kf k hk
      · change ownA (segF W C ls) (.sg i) K.own k = some (.sg i) at e
        rw [ownA_no hk] at e; exact ks e (by simp)
    · have hne : Wa.ky i ≠ Wa.ky id := fun e => hi (by injection e)
      have hC' : K.fS (Wa.ky i) = some C := by unfold Wa.updF at hC; rwa [if_neg hne] at hC
      obtain ⟨b', q1, q2⟩ := h.sgs i C hC'
      refine ⟨b', q1, ?_⟩
      show SegAt W' b' C (if i = id then d else K.sd i) _ _
      rw [if_neg hi]
      exact seg_own (seg_keep q2 (fun k e => ks e (by simp))) (fun k e => ko e)
  · by_cases hk' : segF W B ls k
    · exact ⟨(hf k hk').2.1, Nat.lt_of_lt_of_le (hf k hk').2.2 hz⟩
    · change ownA (segF W B ls) (.sg id) K.own k ≠ none at hk
      rw [ownA_no hk'] at hk
      exact ⟨(h.lt k hk).1, Nat.lt_of_lt_of_le (h.lt k hk).2 hz⟩
end Go.Proofs.YtfmeajanbmaimaaGreat
/- Was the number drawn? -/
namespace Go.Proofs.YtfmeajanbmaimaaGreat
open Go.RowKit Go.Sort
theorem unitE_inv {v : Value} {d : DataW Unit} {ps : List MemPlace} (h : unitE v = some (d, ps)) : v = .agg #[] := by
  unfold unitE at h
  split at h
  · split at h
    · rename_i cs hc
      rw [Array.size_eq_zero_iff.1 hc]
    · cases h
  · cases h
theorem SAt.look {w : World} {m n : Nat} {S : Int → Bool} (h : SAt w m n S) (x : Int) (hx : Wa.i64 x) : (Instr.lookup 95 (.map (some m)) (.int .i64 x) true).run Tryz.prog w = .ok (.tuple #[.agg #[], .bool (S x)]) w := by
  obtain ⟨D, h1, _, h3⟩ := h
  obtain ⟨v, ps, hrun, hv⟩ := World.ownsMap.look_ok h1 keyedI umU (z := .agg #[]) (by kernel_rfl) (zd := .agg []) (zp := []) rfl (Wa.keyI hx)
  rw [hrun, unitE_inv hv, h3]
set_option maxRecDepth 100000 in
theorem Drawn_any {lo : Nat} {W : World} {K : Kn} (hK : KAt lo W K) (x : Int) (hx : Wa.i64 x) : Calls Tryz.prog 16 #[.pointer (some ⟨K.kb, 0, none⟩), .int .i64 x] W fun e W' => e = .returned (.bool (K.S x)) ∧ Below W.heap.size W W' := by
  have k7 : W.cell? ⟨K.kb, 7, none⟩ = some (.map (some K.mr)) := hK.cell 7
  have hl := hK.mR.look x hx
  clear hK
  go_enter Tryz.func16, Tryz.ntmps16
  go_wp2
  go_ret
  exact ⟨rfl, by first | exact (Below.refl _ _).alloc (Nat.le_refl _) _ | go_grown⟩
end Go.Proofs.YtfmeajanbmaimaaGreat
namespace Go.Proofs.YtfmeajanbmaimaaGreat
open Go.RowKit Go.Sort
set_option maxRecDepth 100000 in
set_option maxHeartbeats 1000000 in
theorem mayLink_any {lo cb : Nat} {W : World} {K : Kn} {x : Ask} {y : Who} {dr : Int} (hC : ClAt W cb K.kb x y dr) (hK : KAt lo W K) (hTh : K.fT (Wa.ky y.id) = some y.B) (xs : List (Int × Int)) (hw : Pa.LV (y.d, xs) (.agg #[.int .i64 y.d, y.v]) W)
    (i0 i1 i2 i3 i4 bd : Int) (bv : Value) (bx : List (Int × Int)) (hb : Pa.LV (bd, bx) (.agg #[.int .i64 bd, bv]) W) (ld : Int) (lv : Value) (lx : List (Int × Int)) (hl : Pa.LV (ld, lx) (.agg #[.int .i64 ld, lv]) W) :
    Calls Tryz.prog 134 #[.pointer (some ⟨cb, 0, none⟩), .agg #[.int .i64 i0, .int .i64 i1, .int .i64 i2, .int .i64 i3, .int .i64 i4, .int .i64 bd, bv], .agg #[.int .i64 ld, lv]] W fun e W' => e = .returned (.int .i64 (Pa.makeI (y.d, xs) ((K.th y.id).cd, (K.th y.id).xs) (bd, bx) (ld, lx))) ∧ Below W.heap.size W W' := by
  obtain ⟨pb, cpb, hbv, hb1, hb2, hb3⟩ := id hb
  obtain ⟨pl, cpl, hlv, hl1, hl2, hl3⟩ := id hl
  simp at hbv hlv
  subst hbv
  subst hlv
  obtain ⟨W0, hW0⟩ : ∃ W0, (W.alloc (.cells #[.int .i64 i0, .int .i64 i1, .int .i64 i2, .int .i64 i3, .int .i64 i4, .int .i64 bd, .slice pb bx.length cpb] 44)).alloc (.cells #[.int .i64 ld, .slice pl lx.length cpl] 26) = W0 := ⟨_, rfl⟩
  have hb0 : Below W.heap.size W W0 := by rw [← hW0]; go_grown
  have hi4 : W0.heap[W.heap.size]? = some (.cells #[.int .i64 i0, .int .i64 i1, .int .i64 i2, .int .i64 i3, .int .i64 i4, .int .i64 bd, .slice pb bx.length cpb] 44 (0, 0)) := by rw [← hW0]; rw [Below.heap_alloc _ _ _ (by simp)]; exact heap_alloc_new _ _
  have hi5 : W0.heap[W.heap.size + 1]? = some (.cells #[.int .i64 ld, .slice pl lx.length cpl] 26 (0, 0)) := by rw [← hW0]; have := heap_alloc_new (W.alloc (.cells #[.int .i64 i0, .int .i64 i1, .int .i64 i2, .int .i64 i3, .int .i64 i4, .int .i64 bd, .slice pb bx.length cpb] 44)) (.cells #[.int .i64 ld, .slice pl lx.length cpl] 26); rwa [show (W.alloc (.cells #[.int .i64 i0, .int .i64 i1, .int .i64 i2, .int .i64 i3, .int .i64 i4, .int .i64 bd, .slice pb bx.length cpb] 44)).heap.size = W.heap.size + 1 from by simp] at this
  have hC0 := hC.below hb0
  have hK0 := hK.below hb0
  obtain ⟨t1, -, -, t4, -⟩ := hK0.thr y.id y.B hTh
  have q5 : W0.cell? ⟨W.heap.size, 5, none⟩ = some (.int .i64 bd) := by simp [World.cell?, hi4]
  have q6 : W0.cell? ⟨W.heap.size, 6, none⟩ = some (.slice pb bx.length cpb) := by simp [World.cell?, hi4]
  have p0 : W0.cell? ⟨W.heap.size + 1, 0, none⟩ = some (.int .i64 ld) := by simp [World.cell?, hi5]
  have p1 : W0.cell? ⟨W.heap.size + 1, 1, none⟩ = some (.slice pl lx.length cpl) := by simp [World.cell?, hi5]
  have w21 : W0.cell? ⟨cb, 21, none⟩ = some (.pointer (some ⟨y.B, 0, none⟩)) := hC0.cell 21
  have w23 : W0.cell? ⟨cb, 23, none⟩ = some (.int .i64 y.d) := hC0.cell 23
  have w24 : W0.cell? ⟨cb, 24, none⟩ = some y.v := hC0.cell 24
  have th0 : W0.cell? ⟨y.B, 0, none⟩ = some (.int .i64 (K.th y.id).cd) := by simp [World.cell?, t1, thC]
  have th1 : W0.cell? ⟨y.B, 1, none⟩ = some (K.th y.id).cv := by simp [World.cell?, t1, thC]
  have HM := Lib.hid (fun n => Pa.Make_c (w := W0.drewN n) ((hw.below hb0).below (drew_below _ W0 n)) (t4.below (drew_below _ W0 n)) ((hb.below hb0).below (drew_below _ W0 n)) ((hl.below hb0).below (drew_below _ W0 n)))
  have HB0 := Lib.hid hb0
  clear hC hK hC0 hK0 t1 t4 hw hb hl hb0 hi4 hi5 hb1 hb2 hb3 hl1 hl2 hl3
  go_enter Tryz.func134, Tryz.ntmps134
  go_upto_region 1 with fail
  clear hW0
  refine Ko.wp_region_tail_d 16 (by kernel_rfl) (by kernel_rfl) ?_
  simp only [List.take_succ_cons, List.take_zero, List.drop_succ_cons, List.drop_zero]
  repeat (go_big_quiet_step (fail))
  refine wpQuiet_nil ?_
  intro _ hw'
  obtain ⟨nz, hw''⟩ := hw'
  subst hw''
  go_wp2_with (go_at_call 191; refine (HM.out _).mono ?_; rintro e W1 ⟨v', rfl, hb1, rfl⟩)
  go_ret
  exact ⟨rfl, HB0.out.trans (((drew_below _ W0 nz).trans hb1).mono HB0.out.size)⟩
end Go.Proofs.YtfmeajanbmaimaaGreat
