/- Plain facts: mixing two right labels level by level, as package label does it and as the reference does it, comes to one row. -/
import Derived.StillTail
import Derived.Deep.Quiet
import Derived.Test.YtnjmgholoigpkaaBase
import Derived.Test.YtnjmgholoigpkaaMx
import Derived.Test.YtnjmgholoigpkaaLmix
/- Regions that draw their order, whose first operations leave the world within a class and whose last ones come in one order only: one walk serves every order. -/
namespace Go.Proofs.Ytnjmgholoigpkaa
open Go.RowKit

section
variable {P : Program} {ops : Array Oper} {md : Region.Mode} {C : World → Prop} {n : Nat} {L : Array Bool → Act → Prop}

/-- Whatever of the first n comes up, f times; then L. -/
def anyHd (P : Program) (md : Region.Mode) (ops : Array Oper) (C : World → Prop) (n : Nat) (L : Array Bool → Act → Prop) : Nat → Array Bool → Act → Prop
  | 0, li, a => L li a
  | f + 1, li, a => (∃ i, i ∈ Region.ready md ops li) ∧ ∀ i ∈ Region.ready md ops li, i < n ∧ qOp P ops C i (anyHd P md ops C n L f (li.setIfInBounds i true)) a

theorem anyHd_wp {g : Nat} {Q : Exit → Act → World → Prop} (hL : ∀ li a w, C w → L li a → wpAny P md ops Q g li a w) (f : Nat) :
    ∀ li a w, C w → anyHd P md ops C n L f li a → wpAny P md ops Q (f + g) li a w := by
  induction f with
  | zero => intro li a w hw h; rw [Nat.zero_add]; exact hL li a w hw h
  | succ f ih =>
    intro li a w hw h
    obtain ⟨⟨i0, hi0⟩, h⟩ := h
    rw [Nat.succ_add]
    exact ⟨fun e => (by rw [e] at hi0; cases hi0), fun i hi => wpOp_of_qOp hw (fun a' w' hw' h' => ih _ a' w' hw' h') (h i hi).2⟩

theorem head_lt {li : Array Bool} {i j : Nat} (hs : Region.sinkB md ops n = true) (hc : Region.chainB md ops n = true) (hn : n < ops.size) (inv : HeadInv md ops n li) (hi : i < n) (hu : li.getD i true = false) (hj : j ∈ Region.ready md ops li) : j < n :=
  Nat.lt_of_not_le fun h => tail_waits hs hc hn inv _ i rfl hi hu j h hj

/-- What is ready among the first n, and apart from all that doesn't wait for it, may be taken ahead of the others. -/
theorem anyHd_take {i : Nat} {o : Oper} {v : Value} (ho : ops[i]? = some o) (hsel : ∀ (j : Nat) (o : Oper) cs b, ops[j]? = some o → o.op ≠ .select cs b)
    (hs : Region.sinkB md ops n = true) (hc : Region.chainB md ops n = true) (hn : n < ops.size) (hi : i < n) (hend : ∀ li a, L li a → ∀ j ∈ Region.ready md ops li, n ≤ j) (f : Nat) :
    ∀ (li : Array Bool) (a : Act), HeadInv md ops n li → (∀ j oj, ops[j]? = some oj → j ≠ i → li.getD j true = false → (∀ e ∈ oj.after, Region.binds md e = true → e.on ≠ i) → o.apart ops oj = true) →
      i ∈ Region.ready md ops li → YieldsIn P ops C o v a → anyHd P md ops C n L f (li.setIfInBounds i true) (a.put o.dst v) → anyHd P md ops C n L (f + 1) li a := by
  induction f with
  | zero =>
    intro li a inv _ hr hy H
    refine ⟨⟨i, hr⟩, fun j hj => ?_⟩
    have hjn := head_lt hs hc hn inv hi (mem_ready.1 hr).1 hj
    by_cases e : j = i
    · subst e; exact ⟨hjn, hy.qOp ho H⟩
    · exact absurd (hend _ _ H j (ready_mono hj e)) (Nat.not_le.2 hjn)
  | succ f ih =>
    intro li a inv hap hr hy H
    refine ⟨⟨i, hr⟩, fun j hj => ?_⟩
    have hu := (mem_ready.1 hr).1
    have hjn := head_lt hs hc hn inv hi hu hj
    refine ⟨hjn, ?_⟩
    by_cases e : j = i
    · subst e; exact hy.qOp ho H
    obtain ⟨hju, oj, hoj, hdep⟩ := mem_ready.1 hj
    have hno : ∀ x ∈ oj.after, Region.binds md x = true → x.on ≠ i := by
      intro x hx hb hxi
      have h1 := hdep x hx hb
      rw [hxi, getD_both hu] at h1
      exact absurd h1 (by simp)
    refine qOp_mono (fun a' h => ?_) (qOp_put hoj (hap j oj hoj e hju hno) (fun cs b => hsel i o cs b ho) (fun cs b => hsel j oj cs b hoj) hy (H.2 j (ready_mono hj e)).2)
    refine ih (li.setIfInBounds j true) a' (inv.set hj hjn) (fun k ok hk hki hku => hap k ok hk hki ?_) (ready_mono hr (Ne.symm e)) h.1 ?_
    · by_cases ejk : j = k
      · subst ejk; exact hju
      · rwa [getD_set_ne true ejk] at hku
    · rw [Array.setIfInBounds_comm _ _ e]; exact h.2

theorem anyHd_lex {g : Nat} {R : Act → Prop} (hsel : Region.noSelect ops = true) (hs : Region.sinkB md ops n = true) (hc : Region.chainB md ops n = true) (hn : n < ops.size) (l : List Oper) :
    ∀ (k : Nat) (li : Array Bool) (a : Act), (∀ j, j < l.length → l[j]? = ops[k + j]?) → k + l.length = n → HeadInv md ops n li → Region.lexHead md ops g l.length k li = true → wpQuiet P ops C R l a →
      anyHd P md ops C n (fun li' a' => Region.seqB md ops g n li' = true ∧ R a') l.length li a := by
  induction l with
  | nil =>
    intro k li a _ hk _ hB h
    simp only [List.length_nil, Nat.add_zero] at hk
    subst hk
    exact ⟨hB, h⟩
  | cons o l ih =>
    intro k li a hl hk inv hB h
    have h0 : ops[k]? = some o := by simpa using (hl 0 (by simp)).symm
    rw [List.length_cons] at hk hB
    rw [Region.lexHead, Bool.and_eq_true, Bool.and_eq_true] at hB
    have hr : k ∈ Region.ready md ops li := by simpa using hB.1.1
    have hq : qOp P ops C k (wpQuiet P ops C R l) a := by unfold qOp; rw [h0]; exact h
    obtain ⟨v, hy, hK⟩ := yieldsIn_of_qOp h0 hq
    refine anyHd_take h0 (Region.noSelect_spec hsel) hs hc hn (by omega) (fun _ _ hL => seqB_ready hL.1) l.length li a inv (Region.free_spec h0 hB.1.2) hr hy ?_
    refine ih (k + 1) _ _ (fun j hj => ?_) (by omega) (inv.set hr (by omega)) hB.2 hK
    have := hl (j + 1) (by simp; omega)
    rw [Nat.add_assoc, Nat.add_comm 1 j, ← this]; simp

/-- ONE WALK SERVES: the first n operations quiet in the class, the others as they stand in the text. -/
theorem wp_region_quiet_tail {id : Nat} {Q : Exit → Act → World → Prop} {a : Act} {w : World} {l : List Oper} (n : Nat) (hm : P.follows .mixedOrders = true) (hB : Region.lexTailB .any l.toArray n = true) (hC : C { w with drawn := w.drawn + 1 })
    (h : wpQuiet P l.toArray C (fun a' => ∀ w', C w' → wpList P l.toArray Q (l.drop n) a' w') (l.take n) a) : (Code.region id l.toArray true).wp P Q a w := by
  simp only [Region.lexTailB, Bool.and_eq_true, decide_eq_true_eq] at hB
  obtain ⟨⟨⟨⟨h1, h2⟩, h3⟩, h4⟩, h5⟩ := hB
  have hn : n < l.length := by simpa using h2
  have e1 : (l.take n).length = n := by rw [List.length_take]; omega
  have e2 : (l.drop n).length = l.toArray.size - n := by simp
  have inv : HeadInv .any l.toArray n (Array.replicate l.toArray.size false) :=
    ⟨by simp, fun j oj _ hl => (by rw [getD_replicate_false] at hl; cases hl), fun t _ ht => getD_in (by simpa using ht) (getD_replicate_false _ _)⟩
  have H := anyHd_lex (C := C) (md := .any) (g := l.toArray.size - n) h1 h3 h4 h2 (l.take n) 0 _ a (fun j hj => by rw [e1] at hj; simp [hj]) (by rw [e1, Nat.zero_add]) inv (by rw [e1]; exact h5) h
  refine wp_region_any hm ?_
  have G := anyHd_wp (g := l.toArray.size - n) (Q := Q) (fun li a' w' hw' hL => by
    have := wpAny_of_seq (md := .any) (Q' := Q) (l.drop n) n li a' w' (fun j => by simp [List.getElem?_drop]) (by rw [e2]; exact hL.1) (hL.2 w' hw')
    rwa [e2] at this) _ _ _ _ hC H
  rw [e1, show n + (l.toArray.size - n) = l.toArray.size from by simp at h2 ⊢; omega] at G
  exact G
end

/-- The same, at the class of worlds that have grown of one. -/
theorem wp_region_tail_gx {P : Program} {id : Nat} {Q : Exit → Act → World → Prop} {a : Act} {w : World} {l : List Oper} (n : Nat) (hm : P.follows .mixedOrders = true) (hB : Region.lexTailB .any l.toArray n = true)
    (h : wpQuiet P l.toArray (fun w' => ∃ p : GrownBy, w' = gx w p.n p.os) (fun a' => ∀ w', (∃ p : GrownBy, w' = gx w p.n p.os) → wpList P l.toArray Q (l.drop n) a' w') (l.take n) a) : (Code.region id l.toArray true).wp P Q a w :=
  wp_region_quiet_tail (C := fun w' => ∃ p : GrownBy, w' = gx w p.n p.os) n hm hB ⟨⟨w.drawn + 1, #[]⟩, by simp [gx]⟩ h
end Go.Proofs.Ytnjmgholoigpkaa
/- What Join and Meet of the reference answer, for every two labels. -/
namespace Go.Proofs.Ytnjmgholoigpkaa
open Go.RowKit Go.Sort

/-- A world that is as another was, but for one block and what is new. -/
structure Kp (b : Nat) (w w' : World) : Prop where
  os : w'.os = w.os
  tape : w'.tape = w.tape
  output : w'.output = w.output
  size : w.heap.size ≤ w'.heap.size
  block : ∀ k, k < w.heap.size → k ≠ b → w'.heap[k]? = w.heap[k]?
theorem Kp.refl (b : Nat) (w : World) : Kp b w w := ⟨rfl, rfl, rfl, Nat.le_refl _, fun _ _ _ => rfl⟩
theorem Kp.on {b : Nat} {w w' w2 : World} (h : Kp b w w') (hb : Below w'.heap.size w' w2) : Kp b w w2 :=
  ⟨hb.os.trans h.os, hb.tape.trans h.tape, hb.output.trans h.output, Nat.le_trans h.size hb.size, fun k hk hn => (hb.block k (Nat.lt_of_lt_of_le hk h.size)).trans (h.block k hk hn)⟩
theorem Kp.set {b : Nat} {w w' : World} (h : Kp b w w') (o : Nat) (u : Value) : Kp b w (w'.setCell ⟨b, o, none⟩ u) :=
  ⟨h.os, h.tape, h.output, by simpa using h.size, fun k hk hn => (Below.heap_setCell w' ⟨b, o, none⟩ u k hn).trans (h.block k hk hn)⟩
theorem Kp.cell {b : Nat} {w w' : World} (h : Kp b w w') {p : Addr} (hp : p.block < w.heap.size) (hn : p.block ≠ b) : w'.cell? p = w.cell? p := World.cell?_of_block (w := w) (h.block p.block hp hn)
theorem Kp.frozen {b : Nat} {w w' : World} (h : Kp b w w') {p : Addr} (hp : p.block < w.heap.size) (hn : p.block ≠ b) : w'.frozen? p = w.frozen? p := World.frozen?_of_block (w := w) (h.block p.block hp hn)
theorem Kp.below {b B : Nat} {w w' : World} (h : Kp b w w') (hB : B ≤ b) (hB' : B ≤ w.heap.size) : Below B w w' :=
  ⟨h.os, h.tape, h.output, h.size, fun k hk => h.block k (by omega) (by omega)⟩

theorem calls_bel {P : Program} {f : FuncId} {args : Array Value} {W0 W : World} {v : Value} (hW : Below W0.heap.size W0 W)
    (h : Calls P f args W fun e w' => e = .returned v ∧ Below W.heap.size W w') : Calls P f args W fun e w'' => e = .returned v ∧ ∃ p : GrownBy, w'' = gx W0 p.n p.os :=
  h.mono fun _ _ ⟨he, hb⟩ => ⟨he, below_gx (hW.trans (hb.mono hW.size))⟩
theorem bel_drew0 {W : World} : Below W.heap.size W W.drew := (Below.refl _ _).drew
theorem bel_drew {W : World} {n : Nat} {os : Array Obj} : Below W.heap.size W (gx W n os).drew := (gx_below W n os).drew
theorem bel_put {b : Nat} {w1 wr w5 : World} {n : Nat} {os : Array Obj} (hK : Kp b w1 wr) (h : Below (gx wr n os).heap.size (gx wr n os) w5) : Kp b w1 w5 := hK.on ((gx_below wr n os).trans (h.mono (gx_below wr n os).size))
theorem out_kept {b : Nat} {wr w5 : World} {n : Nat} {os : Array Obj} {v0 v1 : Value} (o0 : wr.cell? ⟨b, 0, none⟩ = some v0) (o1 : wr.cell? ⟨b, 1, none⟩ = some v1) (of : ∀ o, wr.frozen? ⟨b, o, none⟩ = false) (h : Below (gx wr n os).heap.size (gx wr n os) w5) (hb : b < wr.heap.size) :
    w5.cell? ⟨b, 0, none⟩ = some v0 ∧ w5.cell? ⟨b, 1, none⟩ = some v1 ∧ ∀ o, w5.frozen? ⟨b, o, none⟩ = false := by
  have hB := (gx_below wr n os).trans (h.mono (gx_below wr n os).size)
  exact ⟨(hB.cell (p := ⟨b, 0, none⟩) hb).trans o0, (hB.cell (p := ⟨b, 1, none⟩) hb).trans o1, fun o => (hB.frozen (p := ⟨b, o, none⟩) hb).trans (of o)⟩
def rmixS (m : Int → Int → Int) (A B : Lab) : List (Int × Int) := shortS (m A.d B.d) (rowS (fun c => m (atS A.d A.xs c) (atS B.d B.xs c)) (namedS [A, B]))

end Go.Proofs.Ytnjmgholoigpkaa
namespace Go.Proofs.Ytnjmgholoigpkaa

theorem stM_fold (m : Int → Int → Int) (L : List (Int × Int × Int)) (h : ∀ x ∈ L, x.1 ≠ 0) (s : Int × List (Int × Int)) :
    L.foldl (fun s x => if (x.1 == 0) = true then (m x.2.1 x.2.2, s.2) else (s.1, s.2 ++ [(x.1, m x.2.1 x.2.2)])) s = (s.1, s.2 ++ L.map fun x => (x.1, m x.2.1 x.2.2)) := by
  induction L generalizing s with
  | nil => simp
  | cons x L ih =>
    rw [List.foldl_cons, if_neg (by simpa using h x (List.mem_cons_self ..)), ih (fun y hy => h y (List.mem_cons_of_mem _ hy))]
    simp
def mixR (m : Int → Int → Int) (da db : Int) (f : Nat) (xs ys : List (Int × Int)) : List (Int × Int) := (prs da db f xs ys).map fun x => (x.1, m x.2.1 x.2.2)
theorem least_gt {l : Int} {xs ys : List (Int × Int)} (hx : Rise l xs) (hy : Rise l ys) (hne : 0 < xs.length + ys.length) : l < leastS xs ys := by
  cases xs with
  | nil => cases ys with
    | nil => simp at hne
    | cons y ys => exact hy.1
  | cons x xs => cases ys with
    | nil => exact hx.1
    | cons y ys => have := hx.1; have := hy.1; simp only [leastS]; omega
theorem mixR_facts (m : Int → Int → Int) (da db : Int) : ∀ (f : Nat) (l : Int) (xs ys : List (Int × Int)), Rise l xs → Rise l ys → xs.length + ys.length ≤ f →
    Rise l (mixR m da db f xs ys) ∧ ∀ c, atS (m da db) (mixR m da db f xs ys) c = m (atS da xs c) (atS db ys c) := by
  intro f
  induction f with
  | zero =>
    intro l xs ys _ _ hf
    obtain rfl : xs = [] := List.eq_nil_of_length_eq_zero (by omega)
    obtain rfl : ys = [] := List.eq_nil_of_length_eq_zero (by omega)
    exact ⟨trivial, fun _ => rfl⟩
  | succ f ih =>
    intro l xs ys hx hy hf
    by_cases hne : 0 < xs.length + ys.length
    · obtain ⟨hx', hy'⟩ := least_rise hx hy hne
      obtain ⟨ex, rx, ox⟩ := tk_at (d := da) hx'
      obtain ⟨ey, ry, oy⟩ := tk_at (d := db) hy'
      have hlt := tkR_lt xs ys hne
      obtain ⟨h1, h2⟩ := ih (leastS xs ys) _ _ rx ry (by omega)
      have hp := prs_cons da db (f + 1) xs ys hne hf
      rw [Nat.add_sub_cancel] at hp
      have e : mixR m da db (f + 1) xs ys = (leastS xs ys, m (tkL da (leastS xs ys) xs) (tkL db (leastS xs ys) ys)) :: mixR m da db f (tkR (leastS xs ys) xs) (tkR (leastS xs ys) ys) := by
        unfold mixR; rw [hp]; rfl
      rw [e]
      refine ⟨⟨least_gt hx hy hne, h1⟩, fun c => ?_⟩
      simp only [atS]
      by_cases hc : leastS xs ys = c
      · rw [if_pos (by simpa using hc), ex, ey, hc]
      · rw [if_neg (by simpa using hc), h2 c, ox c (Ne.symm hc), oy c (Ne.symm hc)]
    · obtain rfl : xs = [] := List.eq_nil_of_length_eq_zero (by omega)
      obtain rfl : ys = [] := List.eq_nil_of_length_eq_zero (by omega)
      have e : mixR m da db (f + 1) [] [] = [] := by simp [mixR, prs]
      rw [e]
      exact ⟨trivial, fun _ => rfl⟩
theorem Rise.gt {l : Int} {xs : List (Int × Int)} (h : Rise l xs) : ∀ x ∈ xs, l < x.1 := by
  induction xs generalizing l with
  | nil => intro x hx; simp at hx
  | cons y xs ih =>
    intro x hx
    rcases List.mem_cons.1 hx with rfl | hx
    · exact h.1
    · have := ih h.2 x hx; have := h.1; omega
theorem at_short {d c : Int} : ∀ {l : Int} {xs : List (Int × Int)}, Rise l xs → atS d (shortS d xs) c = atS d xs c
  | _, [], _ => rfl
  | l, x :: xs, h => by
    have ih := at_short (d := d) (c := c) h.2
    unfold shortS at ih ⊢
    rw [List.filter_cons]
    by_cases hx : (x.2 != d) = true
    · rw [if_pos hx]; simp only [atS]; rw [ih]
    · rw [if_neg hx]
      have hx' : x.2 = d := by simpa using hx
      simp only [atS]
      by_cases hc : (x.1 == c) = true
      · rw [if_pos hc, hx']
        have hc' : x.1 = c := by simpa using hc
        have := at_none (d := d) (c := c) (l := x.1) (by omega) h.2
        rw [ih, this]
      · rw [if_neg hc, ih]
theorem nodef_short (d : Int) (xs : List (Int × Int)) : NoDef d (shortS d xs) := fun x hx => by
  unfold shortS at hx; simpa using (List.mem_filter.1 hx).2

/- The rising row of what is named. -/
def insR (c : Int) : List Int → List Int
  | [] => [c]
  | y :: ys => if y < c then y :: insR c ys else if y = c then y :: ys else c :: y :: ys
theorem ins_of {c : Int} {cs : List Int} {k : Nat} (h : sc c cs = k) : ins c cs = if cs[k]? = some c then cs else cs.take k ++ [c] ++ cs.drop k := by subst h; rfl
theorem ins_eq (c : Int) (cs : List Int) : ins c cs = insR c cs := by
  induction cs with
  | nil => rw [ins_of (k := 0) rfl]; simp [insR]
  | cons y ys ih =>
    rw [insR]
    by_cases h1 : y < c
    · rw [if_pos h1, ← ih, ins_of (cs := y :: ys) (k := sc c ys + 1) (by simp [sc, h1]), ins_of (cs := ys) (k := sc c ys) rfl]
      simp only [List.getElem?_cons_succ, List.take_succ_cons, List.drop_succ_cons]
      split <;> simp
    · rw [if_neg h1, ins_of (cs := y :: ys) (k := 0) (by simp [sc, h1])]
      by_cases h2 : y = c
      · simp [h2]
      · simp [h2]
theorem rise_ins {f : Int → Int} {c : Int} : ∀ {l : Int} {cs : List Int}, Rise l (rowS f cs) → l < c → Rise l (rowS f (ins c cs)) := by
  intro l cs
  rw [ins_eq]
  induction cs generalizing l with
  | nil => intro _ h; exact ⟨h, trivial⟩
  | cons y ys ih =>
    intro h hl
    simp only [insR]
    by_cases h1 : y < c
    · rw [if_pos h1]; exact ⟨h.1, ih h.2 h1⟩
    · rw [if_neg h1]
      by_cases h2 : y = c
      · rw [if_pos h2]; exact h
      · rw [if_neg h2]; exact ⟨hl, by show c < y; omega, h.2⟩
theorem rise_insAll {f : Int → Int} {l : Int} {xs : List (Int × Int)} (hx : ∀ x ∈ xs, l < x.1) : ∀ {cs : List Int}, Rise l (rowS f cs) → Rise l (rowS f (insAll xs cs)) := by
  induction xs with
  | nil => intro cs h; exact h
  | cons x xs ih =>
    intro cs h
    exact ih (fun y hy => hx y (List.mem_cons_of_mem _ hy)) (rise_ins h (hx x (List.mem_cons_self ..)))
theorem rise_named2 {f : Int → Int} {A B : Lab} (ha : Rise 0 A.xs) (hb : Rise 0 B.xs) : Rise 0 (rowS f (namedS [A, B])) :=
  rise_insAll (f := f) (xs := B.xs) hb.gt (rise_insAll (f := f) (xs := A.xs) ha.gt (cs := []) trivial)
theorem at_row {d : Int} {f : Int → Int} {c : Int} {cs : List Int} : atS d (rowS f cs) c = if c ∈ cs then f c else d := by
  induction cs with
  | nil => simp [rowS, atS]
  | cons y ys ih =>
    show (if (y == c) = true then f y else atS d (rowS f ys) c) = _
    by_cases h : y = c
    · simp [h]
    · rw [if_neg (by simpa using h), ih]; simp [Ne.symm h]

theorem mixed_at {m : Int → Int → Int} {A B : Lab} (ha : Rise 0 A.xs) (hb : Rise 0 B.xs) (c : Int) : atS (m A.d B.d) (rmixS m A B) c = m (atS A.d A.xs c) (atS B.d B.xs c) := by
  unfold rmixS
  rw [at_short (rise_named2 ha hb), at_row]
  split
  · rfl
  · next hc => rw [at_out (c := c) (xs := A.xs) (fun x hx e => hc (by rw [← e]; exact named2_left hx)), at_out (c := c) (xs := B.xs) (fun x hx e => hc (by rw [← e]; exact named2_right hx))]
theorem mixed_rise {m : Int → Int → Int} {A B : Lab} (ha : Rise 0 A.xs) (hb : Rise 0 B.xs) : Rise 0 (rmixS m A B) := Rise.filter (rise_named2 ha hb)

theorem stM_mix {m : Int → Int → Int} {da db : Int} {xs ys : List (Int × Int)} (hx : Rise 0 xs) (hy : Rise 0 ys) : stM m (allP da db xs ys) = (m da db, mixR m da db (xs.length + ys.length) xs ys) := by
  have h := (mixR_facts m da db (xs.length + ys.length) 0 xs ys hx hy (Nat.le_refl _)).1
  unfold stM allP
  rw [List.foldl_cons, if_pos (by rfl), stM_fold m _ (fun x hx => ?_)]
  · rfl
  · have := h.gt (x.1, m x.2.1 x.2.2) (List.mem_map.2 ⟨x, hx, rfl⟩)
    simp only at this; omega
theorem mix_eq {m : Int → Int → Int} {A B : Lab} (ha : Rise 0 A.xs) (hb : Rise 0 B.xs) :
    (stM m (allP A.d B.d A.xs B.xs)).1 = m A.d B.d ∧ shortS (stM m (allP A.d B.d A.xs B.xs)).1 (stM m (allP A.d B.d A.xs B.xs)).2 = rmixS m A B := by
  rw [stM_mix ha hb]
  refine ⟨rfl, ?_⟩
  obtain ⟨h1, h2⟩ := mixR_facts m A.d B.d (A.xs.length + B.xs.length) 0 A.xs B.xs ha hb (Nat.le_refl _)
  refine same_of_at (d := m A.d B.d) (l := 0) (Rise.filter h1) (mixed_rise ha hb) (nodef_short _ _) (nodef_short _ _) (fun c _ => ?_)
  rw [mixed_at ha hb]
  show atS (m A.d B.d) (shortS (m A.d B.d) (mixR m A.d B.d (A.xs.length + B.xs.length) A.xs B.xs)) c = _
  rw [at_short h1, h2]
end Go.Proofs.Ytnjmgholoigpkaa
