/- Regions that draw their order, whose first operations leave the world within a class and whose last ones come in one order only: one walk serves every order. -/
import Derived.Test.YtfmeajanbmaimaaGreatHoObj
import Derived.Maps.OwnSet
import Derived.Maps.OwnOps
import Derived.Maps.Own
import Derived.StillTail
import Derived.Deep.Quiet
import Derived.BigQuiet
/- A table of objects as it lies in memory; find, container and Len of package hold. -/
namespace Go.Proofs.YtfmeajanbmaimaaGreat.Ho
open Go.RowKit Go.Sort
open Go.Maps (Keyed)
/-- What an object is. -/
structure Ob where
  id : Int
  kind : Int
  quota : Int
  used : Int
  links : Int
  df : Int
  cats : List (Int × Int)
  ents : List Int
/-- An object, and where it lies: its block, its label's row, its entries' row. -/
structure Rc where
  B : Nat
  cv : Value
  iv : Value
  ob : Ob
abbrev Tab := Int → Option Rc
def ivs (l : List Int) : List Value := l.map fun x => .int .i64 x
def cellsR (r : Rc) : Array Value := #[.int .i64 r.ob.id, .int .i64 r.ob.kind, .int .i64 r.ob.quota, .int .i64 r.ob.used, .int .i64 r.ob.links, .int .i64 r.ob.df, r.cv, r.iv]
structure RAt (w : World) (base : Nat) (r : Rc) : Prop where
  blk : w.heap[r.B]? = some (.cells (cellsR r) 166 (0, 0))
  cat : w.ownsRow base 172 2 r.cv r.ob.cats.length (flat r.ob.cats)
  row : w.ownsRow base 3 1 r.iv r.ob.ents.length (ivs r.ob.ents)
  low : base ≤ r.B
/-- The blocks of an object. -/
def foot (r : Rc) (k : Nat) : Prop := k = r.B ∨ r.cv.ownBlock = some k ∨ r.iv.ownBlock = some k
/-- A pointer, as its block's number. -/
def ptrE : Value → Option (DataW Unit × List MemPlace)
  | .pointer none => some (.lit (.int .i64 (-1)), [])
  | .pointer (some ⟨B, 0, none⟩) => some (.lit (.int .i64 B), [])
  | _ => none
theorem ptrE_inv {v : Value} {B : Nat} {ps : List MemPlace} (h : ptrE v = some (.lit (.int .i64 B), ps)) : v = .pointer (some ⟨B, 0, none⟩) := by
  unfold ptrE at h
  split at h
  · simp at h
  · simp at h
    have := h.1
    have e := Int.ofNat.inj this
    subst e; rfl
  · cases h
theorem ptrE_nil {v : Value} {ps : List MemPlace} (h : ptrE v = some (.lit (.int .i64 (-1)), ps)) : v = .pointer none := by
  unfold ptrE at h
  split at h
  · rfl
  · simp at h
  · cases h
abbrev MapAt (w : World) (mb : Nat) (D : DataW Unit) : Prop := w.ownsMap Tryz.prog 3 ptrE mb (Maps.size D) D
abbrev ky (k : Int) : Lit := .int .i64 k
structure TAt (w : World) (base tb mb : Nat) (D : DataW Unit) (T : Tab) : Prop where
  blk : w.heap[tb]? = some (.cells #[.map (some mb)] 182 (0, 0))
  map : MapAt w mb D
  has : ∀ k, Maps.has D (ky k) = (T k).isSome
  at_ : ∀ k r, T k = some r → ∀ z, D.atKey (ky k) z = .lit (.int .i64 (r.B : Int))
  obj : ∀ k r, T k = some r → RAt w base r ∧ r.ob.id = k
  apart : ∀ i j r s k, T i = some r → T j = some s → i ≠ j → foot r k → foot s k → False
  lowt : base ≤ tb
  lowm : base ≤ mb
def tfoot (tb mb : Nat) (T : Tab) (k : Nat) : Prop := k = tb ∨ k = mb ∨ ∃ i r, T i = some r ∧ foot r k
/-- What a call leaves: nothing but F has turned, and what is F' now was F or is new. -/
structure Fm (w w' : World) (F F' : Nat → Prop) : Prop where
  os : w'.os = w.os
  tape : w'.tape = w.tape
  output : w'.output = w.output
  size : w.heap.size ≤ w'.heap.size
  same : ∀ k, k < w.heap.size → ¬ F k → w'.heap[k]? = w.heap[k]?
  new : ∀ k, F' k → F k ∨ w.heap.size ≤ k
theorem ui : Tryz.prog.underlying 3 = some (.int .i64) := by kernel_rfl
theorem um : Tryz.prog.underlying 180 = some (.map 3 158) := by kernel_rfl
theorem keyedI : Keyed Tryz.prog 3 := Maps.int_keyed ui
def i64 (n : Int) : Prop := -9223372036854775808 ≤ n ∧ n ≤ 9223372036854775807
theorem wf64 {n : Int} (h : i64 n) : (Lit.int .i64 n).wf = true := by
  simp [Lit.wf]
  have h1 : IntKind.min .i64 = -9223372036854775808 := by decide
  have h2 : IntKind.max .i64 = 9223372036854775807 := by decide
  unfold i64 at h
  omega
theorem keyI {n : Int} (h : i64 n) : keyOf Tryz.prog 3 (.int .i64 n) = some (ky n) := Maps.keyOf_int_mk ui (wf64 h)
/-- Which block is found. -/
def fnd (T : Tab) (id : Int) : Value := .pointer ((T id).map fun r => ⟨r.B, 0, none⟩)
theorem look_any {w : World} {base tb mb : Nat} {D : DataW Unit} {T : Tab} (h : TAt w base tb mb D T) (id : Int) (hi : i64 id) :
    (Instr.lookup 180 (.map (some mb)) (.int .i64 id) false).run Tryz.prog w = .ok (fnd T id) w := by
  obtain ⟨v, ps, hrun, hv⟩ := h.map.lookup keyedI um (z := .pointer none) (by kernel_rfl) (zd := .lit (.int .i64 (-1))) (zp := []) rfl (keyI hi)
  have hv2 : v = fnd T id := by
    unfold fnd
    cases hT : T id with
    | none =>
      have hh : Maps.has D (ky id) = false := by rw [h.has, hT]; rfl
      rw [Maps.atKey_of_not_has hh] at hv
      exact ptrE_nil hv
    | some r =>
      rw [h.at_ id r hT] at hv
      exact ptrE_inv hv
  rw [hrun, hv2]
theorem find_any {w : World} {base tb mb : Nat} {D : DataW Unit} {T : Tab} (h : TAt w base tb mb D T) (id : Int) (hi : i64 id) :
    Calls Tryz.prog 94 #[.pointer (some ⟨tb, 0, none⟩), .int .i64 id] w fun e w' => e = .returned (fnd T id) ∧ w' = w := by
  have hl := look_any h id hi
  have c0 : w.cell? ⟨tb, 0, none⟩ = some (.map (some mb)) := by simp [World.cell?, h.blk]
  clear h
  go_enter Tryz.func94, Tryz.ntmps94
  go_wp2
  go_ret
  exact ⟨rfl, rfl⟩
theorem Len_any {w : World} {base tb mb : Nat} {D : DataW Unit} {T : Tab} (h : TAt w base tb mb D T) :
    Calls Tryz.prog 118 #[.pointer (some ⟨tb, 0, none⟩)] w fun e w' => e = .returned (.int .i64 (Maps.size D)) ∧ w' = w := by
  have c0 : w.cell? ⟨tb, 0, none⟩ = some (.map (some mb)) := by simp [World.cell?, h.blk]
  have hl := World.ownsMap.len h.map um 3
  clear h
  go_enter Tryz.func118, Tryz.ntmps118
  go_wp2
  go_ret
  exact ⟨rfl, rfl⟩
end Go.Proofs.YtfmeajanbmaimaaGreat.Ho
/- What New of package hold makes. -/
namespace Go.Proofs.YtfmeajanbmaimaaGreat.Ho
open Go.RowKit Go.Sort
def root0 (root d : Int) (xs : List (Int × Int)) : Ob := ⟨root, 1, 1099511627776, 0, 1, d, xs, []⟩
def T0 (root : Int) (r : Rc) : Tab := fun k => if k = root then some r else none
set_option maxRecDepth 100000 in
set_option maxHeartbeats 1000000 in
theorem New_any (root d : Int) (p : Option Addr) (cap : Nat) (xs : List (Int × Int)) (w : World) (hm : xs.length * 16 ≤ 140737488355328) (hc : CatsAt w p xs) (hi : isCt root = true) (hf : fitsS d 1 xs = true) :
    Calls Tryz.prog 50 #[.int .i64 root, .agg #[.int .i64 d, .slice p xs.length cap]] w fun e w' => ∃ tb mb D r, e = .returned (.pointer (some ⟨tb, 0, none⟩)) ∧ TAt w' w.heap.size tb mb D (T0 root r) ∧ r.ob = root0 root d xs ∧ Maps.size D = 1 ∧ Below w.heap.size w w' := by
  have hW1 : Below w.heap.size w (w.alloc (.cells #[.int .i64 d, .slice p xs.length cap] 26)) := by go_grown
  have hc1 := hc.below hW1
  have HF := Lib.hid (fits_any d 1 p cap xs _ (by unfold maxLen; omega) hc1)
  have HI := Lib.hid (isId_any root)
  have HO : Hid (∀ W, RowKit.Below (w.alloc (.cells #[.int .i64 d, .slice p xs.length cap] 26)).heap.size (w.alloc (.cells #[.int .i64 d, .slice p xs.length cap] 26)) W → _) := fun W hb => newObject_any root 1 1099511627776 d p cap xs W hm (hc1.below hb)
  have hmm := @run_makeMap Tryz.prog
  have k0 : (w.alloc (.cells #[.int .i64 d, .slice p xs.length cap] 26)).cell? ⟨w.heap.size, 0, none⟩ = some (.int .i64 d) := by simp [go_sem]
  have k1 : (w.alloc (.cells #[.int .i64 d, .slice p xs.length cap] 26)).cell? ⟨w.heap.size, 1, none⟩ = some (.slice p xs.length cap) := by simp [go_sem]
  rw [hi] at HI
  rw [hf] at HF
  clear hc hc1
  go_enter Tryz.func50, Tryz.ntmps50
  go_wp2_with (first
    | (go_at_call 114; refine (HI.out _).mono ?_; rintro e w2 ⟨rfl, hw2⟩; rw [hw2]; clear hw2 w2)
    | (go_at_call 115; refine HF.out.mono ?_; rintro e w2 ⟨rfl, hb2⟩; have HO2 := Lib.hid (HO.out w2 hb2); have l0 := (hb2.cell (p := ⟨w.heap.size, 0, none⟩) (by simp)).trans k0; have l1 := (hb2.cell (p := ⟨w.heap.size, 1, none⟩) (by simp)).trans k1)
    | (go_at_call 116; refine HO2.out.mono ?_; rintro e w3 ⟨B, cv, rfl, hB, hlow, hr3, hb3⟩; refine Hid.out ?_))
  refine Lib.hid ?_
  have o4 : w3.cell? ⟨B, 4, none⟩ = some (.int .i64 0) := by simp [World.cell?, hB]
  have f4 : w3.frozen? ⟨B, 4, none⟩ = false := by simp [World.frozen?, hB]
  have hm0 : ((w3.setCell ⟨B, 4, none⟩ (.int .i64 1)).alloc (.map #[] 0)).ownsMap Tryz.prog 3 ptrE w3.heap.size 0 (.map []) := by
    have := World.ownsMap_made (H := Unit) (w3.setCell ⟨B, 4, none⟩ (.int .i64 1)) Tryz.prog 3 ptrE
    rwa [show (w3.setCell ⟨B, 4, none⟩ (.int .i64 1)).heap.size = w3.heap.size from by simp] at this
  have hir : i64 root := by have := hi; unfold isCt at this; simp at this; unfold i64; omega
  obtain ⟨w5, hup, hm5, hg5⟩ := hm0.update keyedI um (by unfold maxLen; omega) (keyI hir) (val := .pointer (some ⟨B, 0, none⟩)) (d := .lit (.int .i64 (B : Int))) (ps := []) rfl
  have HB := Lib.hid hB
  have HR3 := Lib.hid hr3
  have HM5 := Lib.hid hm5
  have HG5 := Lib.hid hg5
  have HB3 := Lib.hid hb3
  have HB2 := Lib.hid hb2
  clear hm5 hg5 hm0 hr3 hB hb3 hb2
  go_wp2_with fail
  go_ret
  have hlt3 : B < w3.heap.size := (Array.getElem?_eq_some_iff.1 HB.out).1
  have z2 := HB2.out.size
  have z3 := HB3.out.size
  have z5 := HG5.out.size
  simp at z2 z5
  have b4 : ((w3.setCell ⟨B, 4, none⟩ (.int .i64 1)).alloc (.map #[] 0)).heap[B]? = some (.cells #[.int .i64 root, .int .i64 1, .int .i64 1099511627776, .int .i64 0, .int .i64 1, .int .i64 d, cv, .slice none 0 0] 166 (0, 0)) := by
    rw [Below.heap_alloc _ _ _ (by simpa using hlt3), heap_setCell_same _ _ _ _ _ _ HB.out]
    rfl
  have b5 : w5.heap[B]? = _ := (HG5.out.block B (by simp; omega) (by simp; omega)).trans b4
  have b6 : (w5.alloc (.cells #[.map (some w3.heap.size)] 182)).heap[B]? = _ := (Below.heap_alloc _ _ _ (by omega)).trans b5
  have hcvl : ∀ k, cv.ownBlock = some k → k < w3.heap.size ∧ w2.heap.size ≤ k := fun k hk => ⟨(HR3.out.lt k hk).2, (HR3.out.lt k hk).1⟩
  have hcvB : ∀ k, cv.ownBlock = some k → k ≠ B := fun k hk e => by
    subst e
    rcases HR3.out.2 with ⟨rfl, _⟩ | ⟨g, cap', cur, rfl, _, hg, _⟩
    · cases hk
    · obtain rfl : g = k := by simpa [Value.ownBlock] using hk
      rw [HB.out] at hg; simp at hg
  have same : ∀ k, k < w3.heap.size → k ≠ B → (w5.alloc (.cells #[.map (some w3.heap.size)] 182)).heap[k]? = w3.heap[k]? := fun k hk hne => by
    rw [Below.heap_alloc _ _ _ (by omega), HG5.out.block k (by simp; omega) (by simp; omega), Below.heap_alloc _ _ _ (by simpa using hk), heap_ne _ _ _ hne]
  have hD : Maps.IsMap (.map [] : DataW Unit) := Maps.isMap_empty
  have hsz : Maps.size ((.map [] : DataW Unit).put (ky root) (.lit (.int .i64 (B : Int)))) = 1 := by rw [Maps.size_put Maps.tidy_empty]; rfl
  refine ⟨w5.heap.size, w3.heap.size, (.map [] : DataW Unit).put (ky root) (.lit (.int .i64 (B : Int))), ⟨B, cv, .slice none 0 0, root0 root d xs⟩, rfl, ⟨heap_new _ _, ?_, ?_, ?_, ?_, ?_, ?_, ?_⟩, rfl, hsz, ?_⟩
  · show World.ownsMap _ _ _ _ _ _ _
    rw [hsz]
    exact HM5.out.alloc _
  · intro k
    unfold T0
    by_cases hk : k = root
    · subst hk; rw [if_pos rfl, Maps.has_put_same hD (show WideAt.IsKeyLit (ky k) from trivial)]; rfl
    · rw [if_neg hk, Maps.has_put_other (by simpa using hk)]; rfl
  · intro k r hr z
    unfold T0 at hr
    split at hr
    · subst k; cases hr; rw [Maps.atKey_put_same hD (show WideAt.IsKeyLit (ky root) from trivial)]
    · cases hr
  · intro k r hr
    unfold T0 at hr
    split at hr
    · subst k; cases hr
      refine ⟨⟨b6, ?_, World.ownsRow_nil _ _ _ _, by show _ ≤ B; omega⟩, rfl⟩
      exact row_mono (row_same HR3.out (fun k hk => same k (hcvl k hk).1 (hcvB k hk))) (by omega)
    · cases hr
  · intro i j r s k hr hs hij
    unfold T0 at hr hs
    split at hr
    · split at hs
      · omega
      · cases hs
    · cases hr
  · show w.heap.size ≤ w5.heap.size; omega
  · show w.heap.size ≤ w3.heap.size; omega
  · have h2 : RowKit.Below w.heap.size w w2 := hW1.trans (HB2.out.mono (by simp))
    have h3 : RowKit.Below w.heap.size w w3 := h2.trans (HB3.out.mono (by omega))
    have h4 : RowKit.Below w.heap.size w ((w3.setCell ⟨B, 4, none⟩ (.int .i64 1)).alloc (.map #[] 0)) := (h3.setCell (p := ⟨B, 4, none⟩) (by show _ ≤ B; omega) _).alloc (by simp; omega) _
    have h5 : RowKit.Below w.heap.size w w5 := Below.grown h4 HG5.out (by simp; omega) (fun k hk => by simp at hk; omega)
    exact h5.alloc (by omega) _
end Go.Proofs.YtfmeajanbmaimaaGreat.Ho
namespace Go.Proofs.YtfmeajanbmaimaaGreat.Ho
open Go.RowKit Go.Sort
section
variable {P : Program} {ops : Array Oper} {md : Region.Mode} {C : World → Prop} {n : Nat} {L : Array Bool → Act → Prop}

/-- Whatever of the first n comes up, f times; then L. -/
def anyHd (P : Program) (md : Region.Mode) (ops : Array Oper) (C : World → Prop) (n : Nat) (L : Array Bool → Act → Prop) : Nat → Array Bool → Act → Prop
  | 0, li, a => L li a
  | f + 1, li, a => (∃ i, i ∈ Region.ready md ops li) ∧ ∀ i ∈ Region.ready md ops li, i < n ∧ qOp P ops C i (anyHd P md ops C n L f (li.setIfInBounds i true)) a

theorem anyHd_wp {g : Nat} {Q : Exit → Act → World → Prop} (hL : ∀ li a w, C w → L li a → wpAny P md ops Q g li a w) (f : Nat) :
    ∀ li a w, C w → anyHd P md ops C n L f li a → wpAny P md ops Q (f + g) li a w := by
  induction f with
  | zero => intro li a w hw h; rw [Nat.zero_add]; exact hL li a w hw h
  | succ f ih =>
    intro li a w hw h
    obtain ⟨⟨i0, hi0⟩, h⟩ := h
    rw [Nat.succ_add]
    exact ⟨fun e => (by rw [e] at hi0; cases hi0), fun i hi => wpOp_of_qOp hw (fun a' w' hw' h' => ih _ a' w' hw' h') (h i hi).2⟩

theorem head_lt {li : Array Bool} {i j : Nat} (hs : Region.sinkB md ops n = true) (hc : Region.chainB md ops n = true) (hn : n < ops.size) (inv : HeadInv md ops n li) (hi : i < n) (hu : li.getD i true = false) (hj : j ∈ Region.ready md ops li) : j < n :=
  Nat.lt_of_not_le fun h => tail_waits hs hc hn inv _ i rfl hi hu j h hj

/-- What is ready among the first n, and apart from all that doesn't wait for it, may be taken ahead of the others. -/
theorem anyHd_take {i : Nat} {o : Oper} {v : Value} (ho : ops[i]? = some o) (hsel : ∀ (j : Nat) (o : Oper) cs b, ops[j]? = some o → o.op ≠ .select cs b)
    (hs : Region.sinkB md ops n = true) (hc : Region.chainB md ops n = true) (hn : n < ops.size) (hi : i < n) (hend : ∀ li a, L li a → ∀ j ∈ Region.ready md ops li, n ≤ j) (f : Nat) :
    ∀ (li : Array Bool) (a : Act), HeadInv md ops n li → (∀ j oj, ops[j]? = some oj → j ≠ i → li.getD j true = false → (∀ e ∈ oj.after, Region.binds md e = true → e.on ≠ i) → o.apart ops oj = true) →
      i ∈ Region.ready md ops li → YieldsIn P ops C o v a → anyHd P md ops C n L f (li.setIfInBounds i true) (a.put o.dst v) → anyHd P md ops C n L (f + 1) li a := by
  induction f with
  | zero =>
    intro li a inv _ hr hy H
    refine ⟨⟨i, hr⟩, fun j hj => ?_⟩
    have hjn := head_lt hs hc hn inv hi (mem_ready.1 hr).1 hj
    by_cases e : j = i
    · subst e; exact ⟨hjn, hy.qOp ho H⟩
    · exact absurd (hend _ _ H j (ready_mono hj e)) (Nat.not_le.2 hjn)
  | succ f ih =>
    intro li a inv hap hr hy H
    refine ⟨⟨i, hr⟩, fun j hj => ?_⟩
    have hu := (mem_ready.1 hr).1
    have hjn := head_lt hs hc hn inv hi hu hj
    refine ⟨hjn, ?_⟩
    by_cases e : j = i
    · subst e; exact hy.qOp ho H
    obtain ⟨hju, oj, hoj, hdep⟩ := mem_ready.1 hj
    have hno : ∀ x ∈ oj.after, Region.binds md x = true → x.on ≠ i := by
      intro x hx hb hxi
      have h1 := hdep x hx hb
      rw [hxi, getD_both hu] at h1
      exact absurd h1 (by simp)
    refine qOp_mono (fun a' h => ?_) (qOp_put hoj (hap j oj hoj e hju hno) (fun cs b => hsel i o cs b ho) (fun cs b => hsel j oj cs b hoj) hy (H.2 j (ready_mono hj e)).2)
    refine ih (li.setIfInBounds j true) a' (inv.set hj hjn) (fun k ok hk hki hku => hap k ok hk hki ?_) (ready_mono hr (Ne.symm e)) h.1 ?_
    · by_cases ejk : j = k
      · subst ejk; exact hju
      · rwa [getD_set_ne true ejk] at hku
    · rw [Array.setIfInBounds_comm _ _ e]; exact h.2

theorem anyHd_lex {g : Nat} {R : Act → Prop} (hsel : Region.noSelect ops = true) (hs : Region.sinkB md ops n = true) (hc : Region.chainB md ops n = true) (hn : n < ops.size) (l : List Oper) :
    ∀ (k : Nat) (li : Array Bool) (a : Act), (∀ j, j < l.length → l[j]? = ops[k + j]?) → k + l.length = n → HeadInv md ops n li → Region.lexHead md ops g l.length k li = true → wpQuiet P ops C R l a →
      anyHd P md ops C n (fun li' a' => Region.seqB md ops g n li' = true ∧ R a') l.length li a := by
  induction l with
  | nil =>
    intro k li a _ hk _ hB h
    simp only [List.length_nil, Nat.add_zero] at hk
    subst hk
    exact ⟨hB, h⟩
  | cons o l ih =>
    intro k li a hl hk inv hB h
    have h0 : ops[k]? = some o := by simpa using (hl 0 (by simp)).symm
    rw [List.length_cons] at hk hB
    rw [Region.lexHead, Bool.and_eq_true, Bool.and_eq_true] at hB
    have hr : k ∈ Region.ready md ops li := by simpa using hB.1.1
    have hq : qOp P ops C k (wpQuiet P ops C R l) a := by unfold qOp; rw [h0]; exact h
    obtain ⟨v, hy, hK⟩ := yieldsIn_of_qOp h0 hq
    refine anyHd_take h0 (Region.noSelect_spec hsel) hs hc hn (by omega) (fun _ _ hL => seqB_ready hL.1) l.length li a inv (Region.free_spec h0 hB.1.2) hr hy ?_
    refine ih (k + 1) _ _ (fun j hj => ?_) (by omega) (inv.set hr (by omega)) hB.2 hK
    have := hl (j + 1) (by simp; omega)
    rw [Nat.add_assoc, Nat.add_comm 1 j, ← this]; simp

/-- ONE WALK SERVES: the first n operations quiet in the class, the others as they stand in the text. -/
theorem wp_region_quiet_tail {id : Nat} {Q : Exit → Act → World → Prop} {a : Act} {w : World} {l : List Oper} (n : Nat) (hm : P.follows .mixedOrders = true) (hB : Region.lexTailB .any l.toArray n = true) (hC : C { w with drawn := w.drawn + 1 })
    (h : wpQuiet P l.toArray C (fun a' => ∀ w', C w' → wpList P l.toArray Q (l.drop n) a' w') (l.take n) a) : (Code.region id l.toArray true).wp P Q a w := by
  simp only [Region.lexTailB, Bool.and_eq_true, decide_eq_true_eq] at hB
  obtain ⟨⟨⟨⟨h1, h2⟩, h3⟩, h4⟩, h5⟩ := hB
  have hn : n < l.length := by simpa using h2
  have e1 : (l.take n).length = n := by rw [List.length_take]; omega
  have e2 : (l.drop n).length = l.toArray.size - n := by simp
  have inv : HeadInv .any l.toArray n (Array.replicate l.toArray.size false) :=
    ⟨by simp, fun j oj _ hl => (by rw [getD_replicate_false] at hl; cases hl), fun t _ ht => getD_in (by simpa using ht) (getD_replicate_false _ _)⟩
  have H := anyHd_lex (C := C) (md := .any) (g := l.toArray.size - n) h1 h3 h4 h2 (l.take n) 0 _ a (fun j hj => by rw [e1] at hj; simp [hj]) (by rw [e1, Nat.zero_add]) inv (by rw [e1]; exact h5) h
  refine wp_region_any hm ?_
  have G := anyHd_wp (g := l.toArray.size - n) (Q := Q) (fun li a' w' hw' hL => by
    have := wpAny_of_seq (md := .any) (Q' := Q) (l.drop n) n li a' w' (fun j => by simp [List.getElem?_drop]) (by rw [e2]; exact hL.1) (hL.2 w' hw')
    rwa [e2] at this) _ _ _ _ hC H
  rw [e1, show n + (l.toArray.size - n) = l.toArray.size from by simp at h2 ⊢; omega] at G
  exact G
end

/-- The same, at the class of worlds that have drawn alone. -/
theorem wp_region_tail_d {P : Program} {id : Nat} {Q : Exit → Act → World → Prop} {a : Act} {w : World} {l : List Oper} (n : Nat) (hm : P.follows .mixedOrders = true) (hB : Region.lexTailB .any l.toArray n = true)
    (h : wpQuiet P l.toArray (fun w' => ∃ nq, w' = w.drewN nq) (fun a' => ∀ w', (∃ nq, w' = w.drewN nq) → wpList P l.toArray Q (l.drop n) a' w') (l.take n) a) : (Code.region id l.toArray true).wp P Q a w :=
  wp_region_quiet_tail (C := fun w' => ∃ nq, w' = w.drewN nq) n hm hB ⟨1, rfl⟩ h
end Go.Proofs.YtfmeajanbmaimaaGreat.Ho
