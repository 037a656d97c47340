/- container, entry, has and room of package hold. -/
import Derived.Test.YtmgfakfiiaeofaaGreatHoTab
import Derived.Maps.Own
import Derived.StillTail
import Derived.Deep.Quiet
import Derived.BigQuiet
import Derived.OwnWalk
import Derived.Maps.AppendAt
/- What New of package hold makes. -/
namespace Go.Proofs.YtmgfakfiiaeofaaGreat.Ho
open Go.RowKit Go.Sort
def root0 (root d : Int) (xs : List (Int × Int)) : Ob := ⟨root, 1, 1099511627776, 0, 1, d, xs, []⟩
def T0 (root : Int) (r : Rc) : Tab := fun k => if k = root then some r else none
set_option maxRecDepth 100000 in
set_option maxHeartbeats 1000000 in
theorem New_any (root d : Int) (p : Option Addr) (cap : Nat) (xs : List (Int × Int)) (w : World) (hm : xs.length * 16 <= 140737488355328) (hc : CatsAt w p xs) (hi : isCt root = true) (hf : fitsS d 1 xs = true) :
 Calls Tryz.prog 14 #[.int .i64 root, .agg #[.int .i64 d, .slice p xs.length cap]] w fun e w' => ∃ tb mb D r, e = .returned (.pointer (some ⟨tb, 0, none⟩)) /\ TAt w' w.heap.size tb mb D (T0 root r) /\ r.ob = root0 root d xs /\ Maps.size D = 1 /\ Below w.heap.size w w' := by
 have hW1 : Below w.heap.size w (w.alloc (.cells #[.int .i64 d, .slice p xs.length cap] 46)) := by go_grown
 have hc1 := hc.below hW1
 have HF := Lib.hid (fits_any d 1 p cap xs _ (by unfold maxLen; omega) hc1)
 have HI := Lib.hid (isId_any root)
 have HO : Hid (∀ W, RowKit.Below (w.alloc (.cells #[.int .i64 d, .slice p xs.length cap] 46)).heap.size (w.alloc (.cells #[.int .i64 d, .slice p xs.length cap] 46)) W -> _) := fun W hb => newObject_any root 1 1099511627776 d p cap xs W hm (hc1.below hb)
 have hmm := @run_makeMap Tryz.prog
 have k0 : (w.alloc (.cells #[.int .i64 d, .slice p xs.length cap] 46)).cell? ⟨w.heap.size, 0, none⟩ = some (.int .i64 d) := by simp [go_sem]
 have k1 : (w.alloc (.cells #[.int .i64 d, .slice p xs.length cap] 46)).cell? ⟨w.heap.size, 1, none⟩ = some (.slice p xs.length cap) := by simp [go_sem]
 rw [hi] at HI
 rw [hf] at HF
 clear hc hc1
 go_enter Tryz.func14, Tryz.ntmps14
 go_wp2_with (first
  | (go_at_call 31; refine (HI.out _).mono ?_; rintro e w2 ⟨rfl, hw2⟩; rw [hw2]; clear hw2 w2)
  | (go_at_call 32; refine HF.out.mono ?_; rintro e w2 ⟨rfl, hb2⟩; have HO2 := Lib.hid (HO.out w2 hb2); have l0 := (hb2.cell (p := ⟨w.heap.size, 0, none⟩) (by simp)).trans k0; have l1 := (hb2.cell (p := ⟨w.heap.size, 1, none⟩) (by simp)).trans k1)
  | (go_at_call 33; refine HO2.out.mono ?_; rintro e w3 ⟨B, cv, rfl, hB, hlow, hr3, hb3⟩; refine Hid.out ?_))
 refine Lib.hid ?_
 have o4 : w3.cell? ⟨B, 4, none⟩ = some (.int .i64 0) := by simp [World.cell?, hB]
 have f4 : w3.frozen? ⟨B, 4, none⟩ = false := by simp [World.frozen?, hB]
 have hm0 : ((w3.setCell ⟨B, 4, none⟩ (.int .i64 1)).alloc (.map #[] 0)).ownsMap Tryz.prog 3 ptrE w3.heap.size 0 (.map []) := by
  have := World.ownsMap_made (H := Unit) (w3.setCell ⟨B, 4, none⟩ (.int .i64 1)) Tryz.prog 3 ptrE
  rwa [show (w3.setCell ⟨B, 4, none⟩ (.int .i64 1)).heap.size = w3.heap.size from by simp] at this
 have hir : i64 root := by have := hi; unfold isCt at this; simp at this; unfold i64; omega
 obtain ⟨w5, hup, hm5, hg5⟩ := hm0.update keyedI um (by unfold maxLen; omega) (keyI hir) (val := .pointer (some ⟨B, 0, none⟩)) (d := .lit (.int .i64 (B : Int))) (ps := []) rfl
 have HB := Lib.hid hB
 have HR3 := Lib.hid hr3
 have HM5 := Lib.hid hm5
 have HG5 := Lib.hid hg5
 have HB3 := Lib.hid hb3
 have HB2 := Lib.hid hb2
 clear hm5 hg5 hm0 hr3 hB hb3 hb2
 go_wp2_with fail
 go_ret
 have hlt3 : B < w3.heap.size := (Array.getElem?_eq_some_iff.1 HB.out).1
 have z2 := HB2.out.size
 have z3 := HB3.out.size
 have z5 := HG5.out.size
 simp at z2 z5
 have b4 : ((w3.setCell ⟨B, 4, none⟩ (.int .i64 1)).alloc (.map #[] 0)).heap[B]? = some (.cells #[.int .i64 root, .int .i64 1, .int .i64 1099511627776, .int .i64 0, .int .i64 1, .int .i64 d, cv, .slice none 0 0] 110 (0, 0)) := by
  rw [Below.heap_alloc _ _ _ (by simpa using hlt3), heap_setCell_same _ _ _ _ _ _ HB.out]
  rfl
 have b5 : w5.heap[B]? = _ := (HG5.out.block B (by simp; omega) (by simp; omega)).trans b4
 have b6 : (w5.alloc (.cells #[.map (some w3.heap.size)] 113)).heap[B]? = _ := (Below.heap_alloc _ _ _ (by omega)).trans b5
 have hcvl : ∀ k, cv.ownBlock = some k -> k < w3.heap.size /\ w2.heap.size <= k := fun k hk => ⟨(HR3.out.lt k hk).2, (HR3.out.lt k hk).1⟩
 have hcvB : ∀ k, cv.ownBlock = some k -> k ≠ B := fun k hk e => by
  subst e
  rcases HR3.out.2 with ⟨rfl, _⟩ | ⟨g, cap', cur, rfl, _, hg, _⟩
  · cases hk
  · obtain rfl : g = k := by simpa [Value.ownBlock] using hk
    rw [HB.out] at hg; simp at hg
 have same : ∀ k, k < w3.heap.size -> k ≠ B -> (w5.alloc (.cells #[.map (some w3.heap.size)] 113)).heap[k]? = w3.heap[k]? := fun k hk hne => by
  rw [Below.heap_alloc _ _ _ (by omega), HG5.out.block k (by simp; omega) (by simp; omega), Below.heap_alloc _ _ _ (by simpa using hk), heap_ne _ _ _ hne]
 have hD : Maps.IsMap (.map [] : DataW Unit) := Maps.isMap_empty
 have hsz : Maps.size ((.map [] : DataW Unit).put (ky root) (.lit (.int .i64 (B : Int)))) = 1 := by rw [Maps.size_put Maps.tidy_empty]; rfl
 refine ⟨w5.heap.size, w3.heap.size, (.map [] : DataW Unit).put (ky root) (.lit (.int .i64 (B : Int))), ⟨B, cv, .slice none 0 0, root0 root d xs⟩, rfl, ⟨heap_new _ _, ?_, ?_, ?_, ?_, ?_, ?_, ?_⟩, rfl, hsz, ?_⟩
 · show World.ownsMap _ _ _ _ _ _ _
   rw [hsz]
   exact HM5.out.alloc _
 · intro k
   unfold T0
   by_cases hk : k = root
   · subst hk; rw [if_pos rfl, Maps.has_put_same hD (show WideAt.IsKeyLit (ky k) from trivial)]; rfl
   · rw [if_neg hk, Maps.has_put_other (by simpa using hk)]; rfl
 · intro k r hr z
   unfold T0 at hr
   split at hr
   · subst k; cases hr; rw [Maps.atKey_put_same hD (show WideAt.IsKeyLit (ky root) from trivial)]
   · cases hr
 · intro k r hr
   unfold T0 at hr
   split at hr
   · subst k; cases hr
     refine ⟨⟨b6, ?_, World.ownsRow_nil _ _ _ _, by show _ <= B; omega⟩, rfl⟩
     exact row_mono (row_same HR3.out (fun k hk => same k (hcvl k hk).1 (hcvB k hk))) (by omega)
   · cases hr
 · intro i j r s k hr hs hij
   unfold T0 at hr hs
   split at hr
   · split at hs
     · omega
     · cases hs
   · cases hr
 · show w.heap.size <= w5.heap.size; omega
 · show w.heap.size <= w3.heap.size; omega
 · have h2 : RowKit.Below w.heap.size w w2 := hW1.trans (HB2.out.mono (by simp))
   have h3 : RowKit.Below w.heap.size w w3 := h2.trans (HB3.out.mono (by omega))
   have h4 : RowKit.Below w.heap.size w ((w3.setCell ⟨B, 4, none⟩ (.int .i64 1)).alloc (.map #[] 0)) := (h3.setCell (p := ⟨B, 4, none⟩) (by show _ <= B; omega) _).alloc (by simp; omega) _
   have h5 : RowKit.Below w.heap.size w w5 := Below.grown h4 HG5.out (by simp; omega) (fun k hk => by simp at hk; omega)
   exact h5.alloc (by omega) _
section
variable {P : Program} {ops : Array Oper} {md : Region.Mode} {C : World -> Prop} {n : Nat} {L : Array Bool -> Act -> Prop}

def anyHd (P : Program) (md : Region.Mode) (ops : Array Oper) (C : World -> Prop) (n : Nat) (L : Array Bool -> Act -> Prop) : Nat -> Array Bool -> Act -> Prop
 | 0, li, a => L li a
 | f + 1, li, a => (∃ i, i ∈ Region.ready md ops li) /\ ∀ i ∈ Region.ready md ops li, i < n /\ qOp P ops C i (anyHd P md ops C n L f (li.setIfInBounds i true)) a

theorem anyHd_wp {g : Nat} {Q : Exit -> Act -> World -> Prop} (hL : ∀ li a w, C w -> L li a -> wpAny P md ops Q g li a w) (f : Nat) :
 ∀ li a w, C w -> anyHd P md ops C n L f li a -> wpAny P md ops Q (f + g) li a w := by
 induction f with
 | zero => intro li a w hw h; rw [Nat.zero_add]; exact hL li a w hw h
 | succ f ih =>
  intro li a w hw h
  obtain ⟨⟨i0, hi0⟩, h⟩ := h
  rw [Nat.succ_add]
  exact ⟨fun e => (by rw [e] at hi0; cases hi0), fun i hi => wpOp_of_qOp hw (fun a' w' hw' h' => ih _ a' w' hw' h') (h i hi).2⟩

theorem head_lt {li : Array Bool} {i j : Nat} (hs : Region.sinkB md ops n = true) (hc : Region.chainB md ops n = true) (hn : n < ops.size) (inv : HeadInv md ops n li) (hi : i < n) (hu : li.getD i true = false) (hj : j ∈ Region.ready md ops li) : j < n :=
 Nat.lt_of_not_le fun h => tail_waits hs hc hn inv _ i rfl hi hu j h hj

theorem anyHd_take {i : Nat} {o : Oper} {v : Value} (ho : ops[i]? = some o) (hsel : ∀ (j : Nat) (o : Oper) cs b, ops[j]? = some o -> o.op ≠ .select cs b)
 (hs : Region.sinkB md ops n = true) (hc : Region.chainB md ops n = true) (hn : n < ops.size) (hi : i < n) (hend : ∀ li a, L li a -> ∀ j ∈ Region.ready md ops li, n <= j) (f : Nat) :
 ∀ (li : Array Bool) (a : Act), HeadInv md ops n li -> (∀ j oj, ops[j]? = some oj -> j ≠ i -> li.getD j true = false -> (∀ e ∈ oj.after, Region.binds md e = true -> e.on ≠ i) -> o.apart ops oj = true) ->
  i ∈ Region.ready md ops li -> YieldsIn P ops C o v a -> anyHd P md ops C n L f (li.setIfInBounds i true) (a.put o.dst v) -> anyHd P md ops C n L (f + 1) li a := by
 induction f with
 | zero =>
  intro li a inv _ hr hy H
  refine ⟨⟨i, hr⟩, fun j hj => ?_⟩
  have hjn := head_lt hs hc hn inv hi (mem_ready.1 hr).1 hj
  by_cases e : j = i
  · subst e; exact ⟨hjn, hy.qOp ho H⟩
  · exact absurd (hend _ _ H j (ready_mono hj e)) (Nat.not_le.2 hjn)
 | succ f ih =>
  intro li a inv hap hr hy H
  refine ⟨⟨i, hr⟩, fun j hj => ?_⟩
  have hu := (mem_ready.1 hr).1
  have hjn := head_lt hs hc hn inv hi hu hj
  refine ⟨hjn, ?_⟩
  by_cases e : j = i
  · subst e; exact hy.qOp ho H
  obtain ⟨hju, oj, hoj, hdep⟩ := mem_ready.1 hj
  have hno : ∀ x ∈ oj.after, Region.binds md x = true -> x.on ≠ i := by
   intro x hx hb hxi
   have h1 := hdep x hx hb
   rw [hxi, getD_both hu] at h1
   exact absurd h1 (by simp)
  refine qOp_mono (fun a' h => ?_) (qOp_put hoj (hap j oj hoj e hju hno) (fun cs b => hsel i o cs b ho) (fun cs b => hsel j oj cs b hoj) hy (H.2 j (ready_mono hj e)).2)
  refine ih (li.setIfInBounds j true) a' (inv.set hj hjn) (fun k ok hk hki hku => hap k ok hk hki ?_) (ready_mono hr (Ne.symm e)) h.1 ?_
  · by_cases ejk : j = k
    · subst ejk; exact hju
    · rwa [getD_set_ne true ejk] at hku
  · rw [Array.setIfInBounds_comm _ _ e]; exact h.2

theorem anyHd_lex {g : Nat} {R : Act -> Prop} (hsel : Region.noSelect ops = true) (hs : Region.sinkB md ops n = true) (hc : Region.chainB md ops n = true) (hn : n < ops.size) (l : List Oper) :
 ∀ (k : Nat) (li : Array Bool) (a : Act), (∀ j, j < l.length -> l[j]? = ops[k + j]?) -> k + l.length = n -> HeadInv md ops n li -> Region.lexHead md ops g l.length k li = true -> wpQuiet P ops C R l a ->
  anyHd P md ops C n (fun li' a' => Region.seqB md ops g n li' = true /\ R a') l.length li a := by
 induction l with
 | nil =>
  intro k li a _ hk _ hB h
  simp only [List.length_nil, Nat.add_zero] at hk
  subst hk
  exact ⟨hB, h⟩
 | cons o l ih =>
  intro k li a hl hk inv hB h
  have h0 : ops[k]? = some o := by simpa using (hl 0 (by simp)).symm
  rw [List.length_cons] at hk hB
  rw [Region.lexHead, Bool.and_eq_true, Bool.and_eq_true] at hB
  have hr : k ∈ Region.ready md ops li := by simpa using hB.1.1
  have hq : qOp P ops C k (wpQuiet P ops C R l) a := by unfold qOp; rw [h0]; exact h
  obtain ⟨v, hy, hK⟩ := yieldsIn_of_qOp h0 hq
  refine anyHd_take h0 (Region.noSelect_spec hsel) hs hc hn (by omega) (fun _ _ hL => seqB_ready hL.1) l.length li a inv (Region.free_spec h0 hB.1.2) hr hy ?_
  refine ih (k + 1) _ _ (fun j hj => ?_) (by omega) (inv.set hr (by omega)) hB.2 hK
  have := hl (j + 1) (by simp; omega)
  rw [Nat.add_assoc, Nat.add_comm 1 j, <- this]; simp

theorem wp_region_quiet_tail {id : Nat} {Q : Exit -> Act -> World -> Prop} {a : Act} {w : World} {l : List Oper} (n : Nat) (hm : P.follows .mixedOrders = true) (hB : Region.lexTailB .any l.toArray n = true) (hC : C { w with drawn := w.drawn + 1 })
 (h : wpQuiet P l.toArray C (fun a' => ∀ w', C w' -> wpList P l.toArray Q (l.drop n) a' w') (l.take n) a) : (Code.region id l.toArray true).wp P Q a w := by
 simp only [Region.lexTailB, Bool.and_eq_true, decide_eq_true_eq] at hB
 obtain ⟨⟨⟨⟨h1, h2⟩, h3⟩, h4⟩, h5⟩ := hB
 have hn : n < l.length := by simpa using h2
 have e1 : (l.take n).length = n := by rw [List.length_take]; omega
 have e2 : (l.drop n).length = l.toArray.size - n := by simp
 have inv : HeadInv .any l.toArray n (Array.replicate l.toArray.size false) :=
  ⟨by simp, fun j oj _ hl => (by rw [getD_replicate_false] at hl; cases hl), fun t _ ht => getD_in (by simpa using ht) (getD_replicate_false _ _)⟩
 have H := anyHd_lex (C := C) (md := .any) (g := l.toArray.size - n) h1 h3 h4 h2 (l.take n) 0 _ a (fun j hj => by rw [e1] at hj; simp [hj]) (by rw [e1, Nat.zero_add]) inv (by rw [e1]; exact h5) h
 refine wp_region_any hm ?_
 have G := anyHd_wp (g := l.toArray.size - n) (Q := Q) (fun li a' w' hw' hL => by
  have := wpAny_of_seq (md := .any) (Q' := Q) (l.drop n) n li a' w' (fun j => by simp [List.getElem?_drop]) (by rw [e2]; exact hL.1) (hL.2 w' hw')
  rwa [e2] at this) _ _ _ _ hC H
 rw [e1, show n + (l.toArray.size - n) = l.toArray.size from by simp at h2 |-; omega] at G
 exact G
end

theorem wp_region_tail_gx {P : Program} {id : Nat} {Q : Exit -> Act -> World -> Prop} {a : Act} {w : World} {l : List Oper} (n : Nat) (hm : P.follows .mixedOrders = true) (hB : Region.lexTailB .any l.toArray n = true)
 (h : wpQuiet P l.toArray (fun w' => ∃ p : GrownBy, w' = gx w p.n p.os) (fun a' => ∀ w', (∃ p : GrownBy, w' = gx w p.n p.os) -> wpList P l.toArray Q (l.drop n) a' w') (l.take n) a) : (Code.region id l.toArray true).wp P Q a w :=
 wp_region_quiet_tail (C := fun w' => ∃ p : GrownBy, w' = gx w p.n p.os) n hm hB ⟨⟨w.drawn + 1, #[]⟩, by simp [gx]⟩ h
theorem wp_region_tail_d {P : Program} {id : Nat} {Q : Exit -> Act -> World -> Prop} {a : Act} {w : World} {l : List Oper} (n : Nat) (hm : P.follows .mixedOrders = true) (hB : Region.lexTailB .any l.toArray n = true)
 (h : wpQuiet P l.toArray (fun w' => ∃ nq, w' = w.drewN nq) (fun a' => ∀ w', (∃ nq, w' = w.drewN nq) -> wpList P l.toArray Q (l.drop n) a' w') (l.take n) a) : (Code.region id l.toArray true).wp P Q a w :=
 wp_region_quiet_tail (C := fun w' => ∃ nq, w' = w.drewN nq) n hm hB ⟨1, rfl⟩ h
theorem row_ne {w : World} {base n B : Nat} {v : Value} {xs : List Value} {e t : TypeId} {sz : Nat} {c : Array Value} {f : Nat × Nat} (hr : w.ownsRow base e sz v n xs) (hB : w.heap[B]? = some (.cells c t f)) (ht : t ≠ e) : v.ownBlock ≠ some B := fun h => by
 rcases hr.2 with ⟨rfl, _⟩ | ⟨g, cap', cur, rfl, _, hg, _⟩
 · cases h
 · obtain rfl : g = B := by simpa [Value.ownBlock] using h
   rw [hB] at hg
   simp at hg
   exact ht hg.2.1
set_option maxRecDepth 100000 in
set_option maxHeartbeats 1000000 in
theorem add_any (base B n : Nat) (c0 c1 c2 c3 c4 c5 c6 : Value) (iv : Value) (xs : List Value) (x : Int) (w : World) (hB : w.heap[B]? = some (.cells #[c0, c1, c2, c3, c4, c5, c6, iv] 110 (0, 0))) (hr : w.ownsRow base 3 1 iv n xs) (hb : base <= w.heap.size) (hn : n < 1000000) :
 Calls Tryz.prog 98 #[.pointer (some ⟨B, 7, none⟩), .int .i64 x] w fun e w' => (∃ v, e = .returned v) /\ ∃ iv', w'.heap[B]? = some (.cells #[c0, c1, c2, c3, c4, c5, c6, iv'] 110 (0, 0)) /\ w'.ownsRow base 3 1 iv' (n + 1) (xs ++ [.int .i64 x]) /\ (∀ k, iv'.ownBlock = some k -> iv.ownBlock = some k ∨ w.heap.size <= k) /\ Fm w w' (fun k => k = B ∨ iv.ownBlock = some k) (fun _ => False) := by
 obtain ⟨i0, hi, hz0, hz1, hz2⟩ := info_parts intInfo
 obtain ⟨sp, cap, rfl⟩ := row_form hr
 have c7 : w.cell? ⟨B, 7, none⟩ = some (.slice sp n cap) := by simp [World.cell?, hB]
 have f7 : w.frozen? ⟨B, 7, none⟩ = false := by simp [World.frozen?, hB]
 have hne := row_ne hr hB (by decide)
 have hBl := (Array.getElem?_eq_some_iff.1 hB).1
 have hRA := hr.alloc (.cells #[.int .i64 x] 3)
 have HRA := Lib.hid hRA
 have HNw : Hid (∀ j u, ([.int .i64 x] : List Value)[j]? = some u -> (w.alloc (.cells #[.int .i64 x] 3)).cell? ((⟨w.heap.size, 0, none⟩ : Addr).add j) = some u) := fun j u hu => by
  match j, hu with
  | 0, hu => simp at hu; subst hu; show World.cell? _ ⟨w.heap.size, 0, none⟩ = _; rw [cell_of_row _ _ _ _ _ _ (heap_new _ _)]; rfl
  | j + 1, hu => simp at hu
 have HOn : Hid (∀ u ∈ ([.int .i64 x] : List Value), u.oneCell' = true) := fun u hu => by simp at hu; rcases hu with rfl; rfl
 have HB := Lib.hid hB
 have HR := Lib.hid hr
 clear hr hRA hB
 go_enter Tryz.func98, Tryz.ntmps98
 go_wp2_with (at_builtin; refine wpList_append_own_at _ rfl _ _ 37 rfl base 3 i0 (.int .i64 0) 1 8 (by kernel_rfl) hi hz0 hz1 hz2 rfl (by decide) _ _ _ rfl HRA.out ⟨w.heap.size, 0, none⟩ 1 1 [.int .i64 x] rfl rfl HNw.out HOn.out (by show _ <= 2 ^ 63 - 1; omega) (by omega) (by simp; omega) ?_; intro v' w4 hown4 hgrow4 hnil4 hat4; clear hnil4; obtain ⟨sp4, cap4, rfl⟩ := row_form hown4; have hB4 := (hgrow4.block B (by simp; omega) (fun e => hne e.symm)).trans ((Below.heap_alloc _ _ _ hBl).trans HB.out); have d7 : w4.cell? ⟨B, 7, none⟩ = some (.slice sp n cap) := (by simp [World.cell?, hB4]); have g7 : w4.frozen? ⟨B, 7, none⟩ = false := (by simp [World.frozen?, hB4]); have HW4 := Lib.hid hown4; have HG4 := Lib.hid hgrow4; have HB4 := Lib.hid hB4; clear hown4 hgrow4 hB4)
 go_end0
 have z4 := HG4.out.size
 simp at z4
 refine ⟨⟨_, rfl⟩, .slice sp4 (n + 1) cap4, ?_, ?_, ?_, ?_⟩
 · rw [heap_setCell_same _ _ _ _ _ _ HB4.out]; rfl
 · exact row_same HW4.out (fun k hk => heap_ne _ _ _ (fun e => by subst e; exact row_ne HW4.out HB4.out (by decide) hk))
 · intro k hk
   rcases hat4 with h | h
   · exact .inl (h ▸ hk)
   · rw [h] at hk; simp at hk; exact .inr (by omega)
 · refine ⟨HG4.out.os, HG4.out.tape, HG4.out.output, by simp; omega, fun k hk hf => ?_, fun k h => h.elim⟩
   rw [heap_ne _ _ _ (fun e => hf (.inl e)), HG4.out.block k (by simp; omega) (fun e => hf (.inr e.symm)), Below.heap_alloc _ _ _ hk]
theorem RAt.same {w w' : World} {base : Nat} {r : Rc} (h : RAt w base r) (hs : ∀ k, foot r k -> w'.heap[k]? = w.heap[k]?) : RAt w' base r :=
 ⟨(hs r.B (.inl rfl)).trans h.blk, row_same h.cat (fun k hk => hs k (.inr (.inl hk))), row_same h.row (fun k hk => hs k (.inr (.inr hk))), h.low⟩
theorem RAt.lt {w : World} {base : Nat} {r : Rc} (h : RAt w base r) {k : Nat} (hk : foot r k) : base <= k /\ k < w.heap.size := by
 rcases hk with rfl | hk | hk
 · exact ⟨h.low, (Array.getElem?_eq_some_iff.1 h.blk).1⟩
 · exact h.cat.lt k hk
 · exact h.row.lt k hk
theorem RAt.catB {w : World} {base : Nat} {r : Rc} (h : RAt w base r) : r.cv.ownBlock ≠ some r.B := row_ne h.cat h.blk (by decide)
theorem RAt.rowB {w : World} {base : Nat} {r : Rc} (h : RAt w base r) : r.iv.ownBlock ≠ some r.B := row_ne h.row h.blk (by decide)
theorem RAt.catRow {w : World} {base : Nat} {r : Rc} (h : RAt w base r) {k : Nat} (h1 : r.cv.ownBlock = some k) (h2 : r.iv.ownBlock = some k) : False := by
 rcases h.cat.2 with ⟨hv, _⟩ | ⟨g, cap, cur, hv, _, hg, _⟩
 · rw [hv] at h1; cases h1
 · rcases h.row.2 with ⟨hv2, _⟩ | ⟨g2, cap2, cur2, hv2, _, hg2, _⟩
   · rw [hv2] at h2; cases h2
   · rw [hv] at h1; rw [hv2] at h2
     obtain rfl : g = k := by simpa [Value.ownBlock] using h1
     obtain rfl : g2 = g := by simpa [Value.ownBlock] using h2
     rw [hg] at hg2; simp at hg2
def linkR (r s : Rc) (iv : Value) : Rc := { r with iv := iv, ob := { r.ob with used := r.ob.used + s.ob.quota, ents := r.ob.ents ++ [s.ob.id] } }
def upR (s : Rc) : Rc := { s with ob := { s.ob with links := s.ob.links + 1 } }
set_option maxRecDepth 100000 in
set_option maxHeartbeats 1000000 in
theorem link_any (base : Nat) (r s : Rc) (w : World) (hr : RAt w base r) (hs : RAt w base s) (hap : ∀ k, foot r k -> foot s k -> False) (hn : r.ob.ents.length < 1000000) (hu : i64 (r.ob.used + s.ob.quota)) (hl : i64 (s.ob.links + 1)) :
 Calls Tryz.prog 39 #[.pointer (some ⟨r.B, 0, none⟩), .pointer (some ⟨s.B, 0, none⟩)] w fun e w' => (∃ v, e = .returned v) /\ ∃ iv, RAt w' base (linkR r s iv) /\ RAt w' base (upR s) /\ (∀ k, foot (linkR r s iv) k -> foot r k ∨ w.heap.size <= k) /\ Fm w w' (fun k => foot r k ∨ foot s k) (fun _ => False) := by
 have hbl := (hr.lt (.inl rfl)).2
 have hblo := (hr.lt (.inl rfl)).1
 have hA := fun q => add_any base r.B r.ob.ents.length _ _ _ _ _ _ _ r.iv (ivs r.ob.ents) s.ob.id (w.drewN q) hr.blk hr.row (by show _ <= w.heap.size; omega) hn
 have s0 : ∀ q, (w.drewN q).cell? ⟨s.B, 0, none⟩ = some (.int .i64 s.ob.id) := fun q => show w.cell? _ = _ by simp [World.cell?, hs.blk, cellsR]
 have hne : r.B ≠ s.B := fun e => hap r.B (.inl rfl) (.inl e)
 have HA := Lib.hid hA
 have HR := Lib.hid hr
 have HS := Lib.hid hs
 have HAP := Lib.hid hap
 clear hr hs hap hA
 go_enter Tryz.func39, Tryz.ntmps39
 go_wp2_with fail
 refine wp_region_tail_d 8 (by kernel_rfl) (by kernel_rfl) ?_
 simp only [List.take_succ_cons, List.take_zero, List.drop_succ_cons, List.drop_zero]
 repeat (quiet_step (fail))
 refine wpQuiet_nil ?_
 intro _ hw'
 obtain ⟨nq, hw''⟩ := hw'
 subst hw''
 go_wp2_with (first | (go_at_call 98; refine (HA.out nq).mono ?_; rintro e w2 ⟨⟨v, rfl⟩, iv, hB2, hr2, hiv2, hF2⟩; refine Hid.out ?_))
 refine Lib.hid ?_
 have hs2 : RAt w2 base s := HS.out.same (fun k hk => hF2.same k (HS.out.lt hk).2 (fun h => by
  rcases h with h | h
  · exact HAP.out k (.inl h) hk
  · exact HAP.out k (.inr (.inr h)) hk))
 have q3 : ∀ q, (w2.drewN q).cell? ⟨r.B, 3, none⟩ = some (.int .i64 r.ob.used) := fun q => show w2.cell? _ = _ by simp [World.cell?, hB2]
 have qf : ∀ q, (w2.drewN q).frozen? ⟨r.B, 3, none⟩ = false := fun q => show w2.frozen? _ = _ by simp [World.frozen?, hB2]
 have t2 : ∀ q, (w2.drewN q).cell? ⟨s.B, 2, none⟩ = some (.int .i64 s.ob.quota) := fun q => show w2.cell? _ = _ by simp [World.cell?, hs2.blk, cellsR]
 have t4 : ∀ q, (w2.drewN q).cell? ⟨s.B, 4, none⟩ = some (.int .i64 s.ob.links) := fun q => show w2.cell? _ = _ by simp [World.cell?, hs2.blk, cellsR]
 have tf : ∀ q, (w2.drewN q).frozen? ⟨s.B, 4, none⟩ = false := fun q => show w2.frozen? _ = _ by simp [World.frozen?, hs2.blk]
 have hw1 : wrap64 (r.ob.used + s.ob.quota) = r.ob.used + s.ob.quota := by unfold i64 at hu; unfold wrap64; omega
 have hw2 : wrap64 (s.ob.links + 1) = s.ob.links + 1 := by unfold i64 at hl; unfold wrap64; omega
 have HB2 := Lib.hid hB2
 have HR2 := Lib.hid hr2
 have HS2 := Lib.hid hs2
 have HF2 := Lib.hid hF2
 clear hB2 hr2 hs2 hF2 hu hl
 go_wp2_with fail
 refine wp_region_tail_d 14 (by kernel_rfl) (by kernel_rfl) ?_
 simp only [List.take_succ_cons, List.take_zero, List.drop_succ_cons, List.drop_zero]
 repeat (quiet_step (fail))
 refine wpQuiet_nil ?_
 intro _ hw'
 obtain ⟨n2, hw''⟩ := hw'
 subst hw''
 go_wp2_with fail
 go_end0
 have hX : ∀ k, k ≠ r.B -> k ≠ s.B -> (((w2.drewN n2).setCell ⟨r.B, 3, none⟩ (.int .i64 (r.ob.used + s.ob.quota))).setCell ⟨s.B, 4, none⟩ (.int .i64 (s.ob.links + 1))).heap[k]? = w2.heap[k]? := fun k h1 h2 => by
  rw [heap_ne _ _ _ h2, heap_ne _ _ _ h1]; rfl
 have hcs : ∀ k, r.cv.ownBlock = some k -> w2.heap[k]? = w.heap[k]? := fun k hk => HF2.out.same k (HR.out.lt (.inr (.inl hk))).2 (fun h => by
  rcases h with h | h
  · subst h; exact HR.out.catB hk
  · exact HR.out.catRow hk h)
 have hXr : (((w2.drewN n2).setCell ⟨r.B, 3, none⟩ (.int .i64 (r.ob.used + s.ob.quota))).setCell ⟨s.B, 4, none⟩ (.int .i64 (s.ob.links + 1))).heap[r.B]? = some (.cells (cellsR (linkR r s iv)) 110 (0, 0)) := by
  rw [heap_ne _ _ _ hne, heap_setCell_same (w2.drewN n2) _ _ _ _ _ HB2.out]; rfl
 have hXs : (((w2.drewN n2).setCell ⟨r.B, 3, none⟩ (.int .i64 (r.ob.used + s.ob.quota))).setCell ⟨s.B, 4, none⟩ (.int .i64 (s.ob.links + 1))).heap[s.B]? = some (.cells (cellsR (upR s)) 110 (0, 0)) := by
  have h0 : ((w2.drewN n2).setCell ⟨r.B, 3, none⟩ (.int .i64 (r.ob.used + s.ob.quota))).heap[s.B]? = some (.cells (cellsR s) 110 (0, 0)) := (heap_ne _ _ _ (Ne.symm hne)).trans HS2.out.blk
  rw [heap_setCell_same _ _ _ _ _ _ h0]; rfl
 refine ⟨⟨_, rfl⟩, iv, ⟨hXr, ?_, ?_, HR.out.low⟩, ⟨hXs, ?_, ?_, HS.out.low⟩, ?_, ⟨HF2.out.os, HF2.out.tape, HF2.out.output, by have := HF2.out.size; simpa using this, ?_, fun k h => h.elim⟩⟩
 · refine row_same HR.out.cat (fun k hk => ?_)
   rw [hX k (fun e => by subst e; exact HR.out.catB hk) (fun e => HAP.out k (.inr (.inl hk)) (.inl e)), hcs k hk]
 · show World.ownsRow _ base 3 1 iv (r.ob.ents ++ [s.ob.id]).length (ivs (r.ob.ents ++ [s.ob.id]))
   rw [List.length_append, show ivs (r.ob.ents ++ [s.ob.id]) = ivs r.ob.ents ++ [.int .i64 s.ob.id] from by unfold ivs; rw [List.map_append]; rfl]
   exact row_same HR2.out (fun k hk => hX k (fun e => by subst e; exact row_ne HR2.out HB2.out (by decide) hk) (fun e => by subst e; exact row_ne HR2.out HS2.out.blk (by decide) hk))
 · exact row_same HS2.out.cat (fun k hk => hX k (fun e => HAP.out k (.inl e) (.inr (.inl hk))) (fun e => by subst e; exact HS2.out.catB hk))
 · exact row_same HS2.out.row (fun k hk => hX k (fun e => HAP.out k (.inl e) (.inr (.inr hk))) (fun e => by subst e; exact HS2.out.rowB hk))
 · intro k hk
   rcases hk with h | h | h
   · exact .inl (.inl h)
   · exact .inl (.inr (.inl h))
   · rcases hiv2 k h with h | h
     · exact .inl (.inr (.inr h))
     · exact .inr h
 · intro k hk hf
   rw [hX k (fun e => hf (.inl (.inl e))) (fun e => hf (.inr (.inl e)))]
   exact HF2.out.same k hk (fun h => by
    rcases h with h | h
    · exact hf (.inl (.inl h))
    · exact hf (.inl (.inr (.inr h))))
def contE (T : Tab) (i : Int) : Int := match T i with
 | none => 4
 | some r => if r.ob.kind = 1 then 0 else 5
def contP (T : Tab) (i : Int) : Value := if contE T i = 0 then fnd T i else .pointer none
theorem container_any {w : World} {base tb mb : Nat} {D : DataW Unit} {T : Tab} (h : TAt w base tb mb D T) (i : Int) (hi : i64 i) :
 Calls Tryz.prog 34 #[.pointer (some ⟨tb, 0, none⟩), .int .i64 i] w fun e w' => e = .returned (.tuple #[contP T i, .int .i64 (contE T i)]) /\ w' = w := by
 have H := find_any h i hi
 unfold contP contE
 cases hT : T i with
 | none =>
  have hf : fnd T i = .pointer none := by unfold fnd; rw [hT]; rfl
  rw [hf] at H
  have HH := Lib.hid H
  clear h H
  go_enter Tryz.func34, Tryz.ntmps34
  go_wp2_with (go_at_call 36; refine HH.out.mono ?_; rintro e w1 ⟨rfl, hw1⟩; rw [hw1]; clear hw1 w1)
  go_ret2
  exact ⟨by simp, rfl⟩
 | some r =>
  have hf : fnd T i = .pointer (some ⟨r.B, 0, none⟩) := by unfold fnd; rw [hT]; rfl
  rw [hf] at H
  have HH := Lib.hid H
  have c1 : w.cell? ⟨r.B, 1, none⟩ = some (.int .i64 r.ob.kind) := by simp [World.cell?, (h.obj i r hT).1.blk, cellsR]
  have HF := Lib.hid hf
  clear h H hf
  by_cases hk : r.ob.kind = 1
  · have hk' : (r.ob.kind != 1) = false := by simp [hk]
    go_enter Tryz.func34, Tryz.ntmps34
    go_wp2_with (go_at_call 36; refine HH.out.mono ?_; rintro e w1 ⟨rfl, hw1⟩; rw [hw1]; clear hw1 w1)
    go_ret2
    exact ⟨by simp [HF.out], rfl⟩
  · have hk' : (r.ob.kind != 1) = true := by simpa using hk
    go_enter Tryz.func34, Tryz.ntmps34
    go_wp2_with (go_at_call 36; refine HH.out.mono ?_; rintro e w1 ⟨rfl, hw1⟩; rw [hw1]; clear hw1 w1)
    go_ret2
    exact ⟨by simp, rfl⟩
theorem room_any {w : World} {base : Nat} {r : Rc} (h : RAt w base r) (hu : i64 (r.ob.quota - r.ob.used)) :
 Calls Tryz.prog 38 #[.pointer (some ⟨r.B, 0, none⟩)] w fun e w' => e = .returned (.int .i64 (r.ob.quota - r.ob.used)) /\ ∃ q, w' = w.drewN q := by
 have c2 : ∀ q, (w.drewN q).cell? ⟨r.B, 2, none⟩ = some (.int .i64 r.ob.quota) := fun q => show w.cell? _ = _ by simp [World.cell?, h.blk, cellsR]
 have c3 : ∀ q, (w.drewN q).cell? ⟨r.B, 3, none⟩ = some (.int .i64 r.ob.used) := fun q => show w.cell? _ = _ by simp [World.cell?, h.blk, cellsR]
 have hw : wrap64 (r.ob.quota - r.ob.used) = r.ob.quota - r.ob.used := by unfold i64 at hu; unfold wrap64; omega
 clear h hu
 go_enter Tryz.func38, Tryz.ntmps38
 go_wp2_with fail
 go_quiet (fail)
 go_wp2
 go_ret
 exact ⟨by show Ending.returned (Value.int .i64 (wrap64 _)) = _; rw [hw], nq, rfl⟩
theorem map_same {w w' : World} {mb n : Nat} {D : DataW Unit} (h : w.ownsMap Tryz.prog 3 ptrE mb n D) (hs : w'.heap[mb]? = w.heap[mb]?) : w'.ownsMap Tryz.prog 3 ptrE mb n D := by
 obtain ⟨es, clock, hb, F, hz, rfl⟩ := h
 exact ⟨es, clock, hs.trans hb, F, hz, rfl⟩
theorem map_exact {w : World} {mb n : Nat} {D : DataW Unit} (h : w.ownsMap Tryz.prog 3 ptrE mb n D) : MapAt w mb D := by
 obtain ⟨es, clock, hb, F, hz, rfl⟩ := h
 refine ⟨es, clock, hb, F, ?_, rfl⟩
 rw [Maps.size_eq, length_sorted]
 simp
theorem TAt.same {w w' : World} {base tb mb : Nat} {D : DataW Unit} {T : Tab} (h : TAt w base tb mb D T) (hs : ∀ k, tfoot tb mb T k -> w'.heap[k]? = w.heap[k]?) : TAt w' base tb mb D T :=
 ⟨(hs tb (.inl rfl)).trans h.blk, map_same h.map (hs mb (.inr (.inl rfl))), h.has, h.at_, fun k r hr => ⟨(h.obj k r hr).1.same (fun j hj => hs j (.inr (.inr ⟨k, r, hr, hj⟩))), (h.obj k r hr).2⟩, h.apart, h.lowt, h.lowm⟩
theorem TAt.lt {w : World} {base tb mb : Nat} {D : DataW Unit} {T : Tab} (h : TAt w base tb mb D T) {k : Nat} (hk : tfoot tb mb T k) : base <= k /\ k < w.heap.size := by
 rcases hk with rfl | rfl | ⟨i, r, hr, hk⟩
 · exact ⟨h.lowt, (Array.getElem?_eq_some_iff.1 h.blk).1⟩
 · exact ⟨h.lowm, h.map.lt⟩
 · exact (h.obj i r hr).1.lt hk
theorem TAt.below {w w' : World} {base tb mb : Nat} {D : DataW Unit} {T : Tab} (h : TAt w base tb mb D T) (hb : Below w.heap.size w w') : TAt w' base tb mb D T :=
 h.same (fun k hk => hb.block k (h.lt hk).2)
theorem TAt.tbF {w : World} {base tb mb : Nat} {D : DataW Unit} {T : Tab} (h : TAt w base tb mb D T) {i : Int} {r : Rc} (hr : T i = some r) : ¬ foot r tb := fun hf => by
 have ho := (h.obj i r hr).1
 rcases hf with e | e | e
 · have := ho.blk; rw [<- e, h.blk] at this; simp at this
 · exact row_ne ho.cat h.blk (by decide) e
 · exact row_ne ho.row h.blk (by decide) e
theorem row_nem {w : World} {base n B : Nat} {v : Value} {xs : List Value} {e : TypeId} {sz : Nat} {es : Array MapEntry} {cl : Nat} (hr : w.ownsRow base e sz v n xs) (hB : w.heap[B]? = some (.map es cl)) : v.ownBlock ≠ some B := fun h => by
 rcases hr.2 with ⟨rfl, _⟩ | ⟨g, cap', cur, rfl, _, hg, _⟩
 · cases h
 · obtain rfl : g = B := by simpa [Value.ownBlock] using h
   rw [hB] at hg
   simp at hg
theorem RAt.mbF {w : World} {base mb n : Nat} {D : DataW Unit} {r : Rc} (ho : RAt w base r) (hm : w.ownsMap Tryz.prog 3 ptrE mb n D) : ¬ foot r mb := fun hf => by
 obtain ⟨es, clock, hb, F, hz, _⟩ := hm
 rcases hf with e | e | e
 · have := ho.blk; rw [<- e, hb] at this; simp at this
 · exact row_nem ho.cat hb e
 · exact row_nem ho.row hb e
theorem TAt.mbt {w : World} {base tb mb : Nat} {D : DataW Unit} {T : Tab} (h : TAt w base tb mb D T) : tb ≠ mb := fun e => by
 obtain ⟨es, clock, hb, F, hz, _⟩ := h.map
 rw [<- e, h.blk] at hb
 simp at hb
end Go.Proofs.YtmgfakfiiaeofaaGreat.Ho
