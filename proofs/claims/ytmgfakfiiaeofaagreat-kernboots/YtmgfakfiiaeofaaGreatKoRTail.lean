/- The same as Tail, within a round of a range over a function. -/
import Derived.Test.YtmgfakfiiaeofaaGreatWaAlertF
import Derived.StillTail
import Derived.Deep.Quiet
import Derived.WalkKit
import Derived.Handy
import Derived.BigQuiet
import Derived.Shelf.SlSortCmp.QuietGrown
import Derived.OrdersIn
import Derived.TacticsIn
import Derived.RangeFuncCalls
/- What New, Wait, Len and Where of package wait answer. -/
namespace Go.Proofs.YtmgfakfiiaeofaaGreat.Wa
open Go.RowKit Go.Sort
abbrev Who := Int × Int × Int
def ab (x : Wt) : Who := (x.th, x.seg, x.off)
def RA (w : World) (rb : Nat) (F : Nat -> Prop) (all : List Who) (al : Int -> List Int) (N : Nat) : Prop :=
 ∃ R, RmAt w R /\ R.rb = rb /\ R.all.map ab = all /\ (∀ t, (R.al t).map (·.c) = al t) /\ R.N <= N /\ ∀ k, R.own k ≠ none -> F k
theorem RA.mono {w : World} {rb : Nat} {F : Nat -> Prop} {all : List Who} {al : Int -> List Int} {N N' : Nat} (h : RA w rb F all al N) (hN : N <= N') : RA w rb F all al N' := by
 obtain ⟨R, h1, h2, h3, h4, h5, h6⟩ := h
 exact ⟨R, h1, h2, h3, h4, Nat.le_trans h5 hN, h6⟩
theorem RA.same {w w' : World} {rb : Nat} {F : Nat -> Prop} {all : List Who} {al : Int -> List Int} {N : Nat} (h : RA w rb F all al N) (hs : w.heap.size <= w'.heap.size) (hk : ∀ k, k < w.heap.size -> F k -> w'.heap[k]? = w.heap[k]?) : RA w' rb F all al N := by
 obtain ⟨R, h1, h2, h3, h4, h5, h6⟩ := h
 exact ⟨R, h1.same hs (fun k hk' => hk k (h1.lt k hk') (h6 k hk')), h2, h3, h4, h5, h6⟩
theorem RA.below {w w' : World} {rb : Nat} {F : Nat -> Prop} {all : List Who} {al : Int -> List Int} {N : Nat} (h : RA w rb F all al N) (hb : Below w.heap.size w w') : RA w' rb F all al N := h.same hb.size (fun k hk _ => hb.block k hk)
theorem RA.len {w : World} {rb : Nat} {F : Nat -> Prop} {all : List Who} {al : Int -> List Int} {N : Nat} (h : RA w rb F all al N) : all.length <= N := by
 obtain ⟨R, h1, h2, h3, h4, h5, h6⟩ := h
 rw [<- h3, List.length_map]; have := h1.len; omega
theorem RA.nd {w : World} {rb : Nat} {F : Nat -> Prop} {all : List Who} {al : Int -> List Int} {N : Nat} (h : RA w rb F all al N) : (all.map (·.1)).Nodup := by
 obtain ⟨R, h1, h2, h3, h4, h5, h6⟩ := h
 rw [<- h3, List.map_map]; exact h1.nd
theorem New_any (w : World) : Calls Tryz.prog 15 #[] w fun e w' => ∃ rb F, e = .returned (pv rb) /\ RA w' rb F [] (fun _ => []) 0 /\ Below w.heap.size w w' /\ (∀ k, F k -> w.heap.size <= k) /\ ∀ k, F k -> k < w'.heap.size := by
 have hmm := @run_makeMap Tryz.prog
 go_enter Tryz.func15, Tryz.ntmps15
 go_wp2
 go_ret
 obtain ⟨W1, hW1⟩ : ∃ W1, w.alloc (.map #[] 0) = W1 := ⟨_, rfl⟩
 obtain ⟨W2, hW2⟩ : ∃ W2, W1.alloc (.map #[] 0) = W2 := ⟨_, rfl⟩
 obtain ⟨W3, hW3⟩ : ∃ W3, W2.alloc (.map #[] 0) = W3 := ⟨_, rfl⟩
 obtain ⟨W4, hW4⟩ : ∃ W4, W3.alloc (.map #[] 0) = W4 := ⟨_, rfl⟩
 rw [hW1, hW2, hW3, hW4]
 have s1 : W1.heap.size = w.heap.size + 1 := by rw [<- hW1]; simp
 have s2 : W2.heap.size = w.heap.size + 2 := by rw [<- hW2]; simp; omega
 have s3 : W3.heap.size = w.heap.size + 3 := by rw [<- hW3]; simp; omega
 have s4 : W4.heap.size = w.heap.size + 4 := by rw [<- hW4]; simp; omega
 have b1 : Below w.heap.size w W1 := by rw [<- hW1]; exact (Below.refl _ _).alloc (Nat.le_refl _) _
 have b2 : Below W1.heap.size W1 W2 := by rw [<- hW2]; exact (Below.refl _ _).alloc (Nat.le_refl _) _
 have b3 : Below W2.heap.size W2 W3 := by rw [<- hW3]; exact (Below.refl _ _).alloc (Nat.le_refl _) _
 have b4 : Below W3.heap.size W3 W4 := by rw [<- hW4]; exact (Below.refl _ _).alloc (Nat.le_refl _) _
 have m0 : MAt W1 3 w.heap.size 0 (fun _ => none) := by rw [<- hW1]; exact MAt.made _ _
 have m1 : MAt W2 237 W1.heap.size 0 (fun _ => none) := by rw [<- hW2]; exact MAt.made _ _
 have m2 : MAt W3 3 W2.heap.size 0 (fun _ => none) := by rw [<- hW3]; exact MAt.made _ _
 have m3 : MAt W4 3 W3.heap.size 0 (fun _ => none) := by rw [<- hW4]; exact MAt.made _ _
 rw [s1] at m1
 rw [s2] at m2
 rw [s3] at m3
 have e4 : W4.heap.size = w.heap.size + 1 + 1 + 1 + 1 := by omega
 obtain ⟨W5, hW5⟩ : ∃ W5, W4.alloc (.cells #[.map (some w.heap.size), .map (some (w.heap.size + 1)), .map (some (w.heap.size + 1 + 1)), .map (some (w.heap.size + 1 + 1 + 1))] 122) = W5 := ⟨_, rfl⟩
 rw [hW5]
 have b5 : Below W4.heap.size W4 W5 := by rw [<- hW5]; exact (Below.refl _ _).alloc (Nat.le_refl _) _
 have s5 : W5.heap.size = w.heap.size + 5 := by rw [<- hW5]; simp; omega
 have hb5 : W5.heap[w.heap.size + 4]? = some (.cells #[.map (some w.heap.size), .map (some (w.heap.size + 1)), .map (some (w.heap.size + 2)), .map (some (w.heap.size + 3))] 122 (0, 0)) := by rw [<- s4, <- hW5]; exact heap_new _ _
 have B : Below w.heap.size w W5 := (((b1.trans (b2.mono (by omega))).trans (b3.mono (by omega))).trans (b4.mono (by omega))).trans (b5.mono (by omega))
 obtain ⟨own, hown⟩ : ∃ own : Nat -> Option Tag, own = fun k => if k = w.heap.size + 4 then some .rb else if k = w.heap.size then some (.m 0) else if k = w.heap.size + 1 then some (.m 1) else if k = w.heap.size + 2 then some (.m 2) else if k = w.heap.size + 3 then some (.m 3) else none := ⟨_, rfl⟩
 have hlt : ∀ k, own k ≠ none -> w.heap.size <= k /\ k < w.heap.size + 5 := by
  intro k
  rw [hown]
  simp only
  split
  · intro _; omega
  split
  · intro _; omega
  split
  · intro _; omega
  split
  · intro _; omega
  split
  · intro _; omega
  · intro h; exact absurd rfl h
 have hRm : RmAt W5 ⟨w.heap.size + 4, w.heap.size, w.heap.size + 1, w.heap.size + 2, w.heap.size + 3, fun _ => none, fun _ => none, fun _ => none, fun _ => none, [], fun _ _ => 0, fun _ => 0, fun _ => [], fun _ => 0, own, 0⟩ := by
  refine ⟨hb5, ?_, ⟨0, Nat.le_refl _, ?_⟩, ⟨0, Nat.le_refl _, ?_⟩, ⟨0, Nat.le_refl _, ?_⟩, fun _ => rfl, fun _ _ _ _ => (if_pos rfl).symm, fun _ => (if_pos rfl).symm, fun _ => (if_pos rfl).symm, Nat.le_refl _, fun _ => Nat.le_refl _, fun x hx => absurd hx (by simp), fun _ _ h => absurd rfl h, fun _ h => absurd rfl h, fun _ h => absurd rfl h, List.nodup_nil, fun x hx => absurd hx (by simp), fun _ x hx => absurd hx (by simp), ?_, ?_, ?_, ?_, ?_, fun x hx => absurd hx (by simp), fun _ _ h => absurd rfl h, fun _ h => absurd rfl h, fun _ h => absurd rfl h, fun _ x hx => absurd hx (by simp), fun k hk => by have := hlt k hk; omega⟩
  · exact m0.same (((b2.trans (b3.mono (by omega))).trans (b4.mono (by omega))).trans (b5.mono (by omega)) |>.block _ (by omega))
  · exact m1.same ((b3.trans (b4.mono (by omega))).trans (b5.mono (by omega)) |>.block _ (by omega))
  · exact m2.same (b4.trans (b5.mono (by omega)) |>.block _ (by omega))
  · exact m3.same (b5.block _ (by omega))
  all_goals (show own _ = _; rw [hown]; simp)
 refine ⟨w.heap.size + 4, fun k => own k ≠ none, ?_, ⟨_, hRm, rfl, rfl, fun _ => rfl, Nat.le_refl _, fun _ h => h⟩, B, fun k hk => (hlt k hk).1, fun k hk => by have := hlt k hk; omega⟩
 simp
section
variable {w : World} {R : Rm}
theorem RmAt.lookW_no (h : RmAt w R) {t : Int} (ht : i64 t) (hno : ∀ x ∈ R.all, x.th ≠ t) : (Instr.lookup 114 (.map (some R.m0)) (.int .i64 t) false).run Tryz.prog w = .ok np w := by
 have hl := h.mw.look keyedI umW (uzW _) (keyI ht)
 rw [h.fw t, find_none hno] at hl
 exact hl
theorem RmAt.lookW_yes (h : RmAt w R) {x : Wt} (hx : x ∈ R.all) : (Instr.lookup 114 (.map (some R.m0)) (.int .i64 x.th) false).run Tryz.prog w = .ok (pv x.B) w := by
 have hl := h.mw.look keyedI umW (uzW _) (keyI (h.good x hx).1)
 rw [h.fw x.th, h.find hx] at hl
 exact hl
theorem RmAt.lookA_no (h : RmAt w R) {t : Int} (ht : i64 t) (hno : R.al t = []) : (Instr.lookup 120 (.map (some R.m3)) (.int .i64 t) false).run Tryz.prog w = .ok np w := by
 obtain ⟨n, _, hm⟩ := h.ma
 have hl := hm.look keyedI umA (uzA _) (keyI ht)
 rw [h.fa t, if_pos hno] at hl
 exact hl
theorem RmAt.cell (h : RmAt w R) : w.cell? ⟨R.rb, 0, none⟩ = some (.map (some R.m0)) /\ w.cell? ⟨R.rb, 1, none⟩ = some (.map (some R.m1)) /\ w.cell? ⟨R.rb, 2, none⟩ = some (.map (some R.m2)) /\ w.cell? ⟨R.rb, 3, none⟩ = some (.map (some R.m3)) := by
 simp [World.cell?, h.blk]
end
def whereA (all : List Who) (t : Int) : Option Who := all.find? fun x => x.1 == t
def whereV : Option Who -> Value
 | none => .tuple #[.int .i64 0, .int .i64 0, .bool false]
 | some x => .tuple #[.int .i64 x.2.1, .int .i64 x.2.2, .bool true]
theorem whereA_map (l : List Wt) (t : Int) : whereA (l.map ab) t = (l.find? fun x => x.th == t).map ab := by
 unfold whereA
 rw [List.find?_map]; rfl
set_option maxRecDepth 100000 in
set_option maxHeartbeats 1000000 in
theorem Where_any (w : World) (rb : Nat) (F : Nat -> Prop) (all : List Who) (al : Int -> List Int) (N : Nat) (t : Int) (ht : i64 t) (h : RA w rb F all al N) :
 Calls Tryz.prog 111 #[pv rb, .int .i64 t] w fun e w' => e = .returned (whereV (whereA all t)) /\ Below w.heap.size w w' := by
 obtain ⟨R, hR, hrb, hal, hA, hRN, hF⟩ := id h
 have c0 := hR.cell.1
 rw [hrb] at c0
 rw [<- hal, whereA_map]
 by_cases hw : ∃ x ∈ R.all, x.th = t
 · obtain ⟨x, hx, rfl⟩ := hw
   rw [hR.find hx]
   have hl := hR.lookW_yes hx
   have hwx := hR.wts x hx
   have c1 : w.drew.cell? ⟨x.B, 0, none⟩ = some (.int .i64 x.seg) := show w.cell? _ = _ by simp [World.cell?, hwx, wtC]
   have c2 : w.drew.cell? ⟨x.B, 1, none⟩ = some (.int .i64 x.off) := show w.cell? _ = _ by simp [World.cell?, hwx, wtC]
   have c3 : ∀ q, (w.drewN q).cell? ⟨x.B, 0, none⟩ = some (.int .i64 x.seg) := fun q => c1
   have c4 : ∀ q, (w.drewN q).cell? ⟨x.B, 1, none⟩ = some (.int .i64 x.off) := fun q => c2
   show Calls _ _ _ _ fun e w' => e = .returned (.tuple #[.int .i64 x.seg, .int .i64 x.off, .bool true]) /\ _
   clear h hR hF hA hal hrb hRN hwx hx ht
   go_enter Tryz.func111, Tryz.ntmps111
   go_wp2
   go_quiet (fail)
   go_wp2
   refine bodyPost_ret (v := .tuple #[.int .i64 x.seg, .int .i64 x.off, .bool true]) (by simp [results, Tryz.results111, go_sem]) rfl ⟨rfl, ?_⟩
   exact ⟨rfl, rfl, rfl, Nat.le_refl _, fun _ _ => rfl⟩
 · have hno : ∀ x ∈ R.all, x.th ≠ t := fun x hx e => hw ⟨x, hx, e⟩
   rw [find_none hno]
   have hl := hR.lookW_no ht hno
   show Calls _ _ _ _ fun e w' => e = .returned (.tuple #[.int .i64 0, .int .i64 0, .bool false]) /\ _
   clear h hR hF hA hal hrb hRN hw hno
   go_enter Tryz.func111, Tryz.ntmps111
   go_wp2
   refine bodyPost_ret (v := .tuple #[.int .i64 0, .int .i64 0, .bool false]) (by simp [results, Tryz.results111, go_sem]) rfl ⟨rfl, Below.refl _ _⟩
end Go.Proofs.YtmgfakfiiaeofaaGreat.Wa
/- Regions that draw their order, whose first operations leave the world within a class and whose last ones come in one order only: one walk serves every order. -/
namespace Go.Proofs.YtmgfakfiiaeofaaGreat.Ko
open Go.RowKit Go.Sort

section
variable {P : Program} {ops : Array Oper} {md : Region.Mode} {C : World -> Prop} {n : Nat} {L : Array Bool -> Act -> Prop}

def anyHd (P : Program) (md : Region.Mode) (ops : Array Oper) (C : World -> Prop) (n : Nat) (L : Array Bool -> Act -> Prop) : Nat -> Array Bool -> Act -> Prop
 | 0, li, a => L li a
 | f + 1, li, a => (∃ i, i ∈ Region.ready md ops li) /\ ∀ i ∈ Region.ready md ops li, i < n /\ qOp P ops C i (anyHd P md ops C n L f (li.setIfInBounds i true)) a

theorem anyHd_wp {g : Nat} {Q : Exit -> Act -> World -> Prop} (hL : ∀ li a w, C w -> L li a -> wpAny P md ops Q g li a w) (f : Nat) :
 ∀ li a w, C w -> anyHd P md ops C n L f li a -> wpAny P md ops Q (f + g) li a w := by
 induction f with
 | zero => intro li a w hw h; rw [Nat.zero_add]; exact hL li a w hw h
 | succ f ih =>
  intro li a w hw h
  obtain ⟨⟨i0, hi0⟩, h⟩ := h
  rw [Nat.succ_add]
  exact ⟨fun e => (by rw [e] at hi0; cases hi0), fun i hi => wpOp_of_qOp hw (fun a' w' hw' h' => ih _ a' w' hw' h') (h i hi).2⟩

theorem head_lt {li : Array Bool} {i j : Nat} (hs : Region.sinkB md ops n = true) (hc : Region.chainB md ops n = true) (hn : n < ops.size) (inv : HeadInv md ops n li) (hi : i < n) (hu : li.getD i true = false) (hj : j ∈ Region.ready md ops li) : j < n :=
 Nat.lt_of_not_le fun h => tail_waits hs hc hn inv _ i rfl hi hu j h hj

theorem anyHd_take {i : Nat} {o : Oper} {v : Value} (ho : ops[i]? = some o) (hsel : ∀ (j : Nat) (o : Oper) cs b, ops[j]? = some o -> o.op ≠ .select cs b)
 (hs : Region.sinkB md ops n = true) (hc : Region.chainB md ops n = true) (hn : n < ops.size) (hi : i < n) (hend : ∀ li a, L li a -> ∀ j ∈ Region.ready md ops li, n <= j) (f : Nat) :
 ∀ (li : Array Bool) (a : Act), HeadInv md ops n li -> (∀ j oj, ops[j]? = some oj -> j ≠ i -> li.getD j true = false -> (∀ e ∈ oj.after, Region.binds md e = true -> e.on ≠ i) -> o.apart ops oj = true) ->
  i ∈ Region.ready md ops li -> YieldsIn P ops C o v a -> anyHd P md ops C n L f (li.setIfInBounds i true) (a.put o.dst v) -> anyHd P md ops C n L (f + 1) li a := by
 induction f with
 | zero =>
  intro li a inv _ hr hy H
  refine ⟨⟨i, hr⟩, fun j hj => ?_⟩
  have hjn := head_lt hs hc hn inv hi (mem_ready.1 hr).1 hj
  by_cases e : j = i
  · subst e; exact ⟨hjn, hy.qOp ho H⟩
  · exact absurd (hend _ _ H j (ready_mono hj e)) (Nat.not_le.2 hjn)
 | succ f ih =>
  intro li a inv hap hr hy H
  refine ⟨⟨i, hr⟩, fun j hj => ?_⟩
  have hu := (mem_ready.1 hr).1
  have hjn := head_lt hs hc hn inv hi hu hj
  refine ⟨hjn, ?_⟩
  by_cases e : j = i
  · subst e; exact hy.qOp ho H
  obtain ⟨hju, oj, hoj, hdep⟩ := mem_ready.1 hj
  have hno : ∀ x ∈ oj.after, Region.binds md x = true -> x.on ≠ i := by
   intro x hx hb hxi
   have h1 := hdep x hx hb
   rw [hxi, getD_both hu] at h1
   exact absurd h1 (by simp)
  refine qOp_mono (fun a' h => ?_) (qOp_put hoj (hap j oj hoj e hju hno) (fun cs b => hsel i o cs b ho) (fun cs b => hsel j oj cs b hoj) hy (H.2 j (ready_mono hj e)).2)
  refine ih (li.setIfInBounds j true) a' (inv.set hj hjn) (fun k ok hk hki hku => hap k ok hk hki ?_) (ready_mono hr (Ne.symm e)) h.1 ?_
  · by_cases ejk : j = k
    · subst ejk; exact hju
    · rwa [getD_set_ne true ejk] at hku
  · rw [Array.setIfInBounds_comm _ _ e]; exact h.2

theorem anyHd_lex {g : Nat} {R : Act -> Prop} (hsel : Region.noSelect ops = true) (hs : Region.sinkB md ops n = true) (hc : Region.chainB md ops n = true) (hn : n < ops.size) (l : List Oper) :
 ∀ (k : Nat) (li : Array Bool) (a : Act), (∀ j, j < l.length -> l[j]? = ops[k + j]?) -> k + l.length = n -> HeadInv md ops n li -> Region.lexHead md ops g l.length k li = true -> wpQuiet P ops C R l a ->
  anyHd P md ops C n (fun li' a' => Region.seqB md ops g n li' = true /\ R a') l.length li a := by
 induction l with
 | nil =>
  intro k li a _ hk _ hB h
  simp only [List.length_nil, Nat.add_zero] at hk
  subst hk
  exact ⟨hB, h⟩
 | cons o l ih =>
  intro k li a hl hk inv hB h
  have h0 : ops[k]? = some o := by simpa using (hl 0 (by simp)).symm
  rw [List.length_cons] at hk hB
  rw [Region.lexHead, Bool.and_eq_true, Bool.and_eq_true] at hB
  have hr : k ∈ Region.ready md ops li := by simpa using hB.1.1
  have hq : qOp P ops C k (wpQuiet P ops C R l) a := by unfold qOp; rw [h0]; exact h
  obtain ⟨v, hy, hK⟩ := yieldsIn_of_qOp h0 hq
  refine anyHd_take h0 (Region.noSelect_spec hsel) hs hc hn (by omega) (fun _ _ hL => seqB_ready hL.1) l.length li a inv (Region.free_spec h0 hB.1.2) hr hy ?_
  refine ih (k + 1) _ _ (fun j hj => ?_) (by omega) (inv.set hr (by omega)) hB.2 hK
  have := hl (j + 1) (by simp; omega)
  rw [Nat.add_assoc, Nat.add_comm 1 j, <- this]; simp

theorem wp_region_quiet_tail {id : Nat} {Q : Exit -> Act -> World -> Prop} {a : Act} {w : World} {l : List Oper} (n : Nat) (hm : P.follows .mixedOrders = true) (hB : Region.lexTailB .any l.toArray n = true) (hC : C { w with drawn := w.drawn + 1 })
 (h : wpQuiet P l.toArray C (fun a' => ∀ w', C w' -> wpList P l.toArray Q (l.drop n) a' w') (l.take n) a) : (Code.region id l.toArray true).wp P Q a w := by
 simp only [Region.lexTailB, Bool.and_eq_true, decide_eq_true_eq] at hB
 obtain ⟨⟨⟨⟨h1, h2⟩, h3⟩, h4⟩, h5⟩ := hB
 have hn : n < l.length := by simpa using h2
 have e1 : (l.take n).length = n := by rw [List.length_take]; omega
 have e2 : (l.drop n).length = l.toArray.size - n := by simp
 have inv : HeadInv .any l.toArray n (Array.replicate l.toArray.size false) :=
  ⟨by simp, fun j oj _ hl => (by rw [getD_replicate_false] at hl; cases hl), fun t _ ht => getD_in (by simpa using ht) (getD_replicate_false _ _)⟩
 have H := anyHd_lex (C := C) (md := .any) (g := l.toArray.size - n) h1 h3 h4 h2 (l.take n) 0 _ a (fun j hj => by rw [e1] at hj; simp [hj]) (by rw [e1, Nat.zero_add]) inv (by rw [e1]; exact h5) h
 refine wp_region_any hm ?_
 have G := anyHd_wp (g := l.toArray.size - n) (Q := Q) (fun li a' w' hw' hL => by
  have := wpAny_of_seq (md := .any) (Q' := Q) (l.drop n) n li a' w' (fun j => by simp [List.getElem?_drop]) (by rw [e2]; exact hL.1) (hL.2 w' hw')
  rwa [e2] at this) _ _ _ _ hC H
 rw [e1, show n + (l.toArray.size - n) = l.toArray.size from by simp at h2 |-; omega] at G
 exact G
end

theorem wp_region_tail_d {P : Program} {id : Nat} {Q : Exit -> Act -> World -> Prop} {a : Act} {w : World} {l : List Oper} (n : Nat) (hm : P.follows .mixedOrders = true) (hB : Region.lexTailB .any l.toArray n = true)
 (h : wpQuiet P l.toArray (fun w' => ∃ nq, w' = w.drewN nq) (fun a' => ∀ w', (∃ nq, w' = w.drewN nq) -> wpList P l.toArray Q (l.drop n) a' w') (l.take n) a) : (Code.region id l.toArray true).wp P Q a w :=
 wp_region_quiet_tail (C := fun w' => ∃ nq, w' = w.drewN nq) n hm hB ⟨1, rfl⟩ h
section
variable {P : Program} {ops : Array Oper} {md : Region.Mode} {C : World -> Prop} {n m l : Nat} {L : Array Bool -> Act -> Prop}
theorem cf_set : ∀ (l : List Bool) (i : Nat), l[i]? = some false -> (l.set i true).count false + 1 = l.count false
 | [], i, h => by simp at h
 | b :: l, 0, h => by have : b = false := by simpa using h
                      subst this; simp
 | b :: l, i + 1, h => by
  have := cf_set l i (by simpa using h)
  cases b <;> simp_all <;> omega
end
end Go.Proofs.YtmgfakfiiaeofaaGreat.Ko
