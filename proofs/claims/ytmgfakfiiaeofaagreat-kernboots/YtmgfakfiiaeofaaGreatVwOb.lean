/- Objects: their cells, how they lie in memory, and how a whole one is loaded. -/
import Derived.Test.YtmgfakfiiaeofaaGreatKBegin
import Derived.Deep.MidRow
import Derived.Lib.LazyBuf
import Derived.Test.YtmgfakfiiaeofaaGreatProg
import Derived.WalkKit
import Derived.WalkSpells
import Derived.WalkLawsBesides
import Derived.Handy
import Derived.BigQuiet
import Derived.Shelf.SlSortCmp.QuietGrown
import Derived.RangeFuncNested
import Derived.RangeFuncBound
import Derived.RangeFuncCalls
import Derived.RangeFuncLeaves
import Derived.Shelf.Abstract
import Derived.Shelf.RegionOpen
import Derived.OwnWalkIn
import Derived.TacticsInMore
import Derived.LoopNIn
import Derived.LoopIn
import Derived.StillTail
import Derived.Deep.Quiet
/- Cells that lie in a row in memory and may be written: what becomes of them. -/
namespace Go.Proofs.YtmgfakfiiaeofaaGreat.Rg
open Go.RowKit Go.Sort
structure At (w : World) (b o : Nat) (cs : List Value) : Prop where
 rng : w.rangeAt b o cs
 fz : ∀ j, j < cs.length -> w.frozen? ⟨b, o + j, none⟩ = false
theorem At.cell {w : World} {b o : Nat} {cs : List Value} (h : At w b o cs) {j : Nat} {v : Value} (hv : cs[j]? = some v) : w.cell? ⟨b, o + j, none⟩ = some v := h.rng j v hv
theorem At.there {w : World} {b o : Nat} {cs : List Value} (h : At w b o cs) : w.there b o cs.length := fun j hj =>
 ⟨by rw [h.cell (List.getElem?_eq_getElem hj)]; rfl, h.fz j hj⟩
theorem At.lt {w : World} {b o : Nat} {cs : List Value} (h : At w b o cs) (hc : 0 < cs.length) : b < w.heap.size := by
 have := h.cell (List.getElem?_eq_getElem hc)
 exact World.block_lt_of_cell? w _ this
theorem At.of_block {w w' : World} {b o : Nat} {cs : List Value} (h : At w b o cs) (hb : w'.heap[b]? = w.heap[b]?) : At w' b o cs where
 rng := fun j v hv => by have := h.rng j v hv; simp only [World.cell?, hb] at this |-; exact this
 fz := fun j hj => by have := h.fz j hj; simp only [World.frozen?, hb] at this |-; exact this
theorem At.below {w w' : World} {B b o : Nat} {cs : List Value} (h : At w b o cs) (hb : Below B w w') (hB : b < B) : At w' b o cs := h.of_block (hb.block b hB)
theorem At.drewN {w : World} {b o : Nat} {cs : List Value} (h : At w b o cs) (n : Nat) : At (w.drewN n) b o cs := h.of_block rfl
theorem At.new (w : World) (cs : Array Value) (t : TypeId) : At (w.alloc (.cells cs t)) w.heap.size 0 cs.toList where
 rng := fun j v hv => by simp only [World.cell?, heap_alloc_new]; simpa using hv
 fz := fun j _ => by
  have h : (w.alloc (.cells cs t)).heap[w.heap.size]? = some (.cells cs t) := heap_alloc_new _ _
  simp only [World.frozen?, h]; simp
theorem one_new (w : World) (X : Array Value) (t : TypeId) : ∃ W, w.alloc (.cells X t) = W /\ Below w.heap.size w W /\ At W w.heap.size 0 X.toList /\ W.heap.size = w.heap.size + 1 :=
 ⟨_, rfl, (Below.refl _ _).alloc (Nat.le_refl _) _, At.new w X t, by simp⟩
theorem At.other {w : World} {b o b' o' : Nat} {cs : List Value} (h : At w b o cs) (vs : List Value) (hap : b ≠ b' ∨ o + cs.length <= o' ∨ o' + vs.length <= o) : At (w.setCells b' o' vs) b o cs where
 rng := World.rangeAt_setCells_apart h.rng b' o' vs hap
 fz := fun j hj => by rw [World.frozen?_setCells]; exact h.fz j hj
theorem At.sets {w : World} {b o i : Nat} {cs : List Value} (h : At w b o cs) (vs : List Value) (hi : i + vs.length <= cs.length) : At (w.setCells b (o + i) vs) b o (cs.take i ++ vs ++ cs.drop (i + vs.length)) where
 rng := fun j v hv => by
  by_cases h1 : j < i
  · rw [List.getElem?_append_left (by simp; omega), List.getElem?_append_left (by simp; omega), List.getElem?_take_of_lt h1] at hv
    rw [World.cell?_setCells_out b vs (o + i) w ⟨b, o + j, none⟩ (fun _ _ => .inl (by show o + j < o + i; omega))]
    exact h.rng j v hv
  · by_cases h2 : j < i + vs.length
    · rw [List.getElem?_append_left (by simp; omega), List.getElem?_append_right (by simp; omega)] at hv
      have h3 := World.rangeAt_setCells_same w b (o + i) vs (fun k hk => by
       have := h.there (i + k) (by omega)
       rw [<- Nat.add_assoc] at this; exact this) (j - i) v (by rw [List.length_take, Nat.min_eq_left (by omega)] at hv; exact hv)
      rw [show o + i + (j - i) = o + j from by omega] at h3
      exact h3
    · rw [List.getElem?_append_right (by simp; omega), List.getElem?_drop] at hv
      rw [World.cell?_setCells_out b vs (o + i) w ⟨b, o + j, none⟩ (fun _ _ => .inr (by show o + i + vs.length <= o + j; omega))]
      refine h.rng j v ?_
      rw [<- hv]; congr 1
      simp only [List.length_append, List.length_take]
      omega
 fz := fun j hj => by
  rw [World.frozen?_setCells]
  refine h.fz j ?_
  simp only [List.length_append, List.length_take, List.length_drop] at hj
  omega
theorem setCell_one (w : World) (b o : Nat) (v : Value) : w.setCell ⟨b, o, none⟩ v = w.setCells b o [v] := rfl
theorem At.set {w : World} {b o : Nat} {cs : List Value} (h : At w b o cs) (j : Nat) (v : Value) (hj : j < cs.length) : At (w.setCell ⟨b, o + j, none⟩ v) b o (cs.set j v) := by
 have := h.sets (i := j) [v] (by simp; omega)
 rw [setCell_one]
 rw [List.set_eq_take_append_cons_drop, if_pos hj]
 simpa using this
theorem At.otherCell {w : World} {b o b' o' : Nat} {cs : List Value} (h : At w b o cs) (v : Value) (hap : b ≠ b' ∨ o + cs.length <= o' ∨ o' + 1 <= o) : At (w.setCell ⟨b', o', none⟩ v) b o cs := h.other [v] hap
structure Oth (b : Nat) (w w' : World) : Prop where
 os : w'.os = w.os
 tape : w'.tape = w.tape
 output : w'.output = w.output
 size : w.heap.size <= w'.heap.size
 block : ∀ k, k < w.heap.size -> k ≠ b -> w'.heap[k]? = w.heap[k]?
theorem Oth.refl (b : Nat) (w : World) : Oth b w w := ⟨rfl, rfl, rfl, Nat.le_refl _, fun _ _ _ => rfl⟩
theorem Oth.trans {b : Nat} {w w' w'' : World} (h : Oth b w w') (g : Oth b w' w'') : Oth b w w'' :=
 ⟨g.os.trans h.os, g.tape.trans h.tape, g.output.trans h.output, Nat.le_trans h.size g.size, fun k hk hn => (g.block k (Nat.lt_of_lt_of_le hk h.size) hn).trans (h.block k hk hn)⟩
theorem Oth.of_below {b : Nat} {w w' : World} (h : Below w.heap.size w w') : Oth b w w' := ⟨h.os, h.tape, h.output, h.size, fun k hk _ => h.block k hk⟩
theorem Oth.setCells (b o : Nat) (w : World) (vs : List Value) : Oth b w (w.setCells b o vs) := by
 induction vs generalizing o w with
 | nil => exact Oth.refl _ _
 | cons v vs ih =>
  have h : Oth b w (w.setCell ⟨b, o, none⟩ v) := ⟨rfl, rfl, rfl, by simp, fun k _ hn => Below.heap_setCell w ⟨b, o, none⟩ v k hn⟩
  exact h.trans (ih (o + 1) (w.setCell ⟨b, o, none⟩ v))
theorem Oth.setCell (b o : Nat) (w : World) (v : Value) : Oth b w (w.setCell ⟨b, o, none⟩ v) := Oth.setCells b o w [v]
theorem Oth.drewN (b : Nat) (w : World) (n : Nat) : Oth b w (w.drewN n) := ⟨rfl, rfl, rfl, Nat.le_refl _, fun _ _ _ => rfl⟩
theorem Oth.below {b B : Nat} {w0 w w' : World} (h : Oth b w w') (h0 : Below B w0 w) (hB : B <= b) (hB0 : B <= w0.heap.size) : Below B w0 w' :=
 ⟨h.os.trans h0.os, h.tape.trans h0.tape, h.output.trans h0.output, Nat.le_trans h0.size h.size, fun k hk => (h.block k (Nat.lt_of_lt_of_le hk (Nat.le_trans hB0 h0.size)) (by omega)).trans (h0.block k hk)⟩
theorem At.oth {w w' : World} {b b' o : Nat} {cs : List Value} (h : At w b o cs) (hb : Oth b' w w') (hn : b ≠ b') (hl : 0 < cs.length) : At w' b o cs := h.of_block (hb.block b (h.lt hl) hn)
theorem wpList_store_new {P : Program} {ops : Array Oper} {rest : List Oper} {o : Oper} {a : Act} {Q : Exit -> Act -> World -> Prop} (w : World) (Z : Array Value) (t : TypeId) (hgd : o.guard = none) (ty : TypeId) (x y : Operand) (ho : o.op = .store ty x y)
 (cs : List Value) (hx : a.eval x = .pointer (some ⟨w.heap.size, 0, none⟩)) (hy : a.eval y = .agg cs.toArray) (hZ : Z.size = cs.length) (hi : (P.info? ty).map (·.size) = some cs.length) (h1 : ∀ v ∈ cs, v.oneCell' = true)
 (h : ∀ W, Below w.heap.size w W -> At W w.heap.size 0 cs -> W.heap.size = w.heap.size + 1 -> wpList P ops Q rest (a.put o.dst undef) W) : wpList P ops Q (o :: rest) a (w.alloc (.cells Z t)) := by
 obtain ⟨V, hV, hb, hA, hs⟩ := one_new w Z t
 rw [hV]
 have hl : Z.toList.length = cs.length := by rw [Array.length_toList]; exact hZ
 have ht : V.there w.heap.size 0 cs.length := by rw [<- hl]; exact hA.there
 refine wpList_store_mid hgd ty x y ho w.heap.size 0 cs.toArray hx hy (by rw [List.size_toArray]; exact ht) (by rw [List.size_toArray]; exact hi) (all_oneCell_toArray h1) ?_
 refine h _ ((Oth.setCells _ _ _ _).below hb (Nat.le_refl _) (Nat.le_refl _)) ?_ ?_
 · have := hA.sets (i := 0) cs (by omega)
   rw [Nat.zero_add, Nat.zero_add, List.take_zero, List.nil_append, <- hl, List.drop_length, List.append_nil] at this
   exact this
 · rw [<- hs]
   have : ∀ (vs : List Value) (o : Nat) (W : World), (W.setCells w.heap.size o vs).heap.size = W.heap.size := by
    intro vs
    induction vs with
    | nil => intro o W; rfl
    | cons v vs ih => intro o W; show ((W.setCell _ v).setCells w.heap.size (o + 1) vs).heap.size = _; rw [ih]; simp
   exact this _ _ _
end Go.Proofs.YtmgfakfiiaeofaaGreat.Rg
/- Plain words of labels, and what the small functions of package label and of the reference answer, for every number. -/
namespace Go.Proofs.YtmgfakfiiaeofaaGreat.Vw
open Go.RowKit Go.Sort

def CatsAt (w : World) (p : Option Addr) (xs : List (Int × Int)) : Prop :=
 ∀ j, (h : j < xs.length) -> ∃ b off, p = some ⟨b, off, none⟩ /\ b < w.heap.size /\ w.cell? ⟨b, off + j * 2, none⟩ = some (.int .i64 xs[j].1) /\ w.cell? ⟨b, off + j * 2 + 1, none⟩ = some (.int .i64 xs[j].2)

theorem ret_bool {a b : Bool} (h : a = b) : Ending.returned (.bool a) = .returned (.bool b) := by rw [h]

theorem CatsAt.get {w : World} {p : Option Addr} {xs : List (Int × Int)} (h : CatsAt w p xs) {B : Nat} {w1 wr : World} (hb : Below B w1 wr) (h1 : Below w.heap.size w w1) (hB : w.heap.size <= B) (k : Nat) (hk : k < xs.length) :
 ∃ b off, p = some ⟨b, off, none⟩ /\ b < w.heap.size /\ wr.cell? ⟨b, off + k * 2, none⟩ = some (.int .i64 xs[k].1) /\ wr.cell? ⟨b, off + k * 2 + 1, none⟩ = some (.int .i64 xs[k].2) := by
 obtain ⟨b, off, hp, hbl, c0, c1⟩ := h k hk
 exact ⟨b, off, hp, hbl, ((hb.cell (p := ⟨b, off + k * 2, none⟩) (by simp; omega)).trans (h1.cell (p := ⟨b, off + k * 2, none⟩) hbl)).trans c0, ((hb.cell (p := ⟨b, off + k * 2 + 1, none⟩) (by simp; omega)).trans (h1.cell (p := ⟨b, off + k * 2 + 1, none⟩) hbl)).trans c1⟩




theorem bdn {B : Nat} {w w' : World} (h : Below B w w') (n : Nat) : Below B w (w'.drewN n) := ⟨h.os, h.tape, h.output, h.size, h.block⟩

theorem CatsAt.below {w w' : World} {p : Option Addr} {xs : List (Int × Int)} (h : CatsAt w p xs) (hb : Below w.heap.size w w') : CatsAt w' p xs := fun j hj => by
 obtain ⟨b, off, hp, hbl, c0, c1⟩ := h j hj
 exact ⟨b, off, hp, Nat.lt_of_lt_of_le hbl hb.size, (hb.cell (p := ⟨b, off + j * 2, none⟩) hbl).trans c0, (hb.cell (p := ⟨b, off + j * 2 + 1, none⟩) hbl).trans c1⟩


theorem CatsAt.head {w : World} {p : Option Addr} {x : Int × Int} {xs : List (Int × Int)} (h : CatsAt w p (x :: xs)) :
 ∃ b off, p = some ⟨b, off, none⟩ /\ b < w.heap.size /\ w.cell? ⟨b, off, none⟩ = some (.int .i64 x.1) /\ w.cell? ⟨b, off + 1, none⟩ = some (.int .i64 x.2) := by
 obtain ⟨b, off, hp, hb, c0, c1⟩ := h 0 (by simp)
 exact ⟨b, off, hp, hb, by simpa using c0, by simpa using c1⟩
def CatsB (B : Nat) (w : World) (p : Option Addr) (xs : List (Int × Int)) : Prop :=
 ∀ j, (h : j < xs.length) -> ∃ b off, p = some ⟨b, off, none⟩ /\ b < B /\ w.cell? ⟨b, off + j * 2, none⟩ = some (.int .i64 xs[j].1) /\ w.cell? ⟨b, off + j * 2 + 1, none⟩ = some (.int .i64 xs[j].2)
theorem CatsB.keep {B : Nat} {w w' : World} {p : Option Addr} {xs : List (Int × Int)} (h : CatsB B w p xs) (hb : Below B w w') : CatsB B w' p xs := fun j hj => by
 obtain ⟨b, off, hp, hbl, c0, c1⟩ := h j hj
 exact ⟨b, off, hp, hbl, (hb.cell (p := ⟨b, off + j * 2, none⟩) hbl).trans c0, (hb.cell (p := ⟨b, off + j * 2 + 1, none⟩) hbl).trans c1⟩
theorem CatsB.nil (B : Nat) (w : World) (p : Option Addr) : CatsB B w p [] := fun j hj => by simp at hj
theorem CatsB.tail {B : Nat} {w : World} {b off : Nat} {x : Int × Int} {xs : List (Int × Int)} (h : CatsB B w (some ⟨b, off, none⟩) (x :: xs)) : CatsB B w (some ⟨b, off + 2, none⟩) xs := fun j hj => by
 obtain ⟨b', off', hp, hb, c0, c1⟩ := h (j + 1) (by simpa using hj)
 simp only [Option.some.injEq, Addr.mk.injEq, and_true] at hp
 obtain ⟨rfl, rfl⟩ := hp
 refine ⟨b, off + 2, rfl, hb, ?_, ?_⟩
 · rw [show off + 2 + j * 2 = off + (j + 1) * 2 from by omega]; simpa using c0
 · rw [show off + 2 + j * 2 + 1 = off + (j + 1) * 2 + 1 from by omega]; simpa using c1

end Go.Proofs.YtmgfakfiiaeofaaGreat.Vw
/- Plain facts on labels as lists: comparing right labels is comparing their levels at every category, and is an order. -/
namespace Go.Proofs.YtmgfakfiiaeofaaGreat.Vw

def Rise : Int -> List (Int × Int) -> Prop
 | _, [] => True
 | l, x :: xs => l < x.1 /\ Rise x.1 xs
theorem Rise.mono {l l' : Int} (h : l' <= l) : ∀ {xs : List (Int × Int)}, Rise l xs -> Rise l' xs
 | [], _ => trivial
 | _ :: _, h1 => ⟨Int.lt_of_le_of_lt h h1.1, h1.2⟩
def sameS (da db : Int) (xs ys : List (Int × Int)) : Bool := decide (da = db) && decide (xs = ys)
end Go.Proofs.YtmgfakfiiaeofaaGreat.Vw
/- What right of the statements' package and Same of the reference answer, for every label. -/
namespace Go.Proofs.YtmgfakfiiaeofaaGreat.Vw
open Go.RowKit Go.Sort

structure Lab where
 d : Int
 p : Option Addr
 cap : Nat
 xs : List (Int × Int)
def Lab.val (l : Lab) : Value := .agg #[.int .i64 l.d, .slice l.p l.xs.length l.cap]
theorem guardS : Tryz.prog.eqGuardType Tryz.prog.depth 163 = false := by kernel_rfl
theorem same_step (xs ys : List (Int × Int)) (k : Nat) (h1 : k < xs.length) (h2 : k < ys.length) : decide (xs.drop k = ys.drop k) = (decide (xs[k] = ys[k]) && decide (xs.drop (k + 1) = ys.drop (k + 1))) := by
 rw [List.drop_eq_getElem_cons h1, List.drop_eq_getElem_cons h2, Bool.eq_iff_iff, Bool.and_eq_true]
 simp only [decide_eq_true_eq, List.cons.injEq]

set_option maxRecDepth 100000 in
set_option maxHeartbeats 1000000 in
theorem Same_any (da db : Int) (p q : Option Addr) (cx cy : Nat) (xs ys : List (Int × Int)) (w : World) (hmx : xs.length <= maxLen) (hmy : ys.length <= maxLen) (hx : CatsAt w p xs) (hy : CatsAt w q ys) :
 Calls Tryz.prog 62 #[.agg #[.int .i64 da, .slice p xs.length cx], .agg #[.int .i64 db, .slice q ys.length cy]] w fun e w' => e = .returned (.bool (sameS da db xs ys)) /\ Below w.heap.size w w' := by
 have hW : Below w.heap.size w ((w.alloc (.cells #[.int .i64 da, .slice p xs.length cx] 46)).alloc (.cells #[.int .i64 db, .slice q ys.length cy] 46)) := by go_grown
 unfold maxLen at hmx hmy
 have hg := guardS
 by_cases h1 : (da != db) = true
 · have h1' : sameS da db xs ys = false := by simp at h1; simp [sameS, h1]
   go_enter Tryz.func62, Tryz.ntmps62
   go_wp2
   go_ret
   exact ⟨ret_bool h1'.symm, by go_grown⟩
 · have h1f : (da != db) = false := by simpa using h1
   have hd : da = db := by simpa using h1
   by_cases h2 : ((xs.length : Int) != (ys.length : Int)) = true
   · have h2' : sameS da db xs ys = false := by
      have : xs ≠ ys := fun e => by subst e; simp at h2
      simp [sameS, this]
     clear hd
     go_enter Tryz.func62, Tryz.ntmps62
     go_wp2
     go_ret
     exact ⟨ret_bool h2'.symm, by go_grown⟩
   · have h2f : ((xs.length : Int) != (ys.length : Int)) = false := by simpa using h2
     have hl : xs.length = ys.length := by simp at h2; omega
     have HS : Hid (sameS da db xs ys = decide (xs = ys)) := by simp [Hid, sameS, hd]
     have HL : Hid (xs.length = ys.length) := hl
     have hl1 : xs.length <= ys.length := by omega
     have hl2 : ys.length <= xs.length := by omega
     clear hd hl h1 h2
     go_enter Tryz.func62, Tryz.ntmps62
     go_wp2
     go_loopw [23] (fun i wr => ∃ k : Nat, k <= xs.length /\ i = .int .i64 k /\ decide (xs = ys) = decide (xs.drop k = ys.drop k) /\ Below (w.heap.size + 2) ((w.alloc (.cells #[.int .i64 da, .slice p xs.length cx] 46)).alloc (.cells #[.int .i64 db, .slice q ys.length cy] 46)) wr) (fun i _ => xs.length - (intOf i).toNat)
     case atStart => exact ⟨0, Nat.zero_le _, rfl, by simp, Below.refl _ _⟩
     case round =>
      obtain ⟨k, hk, rfl, hr, hb⟩ := hrel
      have HR : Hid (decide (xs = ys) = decide (xs.drop k = ys.drop k)) := hr; clear hr
      by_cases hlt : k < xs.length
      · have hlt2 : k < ys.length := by omega
        obtain ⟨b, off, rfl, hbl, c0, c1⟩ := hx.get hb hW (by omega) k hlt
        obtain ⟨b2, off2, rfl, hbl2, e0, e1⟩ := hy.get hb hW (by omega) k hlt2
        have a1 : wr.cell? ⟨w.heap.size, 1, none⟩ = some (.slice (some ⟨b, off, none⟩) xs.length cx) := (hb.cell (p := ⟨w.heap.size, 1, none⟩) (by simp)).trans (by simp [go_sem])
        have a2 : wr.cell? ⟨w.heap.size + 1, 1, none⟩ = some (.slice (some ⟨b2, off2, none⟩) ys.length cy) := (hb.cell (p := ⟨w.heap.size + 1, 1, none⟩) (by simp)).trans (by simp [go_sem])
        have HT : Hid (decide (xs.drop k = ys.drop k) = (decide (xs[k] = ys[k]) && decide (xs.drop (k + 1) = ys.drop (k + 1)))) := same_step xs ys k hlt hlt2
        have hki : (k : Int) < (xs.length : Int) := by omega
        have hkj : (k : Int) < (ys.length : Int) := by omega
        clear hx hy
        by_cases h3 : xs[k].1 = ys[k].1
        · by_cases h4 : xs[k].2 = ys[k].2
          · have HE : Hid (xs[k] = ys[k]) := Prod.ext h3 h4
            go_wp2
            go_quiet (fail)
            go_wp2
            go_roundw
            case rel => exact ⟨k + 1, by omega, by go_num, by rw [HR.out, HT.out, decide_eq_true HE.out]; rfl, bdn hb _⟩
            case measure => simp [intOf]; omega
          · have HE : Hid (xs[k] ≠ ys[k]) := fun e => h4 (congrArg Prod.snd e)
            go_wp2
            go_quiet (fail)
            go_wp2
            go_ret
            exact ⟨ret_bool (by rw [HS.out, HR.out, HT.out, decide_eq_false HE.out]; rfl), bdn (hW.trans (hb.mono (by omega))) _⟩
        · have HE : Hid (xs[k] ≠ ys[k]) := fun e => h3 (congrArg Prod.fst e)
          go_wp2
          go_quiet (fail)
          go_wp2
          go_ret
          exact ⟨ret_bool (by rw [HS.out, HR.out, HT.out, decide_eq_false HE.out]; rfl), bdn (hW.trans (hb.mono (by omega))) _⟩
      · go_wp2
        go_ret
        exact ⟨ret_bool (by rw [HS.out, HR.out, List.drop_of_length_le (by omega), List.drop_of_length_le (by have := HL.out; omega)]; rfl), hW.trans (hb.mono (by omega))⟩

structure Mp where
 at_ : Int
 pg : Int
 inn : Int
 id : Int
 fr : Int
 wr : Bool
 rn : Bool
structure Ob where
 id : Int
 kind : Int
 quota : Int
 used : Int
 links : Int
 L : Lab
 lp : Option Addr
 lc : Nat
 ls : List Int
 bytes : ByteArray
 mp : Option Addr
 mc : Nat
 ms : List Mp
 C : Lab
 sin : Int
 sid : Int
 st : List Int
 entry : Int
 does : Int
 seg : Int
 off : Int
 ap : Option Addr
 ac : Nat
 al : List Int
 heard : ByteArray
 out : ByteArray
def Ob.hd (o : Ob) : List Value := [.int .i64 o.id, .int .i64 o.kind, .int .i64 o.quota, .int .i64 o.used, .int .i64 o.links, .int .i64 o.L.d, .slice o.L.p o.L.xs.length o.L.cap, .slice o.lp o.ls.length o.lc, .string o.bytes, .slice o.mp o.ms.length o.mc, .int .i64 o.C.d, .slice o.C.p o.C.xs.length o.C.cap, .int .i64 o.sin, .int .i64 o.sid]
def Ob.tl (o : Ob) : List Value := [.int .u64 o.entry, .int .i64 o.does, .int .i64 o.seg, .int .i64 o.off, .slice o.ap o.al.length o.ac, .string o.heard, .string o.out]
def Ob.cl (o : Ob) : List Value := o.hd ++ (o.st.map (Value.int .u64) ++ o.tl)
def Ob.cs (o : Ob) : Array Value := o.cl.toArray
theorem Ob.size {o : Ob} (h : o.st.length = 17) : o.cs.size = 38 := by simp [Ob.cs, Ob.cl, Ob.hd, Ob.tl, h]
theorem Ob.head (o : Ob) (i : Nat) (h : i < 14) : o.cs[i]? = o.hd[i]? := by
 simp only [Ob.cs, List.getElem?_toArray, Ob.cl]
 rw [List.getElem?_append_left (by simpa [Ob.hd] using h)]
theorem Ob.tail (o : Ob) (hs : o.st.length = 17) (i : Nat) : o.cs[31 + i]? = o.tl[i]? := by
 simp only [Ob.cs, List.getElem?_toArray, Ob.cl]
 rw [List.getElem?_append_right (by simp [Ob.hd]; omega), List.getElem?_append_right (by simp [Ob.hd, hs]; omega)]
 congr 1
 simp [Ob.hd, hs]; omega
theorem Ob.mid (o : Ob) (hs : o.st.length = 17) (i : Nat) (hi : i < 17) : o.cs[14 + i]? = some (.int .u64 (o.st[i]'(by omega))) := by
 simp only [Ob.cs, List.getElem?_toArray, Ob.cl]
 rw [List.getElem?_append_right (by simp [Ob.hd])]
 simp only [Ob.hd, List.length_cons, List.length_nil]
 rw [show 14 + i - (0 + 1 + 1 + 1 + 1 + 1 + 1 + 1 + 1 + 1 + 1 + 1 + 1 + 1 + 1) = i from by omega, List.getElem?_append_left (by simpa [hs] using hi)]
 simp [hs, hi]
def IntsAt (w : World) (p : Option Addr) (l : List Int) : Prop := ∀ k (h : k < l.length), ∃ b off, p = some ⟨b, off, none⟩ /\ b < w.heap.size /\ w.cell? ⟨b, off + k, none⟩ = some (.int .i64 l[k])
theorem IntsAt.below {w w' : World} {p : Option Addr} {l : List Int} (h : IntsAt w p l) (hb : Below w.heap.size w w') : IntsAt w' p l := fun k hk => by
 obtain ⟨b, off, hp, hbl, hc⟩ := h k hk
 exact ⟨b, off, hp, Nat.lt_of_lt_of_le hbl hb.size, (hb.cell (p := ⟨b, off + k, none⟩) hbl).trans hc⟩
def mpC (m : Mp) : Array Value := #[.int .i64 m.at_, .int .i64 m.pg, .int .i64 m.inn, .int .i64 m.id, .int .i64 m.fr, .bool m.wr, .bool m.rn]
def MsAt (w : World) (p : Option Addr) (l : List Mp) : Prop := ∀ k (h : k < l.length), ∃ b off, p = some ⟨b, off, none⟩ /\ b < w.heap.size /\ ∀ f u, (mpC l[k])[f]? = some u -> w.cell? ⟨b, off + k * 7 + f, none⟩ = some u
theorem MsAt.below {w w' : World} {p : Option Addr} {l : List Mp} (h : MsAt w p l) (hb : Below w.heap.size w w') : MsAt w' p l := fun k hk => by
 obtain ⟨b, off, hp, hbl, hc⟩ := h k hk
 exact ⟨b, off, hp, Nat.lt_of_lt_of_le hbl hb.size, fun f u hu => (hb.cell (p := ⟨b, off + k * 7 + f, none⟩) hbl).trans (hc f u hu)⟩
def i64 (n : Int) : Prop := -9223372036854775808 <= n /\ n <= 9223372036854775807
structure ObOk (w : World) (o : Ob) : Prop where
 st : o.st.length = 17
 L : CatsAt w o.L.p o.L.xs
 Lm : o.L.xs.length <= maxLen
 ls : IntsAt w o.lp o.ls
 lm : o.ls.length <= maxLen
 ms : MsAt w o.mp o.ms
 mm : o.ms.length <= maxLen
 C : CatsAt w o.C.p o.C.xs
 Cm : o.C.xs.length <= maxLen
 al : IntsAt w o.ap o.al
 am : o.al.length <= maxLen
theorem ObOk.below {w w' : World} {o : Ob} (h : ObOk w o) (hb : Below w.heap.size w w') : ObOk w' o :=
 ⟨h.st, h.L.below hb, h.Lm, h.ls.below hb, h.lm, h.ms.below hb, h.mm, h.C.below hb, h.Cm, h.al.below hb, h.am⟩
def ObAt (w : World) (b off : Nat) (o : Ob) : Prop := ∀ f u, o.cs[f]? = some u -> w.cell? ⟨b, off + f, none⟩ = some u
theorem ObAt.below {B : Nat} {w w' : World} {b off : Nat} {o : Ob} (h : ObAt w b off o) (hb : Below B w w') (hB : b < B) : ObAt w' b off o := fun f u hu => (hb.cell (p := ⟨b, off + f, none⟩) hB).trans (h f u hu)
def ObsAt (w : World) (p : Option Addr) (l : List Ob) : Prop := ∀ k (h : k < l.length), ∃ b off, p = some ⟨b, off, none⟩ /\ b < w.heap.size /\ ObAt w b (off + k * 38) l[k] /\ ObOk w l[k]
theorem ObsAt.below {w w' : World} {p : Option Addr} {l : List Ob} (h : ObsAt w p l) (hb : Below w.heap.size w w') : ObsAt w' p l := fun k hk => by
 obtain ⟨b, off, hp, hbl, hc, ho⟩ := h k hk
 exact ⟨b, off, hp, Nat.lt_of_lt_of_le hbl hb.size, hc.below hb hbl, ho.below hb⟩

section
variable {P : Program}
theorem run_load_at (w : World) (g off : Nat) (ty : TypeId) (cs : Array Value) (d : TypeDesc) (hc : ∀ f u, cs[f]? = some u -> w.cell? ⟨g, off + f, none⟩ = some u)
 (hu : P.underlying ty = some d) (hd : (match d with | .struct _ | .array _ _ => true | _ => false) = true) (hi : (P.info? ty).map (·.size) = some cs.size) :
 (loadVar ty ⟨g, off, none⟩).run P w = .ok (.agg cs) w := by
 have hl : (loadCells ⟨g, off, none⟩ cs.toList.length).run P w = .ok cs.toList.toArray w :=
  run_loadCells_list (P := P) w ⟨g, off, none⟩ cs.toList (fun j v hv => by
   have hadd : (⟨g, off, none⟩ : Addr).add j = ⟨g, off + j, none⟩ := by unfold Addr.add; split <;> simp_all
   rw [hadd]
   exact hc j v (by simpa using hv))
 cases hq : P.info? ty with
 | none => simp [hq] at hi
 | some i =>
  have hs : i.size = cs.size := by simpa [hq] using hi
  have hagg : (isAgg ty).run P w = .ok true w := by
   unfold isAgg
   rw [Sem.run_bind, run_underlying hu w]
   cases d <;> simp_all
  simp only [Array.length_toList, Array.toArray_toList] at hl
  simp [loadVar, Sem.run_bind, hagg, sizeOf, typeInfo, hq, hs, hl]
theorem wp_load_at {o : Oper} {a : Act} {w : World} {K : Act -> World -> Prop} {Q : Exit -> Act -> World -> Prop} (ty : TypeId) (x : Operand) (ho : o.op = .load ty x)
 (p : Addr) (hx : a.eval x = .pointer (some p)) (v : Value) (hl : (loadVar ty p).run P w = .ok v w) (h : K (a.put o.dst v) w) : o.wp P a w K Q := by
 unfold Oper.wp execOp
 simp only [ho, hx, Instr.loadAt, Instr.sureAddr, Sem.run_bind, Sem.run_pure, Result.andThen_ok, hl]
 exact h
end
end Go.Proofs.YtmgfakfiiaeofaaGreat.Vw
