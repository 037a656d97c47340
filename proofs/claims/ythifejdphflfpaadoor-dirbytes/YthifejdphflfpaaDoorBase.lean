/- Entries of directories as plain data, and rows of them in memory. -/
import Derived.Test.YthifejdphflfpaaDoorProg
import Derived.WalkKit
import Derived.WalkSpells
import Derived.WalkLawsBesides
import Derived.Handy
import Derived.BigQuiet
import Derived.Lib.Hide
import Derived.Shelf.SlSortCmp.QuietGrown
namespace Go.Proofs.YthifejdphflfpaaDoor
open Go.RowKit Go.Sort
/-- A world with blocks laid behind it, whatever was drawn: the worlds that are 'Below' of w. -/
def gx (w : World) (n : Nat) (os : Array Obj) : World := { w with heap := w.heap ++ os, drawn := n }
theorem gx_below (w : World) (n : Nat) (os : Array Obj) : Below w.heap.size w (gx w n os) :=
  ⟨rfl, rfl, rfl, by simp [gx], fun k hk => by simp [gx, Array.getElem?_append, hk]⟩
theorem below_gx {w w' : World} (h : Below w.heap.size w w') : ∃ p : GrownBy, w' = gx w p.n p.os := by
  refine ⟨⟨w'.drawn, w'.heap.extract w.heap.size w'.heap.size⟩, ?_⟩
  obtain ⟨hp, t, n, os, out⟩ := w
  obtain ⟨hp', t', n', os', out'⟩ := w'
  obtain ⟨h1, h2, h3, h4, h5⟩ := h
  simp only at h1 h2 h3 h4 h5
  subst h1 h2 h3
  simp only [gx, World.mk.injEq, and_true]
  apply Array.ext_getElem?
  intro k
  rw [Array.getElem?_append]
  by_cases hk : k < hp.size
  · simp [hk, h5 k hk]
  · simp only [hk, if_false]
    by_cases hk2 : k < hp'.size
    · rw [Array.getElem?_extract_of_lt (by omega), Array.getElem?_eq_getElem hk2]
      simp only [show hp.size + (k - hp.size) = k from by omega]
    · rw [Array.getElem?_eq_none (by omega), Array.getElem?_eq_none (by simp; omega)]
theorem cell_gx {w : World} {a : Addr} {v : Value} (hb : a.block < w.heap.size) (h : w.cell? a = some v) (n : Nat) (os : Array Obj) : (gx w n os).cell? a = some v :=
  ((gx_below w n os).cell (p := a) hb).trans h
theorem wp_region_quiet_gx {P : Program} {id : Nat} {Q : Exit → Act → World → Prop} {a : Act} {w : World} {l : List Oper} (hm : P.follows .mixedOrders = true) (hB : Region.lexB .any l.toArray = true)
    (h : wpQuiet P l.toArray (fun w' => ∃ p : GrownBy, w' = gx w p.n p.os) (fun a' => ∀ w', (∃ p : GrownBy, w' = gx w p.n p.os) → Q .normal a' w') l a) : (Code.region id l.toArray true).wp P Q a w :=
  wp_region_quiet (C := fun w' => ∃ p : GrownBy, w' = gx w p.n p.os) hm hB ⟨⟨w.drawn + 1, #[]⟩, by simp [gx]⟩ (by simpa using h)
theorem calls_gx {P : Program} {f : FuncId} {args : Array Value} {w : World} {n : Nat} {os : Array Obj} {v : Value}
    (h : Calls P f args (gx w n os) fun e w' => e = .returned v ∧ Below (gx w n os).heap.size (gx w n os) w') : Calls P f args (gx w n os) fun e w'' => e = .returned v ∧ ∃ p : GrownBy, w'' = gx w p.n p.os :=
  h.mono fun _ _ ⟨he, hb⟩ => ⟨he, below_gx ((gx_below w n os).trans (hb.mono (gx_below w n os).size))⟩
theorem bdn {B : Nat} {w w' : World} (h : Below B w w') (n : Nat) : Below B w (w'.drewN n) := ⟨h.os, h.tape, h.output, h.size, h.block⟩
/-- An entry. -/
structure Nm where
  (nm : ByteArray) (kd id : Int)
deriving DecidableEq
def nmC (m : Nm) : List Value := [.string m.nm, .int .i64 m.kd, .int .i64 m.id]
def nmV (m : Nm) : Value := .agg #[.string m.nm, .int .i64 m.kd, .int .i64 m.id]
/-- The block of an entry that is handed over. -/
def nmB (m : Nm) : Obj := .cells #[.string m.nm, .int .i64 m.kd, .int .i64 m.id] 25
/-- The cells of an entry at an address. -/
structure NmAt (w : World) (b o : Nat) (m : Nm) : Prop where
  c0 : w.cell? ⟨b, o, none⟩ = some (.string m.nm)
  c1 : w.cell? ⟨b, o + 1, none⟩ = some (.int .i64 m.kd)
  c2 : w.cell? ⟨b, o + 2, none⟩ = some (.int .i64 m.id)
/-- A slice of entries, as it lies in memory. -/
def NsAt (w : World) (p : Option Addr) (l : List Nm) : Prop :=
  ∀ j, (h : j < l.length) → ∃ b off, p = some ⟨b, off, none⟩ ∧ b < w.heap.size ∧ NmAt w b (off + j * 3) l[j]
theorem NmAt.below {w w' : World} {b o : Nat} {m : Nm} {B : Nat} (h : NmAt w b o m) (hb : Below B w w') (hB : b < B) : NmAt w' b o m :=
  ⟨(hb.cell (p := ⟨b, o, none⟩) hB).trans h.c0, (hb.cell (p := ⟨b, o + 1, none⟩) hB).trans h.c1, (hb.cell (p := ⟨b, o + 2, none⟩) hB).trans h.c2⟩
theorem NsAt.below {w w' : World} {p : Option Addr} {l : List Nm} (h : NsAt w p l) (hb : Below w.heap.size w w') : NsAt w' p l := fun j hj => by
  obtain ⟨b, off, rfl, hbl, hm⟩ := h j hj
  exact ⟨b, off, rfl, Nat.lt_of_lt_of_le hbl hb.size, hm.below hb hbl⟩
theorem NsAt.nil {w : World} {l : List Nm} (h : NsAt w none l) : l = [] := by
  cases l with
  | nil => rfl
  | cons x l => obtain ⟨b, off, h, _⟩ := h 0 (by simp); cases h
theorem NmAt.of {w : World} {b o : Nat} {m : Nm} (h : ∀ r u, (nmC m)[r]? = some u → w.cell? ⟨b, o + r, none⟩ = some u) : NmAt w b o m :=
  ⟨h 0 _ rfl, h 1 _ rfl, h 2 _ rfl⟩
theorem ret_bool {a b : Bool} (h : a = b) : Ending.returned (.bool a) = .returned (.bool b) := by rw [h]
end Go.Proofs.YthifejdphflfpaaDoor
