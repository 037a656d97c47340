/- Worlds with blocks laid behind them; regions that draw their order. -/
import Derived.Test.YtfcmgodeehjnoaaDoorProg
import Derived.WalkKit
import Derived.WalkSpells
import Derived.WalkLawsBesides
import Derived.Handy
import Derived.BigQuiet
import Derived.Lib.Hide
import Derived.Shelf.SlSortCmp.QuietGrown
namespace Go.Proofs.YtfcmgodeehjnoaaDoor
open Go.RowKit Go.Sort
/-- A world with blocks laid behind it, whatever was drawn: the worlds that are 'Below' of w. -/
def gx (w : World) (n : Nat) (os : Array Obj) : World := { w with heap := w.heap ++ os, drawn := n }
theorem gx_below (w : World) (n : Nat) (os : Array Obj) : Below w.heap.size w (gx w n os) :=
  ⟨rfl, rfl, rfl, by simp [gx], fun k hk => by simp [gx, Array.getElem?_append, hk]⟩
theorem below_gx {w w' : World} (h : Below w.heap.size w w') : ∃ p : GrownBy, w' = gx w p.n p.os := by
  refine ⟨⟨w'.drawn, w'.heap.extract w.heap.size w'.heap.size⟩, ?_⟩
  obtain ⟨hp, t, n, os, out⟩ := w
  obtain ⟨hp', t', n', os', out'⟩ := w'
  obtain ⟨h1, h2, h3, h4, h5⟩ := h
  simp only at h1 h2 h3 h4 h5
  subst h1 h2 h3
  simp only [gx, World.mk.injEq, and_true]
  apply Array.ext_getElem?
  intro k
  rw [Array.getElem?_append]
  by_cases hk : k < hp.size
  · simp [hk, h5 k hk]
  · simp only [hk, if_false]
    by_cases hk2 : k < hp'.size
    · rw [Array.getElem?_extract_of_lt (by omega), Array.getElem?_eq_getElem hk2]
      simp only [show hp.size + (k - hp.size) = k from by omega]
    · rw [Array.getElem?_eq_none (by omega), Array.getElem?_eq_none (by simp; omega)]
theorem cell_gx {w : World} {a : Addr} {v : Value} (hb : a.block < w.heap.size) (h : w.cell? a = some v) (n : Nat) (os : Array Obj) : (gx w n os).cell? a = some v :=
  ((gx_below w n os).cell (p := a) hb).trans h
theorem wp_region_quiet_gx {P : Program} {id : Nat} {Q : Exit → Act → World → Prop} {a : Act} {w : World} {l : List Oper} (hm : P.follows .mixedOrders = true) (hB : Region.lexB .any l.toArray = true)
    (h : wpQuiet P l.toArray (fun w' => ∃ p : GrownBy, w' = gx w p.n p.os) (fun a' => ∀ w', (∃ p : GrownBy, w' = gx w p.n p.os) → Q .normal a' w') l a) : (Code.region id l.toArray true).wp P Q a w :=
  wp_region_quiet (C := fun w' => ∃ p : GrownBy, w' = gx w p.n p.os) hm hB ⟨⟨w.drawn + 1, #[]⟩, by simp [gx]⟩ (by simpa using h)
theorem calls_gx {P : Program} {f : FuncId} {args : Array Value} {w : World} {n : Nat} {os : Array Obj} {v : Value}
    (h : Calls P f args (gx w n os) fun e w' => e = .returned v ∧ Below (gx w n os).heap.size (gx w n os) w') : Calls P f args (gx w n os) fun e w'' => e = .returned v ∧ ∃ p : GrownBy, w'' = gx w p.n p.os :=
  h.mono fun _ _ ⟨he, hb⟩ => ⟨he, below_gx ((gx_below w n os).trans (hb.mono (gx_below w n os).size))⟩
theorem bdn {B : Nat} {w w' : World} (h : Below B w w') (n : Nat) : Below B w (w'.drewN n) := ⟨h.os, h.tape, h.output, h.size, h.block⟩
theorem ret_bool {a b : Bool} (h : a = b) : Ending.returned (.bool a) = .returned (.bool b) := by rw [h]
end Go.Proofs.YtfcmgodeehjnoaaDoor
