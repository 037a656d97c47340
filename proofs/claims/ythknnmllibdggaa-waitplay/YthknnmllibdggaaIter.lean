/- Words for what an iterator over a queue tells. -/
import Derived.Test.YthknnmllibdggaaChain
import Derived.RangeFuncNested
import Derived.RangeFuncBound
import Derived.RangeFuncCalls
import Derived.RangeFuncLeaves
import Derived.RangeFuncBox
import Derived.RangeFuncWrites
import Derived.OwnWalkIn
import Derived.TacticsInMore
import Derived.LoopNIn
import Derived.LoopIn
import Derived.Outline
import Derived.BigRegionIn
namespace Go.Proofs.Ythknnmllibdggaa
open Go.RowKit
/-- An item of a row of items. -/
abbrev Im (l : List It) := { x : It // x ∈ l }
def encI {l : List It} (x : Im l) : Array Value := #[x.1.v]
/-- What the round must keep: the variable that holds the queue, and the queue. -/
def KpQ (Bq Q : Nat) (l : List It) (W W' : World) : Prop := ∀ k, (k = Bq ∨ qf Q l k) → W'.heap[k]? = W.heap[k]?
def blkOf : Value → Option Nat
  | .pointer (some a) => some a.block
  | _ => none
/-- How many items stand from the one on that v points to. -/
def rem : List It → Value → Nat
  | [], _ => 0
  | x :: r, v => if blkOf v = some x.I then r.length + 1 else rem r v
theorem rem_nil (l : List It) : rem l np = 0 := by
  induction l with
  | nil => rfl
  | cons x r ih =>
    show (if blkOf np = some x.I then _ else _) = _
    rw [if_neg (by simp [blkOf])]; exact ih
theorem rem_app : ∀ (a : List It) (x : It) (r : List It), ((a ++ x :: r).map It.I).Nodup → rem (a ++ x :: r) (pv x.I) = r.length + 1
  | [], x, r, _ => by simp [rem, blkOf]
  | y :: a, x, r, h => by
    have hne : x.I ≠ y.I := fun e => by simp [e] at h
    have h2 : ((a ++ x :: r).map It.I).Nodup := (List.nodup_cons.1 h).2
    show (if blkOf (pv x.I) = some y.I then _ else _) = _
    rw [if_neg (by simp only [blkOf, Option.some.injEq]; exact hne)]
    exact rem_app a x r h2
theorem rem_at (l a : List It) (x : It) (r : List It) (hl : l = a ++ x :: r) (hn : (l.map It.I).Nodup) : rem l (hdV np (x :: r)) = r.length + 1 := by
  subst hl
  exact rem_app a x r hn
theorem rem_next (l a : List It) (x : It) (r : List It) (hl : l = a ++ x :: r) (hn : (l.map It.I).Nodup) : rem l (hdV np r) = r.length := by
  cases r with
  | nil => exact rem_nil l
  | cons y r =>
    have hl2 : l = (a ++ [x]) ++ y :: r := by rw [hl]; simp
    subst hl2
    exact rem_app (a ++ [x]) y r hn
end Go.Proofs.Ythknnmllibdggaa
