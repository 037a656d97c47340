/- What least and take of package label answer, for every two rows of entries. -/
import Derived.Test.YtonhdkldacghoaaForms
namespace Go.Proofs.Ytonhdkldacghoaa
open Go.RowKit Go.Sort

def leastS : List (Int × Int) → List (Int × Int) → Int
  | [], [] => 0
  | [], y :: _ => y.1
  | x :: _, [] => x.1
  | x :: _, y :: _ => min x.1 y.1
def tkL (d c : Int) : List (Int × Int) → Int
  | [] => d
  | x :: _ => if (x.1 == c) = true then x.2 else d
def tkR (c : Int) : List (Int × Int) → List (Int × Int)
  | [] => []
  | x :: xs => if (x.1 == c) = true then xs else x :: xs

theorem CatsAt.head {w : World} {p : Option Addr} {x : Int × Int} {xs : List (Int × Int)} (h : CatsAt w p (x :: xs)) :
    ∃ b off, p = some ⟨b, off, none⟩ ∧ b < w.heap.size ∧ w.cell? ⟨b, off, none⟩ = some (.int .i64 x.1) ∧ w.cell? ⟨b, off + 1, none⟩ = some (.int .i64 x.2) := by
  obtain ⟨b, off, hp, hb, c0, c1⟩ := h 0 (by simp)
  exact ⟨b, off, hp, hb, by simpa using c0, by simpa using c1⟩
/-- Entries that lie in a block below B. -/
def CatsB (B : Nat) (w : World) (p : Option Addr) (xs : List (Int × Int)) : Prop :=
  ∀ j, (h : j < xs.length) → ∃ b off, p = some ⟨b, off, none⟩ ∧ b < B ∧ w.cell? ⟨b, off + j * 2, none⟩ = some (.int .i64 xs[j].1) ∧ w.cell? ⟨b, off + j * 2 + 1, none⟩ = some (.int .i64 xs[j].2)
theorem CatsB.here {B : Nat} {w : World} {p : Option Addr} {xs : List (Int × Int)} (h : CatsB B w p xs) (hB : B ≤ w.heap.size) : CatsAt w p xs := fun j hj => by
  obtain ⟨b, off, hp, hb, c⟩ := h j hj
  exact ⟨b, off, hp, by omega, c⟩
theorem CatsAt.under {w : World} {p : Option Addr} {xs : List (Int × Int)} (h : CatsAt w p xs) : CatsB w.heap.size w p xs := h
theorem CatsB.keep {B : Nat} {w w' : World} {p : Option Addr} {xs : List (Int × Int)} (h : CatsB B w p xs) (hb : Below B w w') : CatsB B w' p xs := fun j hj => by
  obtain ⟨b, off, hp, hbl, c0, c1⟩ := h j hj
  exact ⟨b, off, hp, hbl, (hb.cell (p := ⟨b, off + j * 2, none⟩) hbl).trans c0, (hb.cell (p := ⟨b, off + j * 2 + 1, none⟩) hbl).trans c1⟩
theorem CatsB.nil (B : Nat) (w : World) (p : Option Addr) : CatsB B w p [] := fun j hj => by simp at hj
theorem CatsB.tail {B : Nat} {w : World} {b off : Nat} {x : Int × Int} {xs : List (Int × Int)} (h : CatsB B w (some ⟨b, off, none⟩) (x :: xs)) : CatsB B w (some ⟨b, off + 2, none⟩) xs := fun j hj => by
  obtain ⟨b', off', hp, hb, c0, c1⟩ := h (j + 1) (by simpa using hj)
  simp only [Option.some.injEq, Addr.mk.injEq, and_true] at hp
  obtain ⟨rfl, rfl⟩ := hp
  refine ⟨b, off + 2, rfl, hb, ?_, ?_⟩
  · rw [show off + 2 + j * 2 = off + (j + 1) * 2 from by omega]; simpa using c0
  · rw [show off + 2 + j * 2 + 1 = off + (j + 1) * 2 + 1 from by omega]; simpa using c1

end Go.Proofs.Ytonhdkldacghoaa
