/- What least and take of package label answer, for every two rows of entries. -/
import Derived.Test.YtfpjeclbilhgdaaDoorForms
namespace Go.Proofs.YtfpjeclbilhgdaaDoor
open Go.RowKit Go.Sort

def leastS : List (Int × Int) → List (Int × Int) → Int
  | [], [] => 0
  | [], y :: _ => y.1
  | x :: _, [] => x.1
  | x :: _, y :: _ => min x.1 y.1
def tkL (d c : Int) : List (Int × Int) → Int
  | [] => d
  | x :: _ => if (x.1 == c) = true then x.2 else d
def tkR (c : Int) : List (Int × Int) → List (Int × Int)
  | [] => []
  | x :: xs => if (x.1 == c) = true then xs else x :: xs

theorem CatsAt.head {w : World} {p : Option Addr} {x : Int × Int} {xs : List (Int × Int)} (h : CatsAt w p (x :: xs)) :
    ∃ b off, p = some ⟨b, off, none⟩ ∧ b < w.heap.size ∧ w.cell? ⟨b, off, none⟩ = some (.int .i64 x.1) ∧ w.cell? ⟨b, off + 1, none⟩ = some (.int .i64 x.2) := by
  obtain ⟨b, off, hp, hb, c0, c1⟩ := h 0 (by simp)
  exact ⟨b, off, hp, hb, by simpa using c0, by simpa using c1⟩
/-- Entries that lie in a block below B. -/
def CatsB (B : Nat) (w : World) (p : Option Addr) (xs : List (Int × Int)) : Prop :=
  ∀ j, (h : j < xs.length) → ∃ b off, p = some ⟨b, off, none⟩ ∧ b < B ∧ w.cell? ⟨b, off + j * 2, none⟩ = some (.int .i64 xs[j].1) ∧ w.cell? ⟨b, off + j * 2 + 1, none⟩ = some (.int .i64 xs[j].2)
theorem CatsB.here {B : Nat} {w : World} {p : Option Addr} {xs : List (Int × Int)} (h : CatsB B w p xs) (hB : B ≤ w.heap.size) : CatsAt w p xs := fun j hj => by
  obtain ⟨b, off, hp, hb, c⟩ := h j hj
  exact ⟨b, off, hp, by omega, c⟩
theorem CatsAt.under {w : World} {p : Option Addr} {xs : List (Int × Int)} (h : CatsAt w p xs) : CatsB w.heap.size w p xs := h
theorem CatsB.keep {B : Nat} {w w' : World} {p : Option Addr} {xs : List (Int × Int)} (h : CatsB B w p xs) (hb : Below B w w') : CatsB B w' p xs := fun j hj => by
  obtain ⟨b, off, hp, hbl, c0, c1⟩ := h j hj
  exact ⟨b, off, hp, hbl, (hb.cell (p := ⟨b, off + j * 2, none⟩) hbl).trans c0, (hb.cell (p := ⟨b, off + j * 2 + 1, none⟩) hbl).trans c1⟩
theorem CatsB.nil (B : Nat) (w : World) (p : Option Addr) : CatsB B w p [] := fun j hj => by simp at hj
theorem CatsB.tail {B : Nat} {w : World} {b off : Nat} {x : Int × Int} {xs : List (Int × Int)} (h : CatsB B w (some ⟨b, off, none⟩) (x :: xs)) : CatsB B w (some ⟨b, off + 2, none⟩) xs := fun j hj => by
  obtain ⟨b', off', hp, hb, c0, c1⟩ := h (j + 1) (by simpa using hj)
  simp only [Option.some.injEq, Addr.mk.injEq, and_true] at hp
  obtain ⟨rfl, rfl⟩ := hp
  refine ⟨b, off + 2, rfl, hb, ?_, ?_⟩
  · rw [show off + 2 + j * 2 = off + (j + 1) * 2 from by omega]; simpa using c0
  · rw [show off + 2 + j * 2 + 1 = off + (j + 1) * 2 + 1 from by omega]; simpa using c1

set_option maxHeartbeats 400000 in
theorem least_any (p q : Option Addr) (capx capy : Nat) (xs ys : List (Int × Int)) (w : World) (hmx : xs.length ≤ maxLen) (hmy : ys.length ≤ maxLen) (hx : CatsAt w p xs) (hy : CatsAt w q ys) (hne : 0 < xs.length + ys.length) :
    Calls Tryd.prog 71 #[.slice p xs.length capx, .slice q ys.length capy] w fun e w' => e = .returned (.int .i64 (leastS xs ys)) ∧ ∃ m, w' = w.drewN m := by
  unfold maxLen at hmx hmy
  cases xs with
  | nil =>
    cases ys with
    | nil => simp at hne
    | cons y ys =>
      obtain ⟨b, off, rfl, hb, c0, c1⟩ := hy.head
      clear hy hx
      go_enter Tryd.func71, Tryd.ntmps71
      go_wp2
      go_ret
      exact ⟨rfl, 0, rfl⟩
  | cons x xs =>
    cases ys with
    | nil =>
      obtain ⟨b, off, rfl, hb, c0, c1⟩ := hx.head
      clear hy hx
      have h0 : (((xs.length : Int) + 1) == 0) = false := by simp; omega
      go_enter Tryd.func71, Tryd.ntmps71
      go_wp2
      go_ret
      exact ⟨rfl, 0, rfl⟩
    | cons y ys =>
      obtain ⟨b, off, rfl, hb, c0, c1⟩ := hx.head
      obtain ⟨b2, off2, rfl, hb2, c2, c3⟩ := hy.head
      clear hy hx
      have h0 : (((xs.length : Int) + 1) == 0) = false := by simp; omega
      have h2 : (((ys.length : Int) + 1) == 0) = false := by simp; omega
      go_enter Tryd.func71, Tryd.ntmps71
      go_wp2
      go_region
      all_goals go_wp2
      all_goals go_ret
      all_goals exact ⟨ret_int (by simp only [leastS]; omega), 1, rfl⟩

set_option maxHeartbeats 400000 in
theorem take_any (B : Nat) (p : Option Addr) (cap : Nat) (xs : List (Int × Int)) (c d : Int) (w : World) (hm : xs.length ≤ maxLen) (hcap : xs.length ≤ cap) (hB : B ≤ w.heap.size) (hx : CatsB B w p xs) :
    Calls Tryd.prog 72 #[.slice p xs.length cap, .int .i64 c, .int .i64 d] w fun e w' => ∃ p' cap', e = .returned (.tuple #[.int .i64 (tkL d c xs), .slice p' (tkR c xs).length cap']) ∧ CatsB B w p' (tkR c xs) ∧ (tkR c xs).length ≤ cap' ∧ ∃ m, w' = w.drewN m := by
  unfold maxLen at hm
  cases xs with
  | nil =>
    go_enter Tryd.func72, Tryd.ntmps72
    go_wp2
    go_ret2
    exact ⟨p, cap, rfl, hx, hcap, 0, rfl⟩
  | cons x xs =>
    have hx' := hx
    obtain ⟨b, off, rfl, hb, c0, c1⟩ := (hx.here hB).head
    have ht := hx.tail
    have h0 : (((xs.length : Int) + 1) == 0) = false := by simp; omega
    have hcp : xs.length + 1 ≤ cap := by simpa using hcap
    by_cases h : (x.1 == c) = true
    · have HL : Hid (tkL d c (x :: xs) = x.2) := by simp [Hid, tkL, h]
      have HR : Hid (tkR c (x :: xs) = xs) := by simp [Hid, tkR, h]
      have HT : Hid (CatsB B w (some ⟨b, off + 2, none⟩) xs) := ht
      clear hx ht hx' hcap
      go_enter Tryd.func72, Tryd.ntmps72
      go_wp2
      go_quiet (fail)
      go_wp2
      · rename_i hc1
        go_ret2
        have hxs : xs.length ≤ 0 := by omega
        exact ⟨some ⟨b, off, none⟩, 0, by rw [HL.out, HR.out]; rfl, by rw [HR.out]; intro j hj; omega, by rw [HR.out]; exact hxs, nq, rfl⟩
      · go_ret2
        exact ⟨some ⟨b, off + 2, none⟩, cap - 1, by rw [HL.out, HR.out]; rfl, by rw [HR.out]; exact HT.out, by rw [HR.out]; omega, nq, rfl⟩
    · have h' : (x.1 == c) = false := by simpa using h
      have HL : Hid (tkL d c (x :: xs) = d) := by simp [Hid, tkL, h']
      have HR : Hid (tkR c (x :: xs) = x :: xs) := by simp [Hid, tkR, h']
      have HC : Hid (CatsB B w (some ⟨b, off, none⟩) (x :: xs)) := hx'
      clear hx ht hx' 
      go_enter Tryd.func72, Tryd.ntmps72
      go_wp2
      go_ret2
      exact ⟨_, _, by rw [HL.out, HR.out]; rfl, by rw [HR.out]; exact HC.out, by rw [HR.out]; simpa using hcp, 0, rfl⟩
end Go.Proofs.YtfpjeclbilhgdaaDoor
