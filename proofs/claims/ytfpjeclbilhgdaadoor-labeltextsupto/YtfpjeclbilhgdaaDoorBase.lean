/- Plain words of labels, and what the small functions of package label and of the reference answer, for every number. -/
import Derived.Test.YtfpjeclbilhgdaaDoorProg
import Derived.WalkKit
import Derived.WalkSpells
import Derived.WalkLawsBesides
import Derived.Handy
import Derived.BigQuiet
import Derived.Shelf.SlSortCmp.QuietGrown
namespace Go.Proofs.YtfpjeclbilhgdaaDoor
open Go.RowKit Go.Sort

def lev (n : Int) : Bool := decide (0 ≤ n) && decide (n ≤ 5)
def isCt (n : Int) : Bool := decide (1 ≤ n) && decide (n ≤ 2305843009213693951)

theorem isLevel_any (n : Int) (w : World) : Calls Tryd.prog 24 #[.int .i64 n] w fun e w' => e = .returned (.bool (lev n)) ∧ w' = w := by
  by_cases h1 : 0 ≤ n <;> by_cases h2 : n ≤ 5 <;>
  · go_enter Tryd.func24, Tryd.ntmps24
    go_wp2
    go_ret
    exact ⟨by simp [lev, h1, h2], rfl⟩

theorem isCat_any (n : Int) (w : World) : Calls Tryd.prog 59 #[.int .i64 n] w fun e w' => e = .returned (.bool (isCt n)) ∧ w' = w := by
  by_cases h1 : 1 ≤ n <;> by_cases h2 : n ≤ 2305843009213693951 <;>
  · go_enter Tryd.func59, Tryd.ntmps59
    go_wp2
    go_ret
    exact ⟨by simp [isCt, h1, h2], rfl⟩
theorem Level_any (n : Int) (w : World) : Calls Tryd.prog 36 #[.int .i64 n] w fun e w' => e = .returned (.bool (lev n)) ∧ w' = w := by
  by_cases h1 : 0 ≤ n <;> by_cases h2 : n ≤ 5 <;>
  · go_enter Tryd.func36, Tryd.ntmps36
    go_wp2
    go_ret
    exact ⟨by simp [lev, h1, h2], rfl⟩
theorem Cat_any (n : Int) (w : World) : Calls Tryd.prog 37 #[.int .i64 n] w fun e w' => e = .returned (.bool (isCt n)) ∧ w' = w := by
  by_cases h1 : 1 ≤ n <;> by_cases h2 : n ≤ 2305843009213693951 <;>
  · go_enter Tryd.func37, Tryd.ntmps37
    go_wp2
    go_ret
    exact ⟨by simp [isCt, h1, h2], rfl⟩

def can (x : Int × Int) : Bool := isCt x.1 && lev x.2
set_option maxHeartbeats 400000 in
theorem canBe_any (x : Int × Int) (w : World) : Calls Tryd.prog 46 #[.agg #[.int .i64 x.1, .int .i64 x.2]] w fun e w' => e = .returned (.bool (can x)) ∧ w' = w.alloc (.cells #[.int .i64 x.1, .int .i64 x.2] 35) := by
  by_cases h1 : isCt x.1 = true
  · go_enter Tryd.func46, Tryd.ntmps46
    go_wp2_with (first | (go_at_call 59; refine (isCat_any _ _).mono ?_; rintro e w' ⟨rfl, rfl⟩) | (go_at_call 24; refine (isLevel_any _ _).mono ?_; rintro e w' ⟨rfl, rfl⟩))
    go_ret
    exact ⟨by simp [can, h1], rfl⟩
  · have h1' : isCt x.1 = false := by simpa using h1
    go_enter Tryd.func46, Tryd.ntmps46
    go_wp2_with (first | (go_at_call 59; refine (isCat_any _ _).mono ?_; rintro e w' ⟨rfl, rfl⟩) | (go_at_call 24; refine (isLevel_any _ _).mono ?_; rintro e w' ⟨rfl, rfl⟩))
    go_ret
    exact ⟨by simp [can, h1'], rfl⟩
theorem cannotBe_any (x : Int × Int) (w : World) : Calls Tryd.prog 26 #[.agg #[.int .i64 x.1, .int .i64 x.2]] w fun e w' => e = .returned (.bool (!can x)) ∧ Below w.heap.size w w' := by
  go_enter Tryd.func26, Tryd.ntmps26
  go_wp2_with (first | (go_at_call 46; refine (canBe_any _ _).mono ?_; rintro e w' ⟨rfl, rfl⟩))
  go_ret
  exact ⟨rfl, by go_grown⟩

/-- A world with blocks laid behind it, whatever was drawn: the worlds that are 'Below' of w. -/
def gx (w : World) (n : Nat) (os : Array Obj) : World := { w with heap := w.heap ++ os, drawn := n }
theorem gx_below (w : World) (n : Nat) (os : Array Obj) : Below w.heap.size w (gx w n os) :=
  ⟨rfl, rfl, rfl, by simp [gx], fun k hk => by simp [gx, Array.getElem?_append, hk]⟩
theorem below_gx {w w' : World} (h : Below w.heap.size w w') : ∃ p : GrownBy, w' = gx w p.n p.os := by
  refine ⟨⟨w'.drawn, w'.heap.extract w.heap.size w'.heap.size⟩, ?_⟩
  obtain ⟨hp, t, n, os, out⟩ := w
  obtain ⟨hp', t', n', os', out'⟩ := w'
  obtain ⟨h1, h2, h3, h4, h5⟩ := h
  simp only at h1 h2 h3 h4 h5
  subst h1 h2 h3
  simp only [gx, World.mk.injEq, and_true]
  apply Array.ext_getElem?
  intro k
  rw [Array.getElem?_append]
  by_cases hk : k < hp.size
  · simp [hk, h5 k hk]
  · simp only [hk, if_false]
    by_cases hk2 : k < hp'.size
    · rw [Array.getElem?_extract_of_lt (by omega), Array.getElem?_eq_getElem hk2]
      simp only [show hp.size + (k - hp.size) = k from by omega]
    · rw [Array.getElem?_eq_none (by omega), Array.getElem?_eq_none (by simp; omega)]

theorem cell_gx {w : World} {a : Addr} {v : Value} (hb : a.block < w.heap.size) (h : w.cell? a = some v) (n : Nat) (os : Array Obj) : (gx w n os).cell? a = some v :=
  ((gx_below w n os).cell (p := a) hb).trans h

theorem wp_region_quiet_gx {P : Program} {id : Nat} {Q : Exit → Act → World → Prop} {a : Act} {w : World} {l : List Oper} (hm : P.follows .mixedOrders = true) (hB : Region.lexB .any l.toArray = true)
    (h : wpQuiet P l.toArray (fun w' => ∃ p : GrownBy, w' = gx w p.n p.os) (fun a' => ∀ w', (∃ p : GrownBy, w' = gx w p.n p.os) → Q .normal a' w') l a) : (Code.region id l.toArray true).wp P Q a w :=
  wp_region_quiet (C := fun w' => ∃ p : GrownBy, w' = gx w p.n p.os) hm hB ⟨⟨w.drawn + 1, #[]⟩, by simp [gx]⟩ (by simpa using h)

theorem calls_gx {P : Program} {f : FuncId} {args : Array Value} {w : World} {n : Nat} {os : Array Obj} {v : Value}
    (h : Calls P f args (gx w n os) fun e w' => e = .returned v ∧ Below (gx w n os).heap.size (gx w n os) w') : Calls P f args (gx w n os) fun e w'' => e = .returned v ∧ ∃ p : GrownBy, w'' = gx w p.n p.os :=
  h.mono fun _ _ ⟨he, hb⟩ => ⟨he, below_gx ((gx_below w n os).trans (hb.mono (gx_below w n os).size))⟩
/-- The entries of a slice of entries, as they lie in memory. -/
def CatsAt (w : World) (p : Option Addr) (xs : List (Int × Int)) : Prop :=
  ∀ j, (h : j < xs.length) → ∃ b off, p = some ⟨b, off, none⟩ ∧ b < w.heap.size ∧ w.cell? ⟨b, off + j * 2, none⟩ = some (.int .i64 xs[j].1) ∧ w.cell? ⟨b, off + j * 2 + 1, none⟩ = some (.int .i64 xs[j].2)

def rOk (d : Int) : Int → List (Int × Int) → Bool
  | _, [] => true
  | last, x :: xs => can x && !(x.2 == d) && !(decide (x.1 ≤ last)) && rOk d x.1 xs
def rightS (d : Int) (xs : List (Int × Int)) : Bool := lev d && decide (xs.length ≤ 16) && rOk d 0 xs

def lastAt (xs : List (Int × Int)) (k : Nat) : Int := if k = 0 then 0 else (xs.getD (k - 1) (0, 0)).1

theorem rOk_step (d last : Int) (xs : List (Int × Int)) (k : Nat) (h : k < xs.length) :
    rOk d last (xs.drop k) = (can xs[k] && !(xs[k].2 == d) && !(decide (xs[k].1 ≤ last)) && rOk d xs[k].1 (xs.drop (k + 1))) := by
  rw [List.drop_eq_getElem_cons h]; rfl
theorem lastAt_succ (xs : List (Int × Int)) (k : Nat) (h : k < xs.length) : lastAt xs (k + 1) = xs[k].1 := by
  simp [lastAt, h]
theorem ret_bool {a b : Bool} (h : a = b) : Ending.returned (.bool a) = .returned (.bool b) := by rw [h]

theorem CatsAt.get {w : World} {p : Option Addr} {xs : List (Int × Int)} (h : CatsAt w p xs) {B : Nat} {w1 wr : World} (hb : Below B w1 wr) (h1 : Below w.heap.size w w1) (hB : w.heap.size ≤ B) (k : Nat) (hk : k < xs.length) :
    ∃ b off, p = some ⟨b, off, none⟩ ∧ b < w.heap.size ∧ wr.cell? ⟨b, off + k * 2, none⟩ = some (.int .i64 xs[k].1) ∧ wr.cell? ⟨b, off + k * 2 + 1, none⟩ = some (.int .i64 xs[k].2) := by
  obtain ⟨b, off, hp, hbl, c0, c1⟩ := h k hk
  exact ⟨b, off, hp, hbl, ((hb.cell (p := ⟨b, off + k * 2, none⟩) (by simp; omega)).trans (h1.cell (p := ⟨b, off + k * 2, none⟩) hbl)).trans c0, ((hb.cell (p := ⟨b, off + k * 2 + 1, none⟩) (by simp; omega)).trans (h1.cell (p := ⟨b, off + k * 2 + 1, none⟩) hbl)).trans c1⟩


end Go.Proofs.YtfpjeclbilhgdaaDoor
