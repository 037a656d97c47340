/- Mappings as plain data, rows of them in memory, and which of them are right. -/
import Derived.Test.YtddllchobojmlaaProg
import Derived.WalkKit
import Derived.WalkSpells
import Derived.WalkLawsBesides
import Derived.Handy
import Derived.BigQuiet
import Derived.Lib.Hide
import Derived.Shelf.SlSortCmp.QuietGrown
namespace Go.Proofs.Ytddllchobojmlaa
open Go.RowKit Go.Sort
/-- A world with blocks laid behind it, whatever was drawn: the worlds that are 'Below' of w. -/
def gx (w : World) (n : Nat) (os : Array Obj) : World := { w with heap := w.heap ++ os, drawn := n }
theorem gx_below (w : World) (n : Nat) (os : Array Obj) : Below w.heap.size w (gx w n os) :=
  ⟨rfl, rfl, rfl, by simp [gx], fun k hk => by simp [gx, Array.getElem?_append, hk]⟩
theorem below_gx {w w' : World} (h : Below w.heap.size w w') : ∃ p : GrownBy, w' = gx w p.n p.os := by
  refine ⟨⟨w'.drawn, w'.heap.extract w.heap.size w'.heap.size⟩, ?_⟩
  obtain ⟨hp, t, n, os, out⟩ := w
  obtain ⟨hp', t', n', os', out'⟩ := w'
  obtain ⟨h1, h2, h3, h4, h5⟩ := h
  simp only at h1 h2 h3 h4 h5
  subst h1 h2 h3
  simp only [gx, World.mk.injEq, and_true]
  apply Array.ext_getElem?
  intro k
  rw [Array.getElem?_append]
  by_cases hk : k < hp.size
  · simp [hk, h5 k hk]
  · simp only [hk, if_false]
    by_cases hk2 : k < hp'.size
    · rw [Array.getElem?_extract_of_lt (by omega), Array.getElem?_eq_getElem hk2]
      simp only [show hp.size + (k - hp.size) = k from by omega]
    · rw [Array.getElem?_eq_none (by omega), Array.getElem?_eq_none (by simp; omega)]
theorem cell_gx {w : World} {a : Addr} {v : Value} (hb : a.block < w.heap.size) (h : w.cell? a = some v) (n : Nat) (os : Array Obj) : (gx w n os).cell? a = some v :=
  ((gx_below w n os).cell (p := a) hb).trans h
theorem wp_region_quiet_gx {P : Program} {id : Nat} {Q : Exit → Act → World → Prop} {a : Act} {w : World} {l : List Oper} (hm : P.follows .mixedOrders = true) (hB : Region.lexB .any l.toArray = true)
    (h : wpQuiet P l.toArray (fun w' => ∃ p : GrownBy, w' = gx w p.n p.os) (fun a' => ∀ w', (∃ p : GrownBy, w' = gx w p.n p.os) → Q .normal a' w') l a) : (Code.region id l.toArray true).wp P Q a w :=
  wp_region_quiet (C := fun w' => ∃ p : GrownBy, w' = gx w p.n p.os) hm hB ⟨⟨w.drawn + 1, #[]⟩, by simp [gx]⟩ (by simpa using h)
theorem calls_gx {P : Program} {f : FuncId} {args : Array Value} {w : World} {n : Nat} {os : Array Obj} {v : Value}
    (h : Calls P f args (gx w n os) fun e w' => e = .returned v ∧ Below (gx w n os).heap.size (gx w n os) w') : Calls P f args (gx w n os) fun e w'' => e = .returned v ∧ ∃ p : GrownBy, w'' = gx w p.n p.os :=
  h.mono fun _ _ ⟨he, hb⟩ => ⟨he, below_gx ((gx_below w n os).trans (hb.mono (gx_below w n os).size))⟩
theorem bdn {B : Nat} {w w' : World} (h : Below B w w') (n : Nat) : Below B w (w'.drewN n) := ⟨h.os, h.tape, h.output, h.size, h.block⟩
/-- A mapping. -/
structure Mp where
  (at_ pg inn id fr : Int) (wr rn : Bool)
deriving DecidableEq
def mpC (m : Mp) : List Value := [.int .i64 m.at_, .int .i64 m.pg, .int .i64 m.inn, .int .i64 m.id, .int .i64 m.fr, .bool m.wr, .bool m.rn]
def mpV (m : Mp) : Value := .agg #[.int .i64 m.at_, .int .i64 m.pg, .int .i64 m.inn, .int .i64 m.id, .int .i64 m.fr, .bool m.wr, .bool m.rn]
/-- The cells of a mapping at an address. -/
structure MpAt (w : World) (b o : Nat) (m : Mp) : Prop where
  c0 : w.cell? ⟨b, o, none⟩ = some (.int .i64 m.at_)
  c1 : w.cell? ⟨b, o + 1, none⟩ = some (.int .i64 m.pg)
  c2 : w.cell? ⟨b, o + 2, none⟩ = some (.int .i64 m.inn)
  c3 : w.cell? ⟨b, o + 3, none⟩ = some (.int .i64 m.id)
  c4 : w.cell? ⟨b, o + 4, none⟩ = some (.int .i64 m.fr)
  c5 : w.cell? ⟨b, o + 5, none⟩ = some (.bool m.wr)
  c6 : w.cell? ⟨b, o + 6, none⟩ = some (.bool m.rn)
/-- A slice of mappings, as it lies in memory. -/
def MsAt (w : World) (p : Option Addr) (l : List Mp) : Prop :=
  ∀ j, (h : j < l.length) → ∃ b off, p = some ⟨b, off, none⟩ ∧ b < w.heap.size ∧ MpAt w b (off + j * 7) l[j]
theorem MpAt.below {w w' : World} {b o : Nat} {m : Mp} {B : Nat} (h : MpAt w b o m) (hb : Below B w w') (hB : b < B) : MpAt w' b o m :=
  ⟨(hb.cell (p := ⟨b, o, none⟩) hB).trans h.c0, (hb.cell (p := ⟨b, o + 1, none⟩) hB).trans h.c1, (hb.cell (p := ⟨b, o + 2, none⟩) hB).trans h.c2, (hb.cell (p := ⟨b, o + 3, none⟩) hB).trans h.c3, (hb.cell (p := ⟨b, o + 4, none⟩) hB).trans h.c4, (hb.cell (p := ⟨b, o + 5, none⟩) hB).trans h.c5, (hb.cell (p := ⟨b, o + 6, none⟩) hB).trans h.c6⟩
theorem MsAt.below {w w' : World} {p : Option Addr} {l : List Mp} (h : MsAt w p l) (hb : Below w.heap.size w w') : MsAt w' p l := fun j hj => by
  obtain ⟨b, off, rfl, hbl, hm⟩ := h j hj
  exact ⟨b, off, rfl, Nat.lt_of_lt_of_le hbl hb.size, hm.below hb hbl⟩
theorem MsAt.nil {w : World} {l : List Mp} (h : MsAt w none l) : l = [] := by
  cases l with
  | nil => rfl
  | cons x l => obtain ⟨b, off, h, _⟩ := h 0 (by simp); cases h
theorem ret_bool {a b : Bool} (h : a = b) : Ending.returned (.bool a) = .returned (.bool b) := by rw [h]
def rid (n : Int) : Bool := decide (1 ≤ n) && decide (n ≤ 2305843009213693951)
def goodM (m : Mp) : Bool := decide (1 ≤ m.pg ∧ m.pg ≤ 64 ∧ 0 ≤ m.at_ ∧ m.at_ + m.pg ≤ 67108864 ∧ 0 ≤ m.fr ∧ m.fr + m.pg ≤ 64) && rid m.inn && rid m.id
theorem goodM_iff (m : Mp) : goodM m = true ↔ (1 ≤ m.pg ∧ m.pg ≤ 64 ∧ 0 ≤ m.at_ ∧ m.at_ + m.pg ≤ 67108864 ∧ 0 ≤ m.fr ∧ m.fr + m.pg ≤ 64) ∧ rid m.inn = true ∧ rid m.id = true := by
  simp [goodM, and_assoc]
theorem rightId_any (n : Int) (w : World) : Calls Try.prog 32 #[.int .i64 n] w fun e w' => e = .returned (.bool (rid n)) ∧ w' = w := by
  by_cases h1 : 1 ≤ n <;> by_cases h2 : n ≤ 2305843009213693951 <;>
  · go_enter Try.func32, Try.ntmps32
    go_wp2
    go_ret
    exact ⟨by simp [rid, h1, h2], rfl⟩
/-- The block of a mapping that is handed over. -/
def mpB (m : Mp) : Obj := .cells #[.int .i64 m.at_, .int .i64 m.pg, .int .i64 m.inn, .int .i64 m.id, .int .i64 m.fr, .bool m.wr, .bool m.rn] 24
theorem end_any (m : Mp) (w : World) (h1 : -9223372036854775808 ≤ m.at_ + m.pg) (h2 : m.at_ + m.pg ≤ 9223372036854775807) : Calls Try.prog 22 #[mpV m] w fun e w' => e = .returned (.int .i64 (m.at_ + m.pg)) ∧ w' = w.alloc (mpB m) := by
  unfold mpV
  go_enter Try.func22, Try.ntmps22
  go_wp2
  go_ret
  exact ⟨rfl, rfl⟩
end Go.Proofs.Ytddllchobojmlaa
