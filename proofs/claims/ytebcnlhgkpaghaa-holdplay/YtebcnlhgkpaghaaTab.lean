/- A table of objects as it lies in memory; find, container and Len of package hold. -/
import Derived.Test.YtebcnlhgkpaghaaObj
import Derived.Maps.OwnSet
import Derived.Maps.OwnOps
namespace Go.Proofs.Ytebcnlhgkpaghaa
open Go.RowKit Go.Sort
open Go.Maps (Keyed)
/-- What an object is. -/
structure Ob where
  id : Int
  kind : Int
  quota : Int
  used : Int
  links : Int
  df : Int
  cats : List (Int × Int)
  ents : List Int
/-- An object, and where it lies: its block, its label's row, its entries' row. -/
structure Rc where
  B : Nat
  cv : Value
  iv : Value
  ob : Ob
abbrev Tab := Int → Option Rc
def ivs (l : List Int) : List Value := l.map fun x => .int .i64 x
theorem ivs_len (l : List Int) : (ivs l).length = l.length * 1 := by unfold ivs; simp
def cellsR (r : Rc) : Array Value := #[.int .i64 r.ob.id, .int .i64 r.ob.kind, .int .i64 r.ob.quota, .int .i64 r.ob.used, .int .i64 r.ob.links, .int .i64 r.ob.df, r.cv, r.iv]
structure RAt (w : World) (base : Nat) (r : Rc) : Prop where
  blk : w.heap[r.B]? = some (.cells (cellsR r) 54 (0, 0))
  cat : w.ownsRow base 84 2 r.cv r.ob.cats.length (flat r.ob.cats)
  row : w.ownsRow base 3 1 r.iv r.ob.ents.length (ivs r.ob.ents)
  low : base ≤ r.B
/-- The blocks of an object. -/
def foot (r : Rc) (k : Nat) : Prop := k = r.B ∨ r.cv.ownBlock = some k ∨ r.iv.ownBlock = some k
/-- A pointer, as its block's number. -/
def ptrE : Value → Option (DataW Unit × List MemPlace)
  | .pointer none => some (.lit (.int .i64 (-1)), [])
  | .pointer (some ⟨B, 0, none⟩) => some (.lit (.int .i64 B), [])
  | _ => none
theorem ptrE_inv {v : Value} {B : Nat} {ps : List MemPlace} (h : ptrE v = some (.lit (.int .i64 B), ps)) : v = .pointer (some ⟨B, 0, none⟩) := by
  unfold ptrE at h
  split at h
  · simp at h
  · simp at h
    have := h.1
    have e := Int.ofNat.inj this
    subst e; rfl
  · cases h
theorem ptrE_nil {v : Value} {ps : List MemPlace} (h : ptrE v = some (.lit (.int .i64 (-1)), ps)) : v = .pointer none := by
  unfold ptrE at h
  split at h
  · rfl
  · simp at h
  · cases h
abbrev MapAt (w : World) (mb : Nat) (D : DataW Unit) : Prop := w.ownsMap Try.prog 3 ptrE mb (Maps.size D) D
abbrev ky (k : Int) : Lit := .int .i64 k
structure TAt (w : World) (base tb mb : Nat) (D : DataW Unit) (T : Tab) : Prop where
  blk : w.heap[tb]? = some (.cells #[.map (some mb)] 57 (0, 0))
  map : MapAt w mb D
  has : ∀ k, Maps.has D (ky k) = (T k).isSome
  at_ : ∀ k r, T k = some r → ∀ z, D.atKey (ky k) z = .lit (.int .i64 (r.B : Int))
  obj : ∀ k r, T k = some r → RAt w base r ∧ r.ob.id = k
  apart : ∀ i j r s k, T i = some r → T j = some s → i ≠ j → foot r k → foot s k → False
  lowt : base ≤ tb
  lowm : base ≤ mb
def tfoot (tb mb : Nat) (T : Tab) (k : Nat) : Prop := k = tb ∨ k = mb ∨ ∃ i r, T i = some r ∧ foot r k
/-- What a call leaves: nothing but F has turned, and what is F' now was F or is new. -/
structure Fm (w w' : World) (F F' : Nat → Prop) : Prop where
  os : w'.os = w.os
  tape : w'.tape = w.tape
  output : w'.output = w.output
  size : w.heap.size ≤ w'.heap.size
  same : ∀ k, k < w.heap.size → ¬ F k → w'.heap[k]? = w.heap[k]?
  new : ∀ k, F' k → F k ∨ w.heap.size ≤ k
theorem ui : Try.prog.underlying 3 = some (.int .i64) := by kernel_rfl
theorem um : Try.prog.underlying 55 = some (.map 3 47) := by kernel_rfl
theorem keyedI : Keyed Try.prog 3 := Maps.int_keyed ui
def i64 (n : Int) : Prop := -9223372036854775808 ≤ n ∧ n ≤ 9223372036854775807
theorem wf64 {n : Int} (h : i64 n) : (Lit.int .i64 n).wf = true := by
  simp [Lit.wf]
  have h1 : IntKind.min .i64 = -9223372036854775808 := by decide
  have h2 : IntKind.max .i64 = 9223372036854775807 := by decide
  unfold i64 at h
  omega
theorem keyI {n : Int} (h : i64 n) : keyOf Try.prog 3 (.int .i64 n) = some (ky n) := Maps.keyOf_int_mk ui (wf64 h)
/-- Which block is found. -/
def fnd (T : Tab) (id : Int) : Value := .pointer ((T id).map fun r => ⟨r.B, 0, none⟩)
theorem look_any {w : World} {base tb mb : Nat} {D : DataW Unit} {T : Tab} (h : TAt w base tb mb D T) (id : Int) (hi : i64 id) :
    (Instr.lookup 55 (.map (some mb)) (.int .i64 id) false).run Try.prog w = .ok (fnd T id) w := by
  obtain ⟨v, ps, hrun, hv⟩ := h.map.lookup keyedI um (z := .pointer none) (by kernel_rfl) (zd := .lit (.int .i64 (-1))) (zp := []) rfl (keyI hi)
  have hv2 : v = fnd T id := by
    unfold fnd
    cases hT : T id with
    | none =>
      have hh : Maps.has D (ky id) = false := by rw [h.has, hT]; rfl
      rw [Maps.atKey_of_not_has hh] at hv
      exact ptrE_nil hv
    | some r =>
      rw [h.at_ id r hT] at hv
      exact ptrE_inv hv
  rw [hrun, hv2]
theorem find_any {w : World} {base tb mb : Nat} {D : DataW Unit} {T : Tab} (h : TAt w base tb mb D T) (id : Int) (hi : i64 id) :
    Calls Try.prog 39 #[.pointer (some ⟨tb, 0, none⟩), .int .i64 id] w fun e w' => e = .returned (fnd T id) ∧ w' = w := by
  have hl := look_any h id hi
  have c0 : w.cell? ⟨tb, 0, none⟩ = some (.map (some mb)) := by simp [World.cell?, h.blk]
  clear h
  go_enter Try.func39, Try.ntmps39
  go_wp2
  go_ret
  exact ⟨rfl, rfl⟩
theorem find_nil (id : Int) (w : World) : Calls Try.prog 39 #[.pointer none, .int .i64 id] w fun e w' => e = .returned (.pointer none) ∧ w' = w := by
  go_enter Try.func39, Try.ntmps39
  go_wp2
  go_ret
  exact ⟨rfl, rfl⟩
theorem Len_any {w : World} {base tb mb : Nat} {D : DataW Unit} {T : Tab} (h : TAt w base tb mb D T) :
    Calls Try.prog 13 #[.pointer (some ⟨tb, 0, none⟩)] w fun e w' => e = .returned (.int .i64 (Maps.size D)) ∧ w' = w := by
  have c0 : w.cell? ⟨tb, 0, none⟩ = some (.map (some mb)) := by simp [World.cell?, h.blk]
  have hl := World.ownsMap.len h.map um 3
  clear h
  go_enter Try.func13, Try.ntmps13
  go_wp2
  go_ret
  exact ⟨rfl, rfl⟩
end Go.Proofs.Ytebcnlhgkpaghaa
