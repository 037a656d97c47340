/- A map of ints to ints, as a function; how it is looked up, put into and deleted from. -/
import Derived.Test.YtonhdkldacghoaaOb
import Derived.OwnWalk
import Derived.Laws.AppendOwn
import Derived.Laws.OwnMore
import Derived.Maps.OwnSet
import Derived.Maps.OwnOps
import Derived.Maps.AppendAt
import Derived.Lib.Hide
namespace Go.Proofs.Ytonhdkldacghoaa
open Go.RowKit Go.Sort
open Go.Maps (Keyed)

theorem wf64 {n : Int} (h : i64 n) : (Lit.int .i64 n).wf = true := by
  simp [Lit.wf]
  have h1 : IntKind.min .i64 = -9223372036854775808 := by decide
  have h2 : IntKind.max .i64 = 9223372036854775807 := by decide
  unfold i64 at h
  omega
theorem ui : Try.prog.underlying 3 = some (.int .i64) := by kernel_rfl
theorem um : Try.prog.underlying 68 = some (.map 3 3) := by kernel_rfl
theorem keyedI : Keyed Try.prog 3 := Maps.int_keyed ui
abbrev ky (k : Int) : Lit := .int .i64 k
theorem keyI {n : Int} (h : i64 n) : keyOf Try.prog 3 (.int .i64 n) = some (ky n) := Maps.keyOf_int_mk ui (wf64 h)
/-- A map in block m with n entries that reads as f. -/
def MI (w : World) (m n : Nat) (f : Int → Option Nat) : Prop := ∃ D : DataW Unit, w.ownsMap Try.prog 3 (plainElem Try.prog 3) m n D ∧ Maps.size D = n ∧ ∀ k, i64 k → Maps.has D (ky k) = (f k).isSome ∧ ∀ i, f k = some i → ∀ z, D.atKey (ky k) z = .lit (.int .i64 (i : Int))
def mapSize (w : World) (m : Nat) : Nat := match w.heap[m]? with
  | some (.map es _) => es.size
  | _ => 0
section
variable {w : World} {m n : Nat} {f : Int → Option Nat}
theorem MI.lt (h : MI w m n f) : m < w.heap.size := by obtain ⟨D, h, _⟩ := h; exact h.lt
theorem MI.same {w' : World} (h : MI w m n f) (hs : w'.heap[m]? = w.heap[m]?) : MI w' m n f := by
  obtain ⟨D, ⟨es, clock, hb, r⟩, r2⟩ := h
  exact ⟨D, ⟨es, clock, hs.trans hb, r⟩, r2⟩
theorem MI.size (h : MI w m n f) : mapSize w m = n := by
  obtain ⟨D, ⟨es, clock, hb, F, hle, hD⟩, h2, _⟩ := h
  have : Maps.size D = es.size := by rw [hD]; simp [Maps.size, length_sorted]
  unfold mapSize; rw [hb]; simp only []; omega
theorem MI.notCells (h : MI w m n f) {B : Nat} {c : Array Value} {u : TypeId} {z : Nat × Nat} (hB : w.heap[B]? = some (.cells c u z)) : m ≠ B := by
  obtain ⟨D, ⟨es, clock, hb, r⟩, r2⟩ := h
  intro e; subst e; rw [hb] at hB; cases hB
theorem MI.made (w : World) : MI (w.alloc (.map #[] 0)) w.heap.size 0 (fun _ => none) :=
  ⟨.map [], World.ownsMap_made (H := Unit) w Try.prog 3 _, rfl, fun k _ => ⟨rfl, fun B h => by cases h⟩⟩
theorem MI.congr (h : MI w m n f) {g : Int → Option Nat} (hg : ∀ k, g k = f k) : MI w m n g := by
  have : g = f := funext hg
  rw [this]; exact h
theorem MI.look (h : MI w m n f) {k : Int} (hk : i64 k) :
    (Instr.lookup 68 (.map (some m)) (.int .i64 k) true).run Try.prog w = .ok (.tuple #[.int .i64 (((f k).getD 0 : Nat) : Int), .bool (f k).isSome]) w := by
  obtain ⟨D, h1, _, h3⟩ := h
  obtain ⟨v, ps, hrun, hR⟩ := World.ownsMap.look_ok h1 keyedI um (z := .int .i64 0) (zd := .lit (.int .i64 0)) (zp := []) (by kernel_rfl) (plainElem_int ui (by decide)) (keyI hk)
  obtain ⟨vi, rfl, hvi, hwv⟩ := plainElem_int_inv ui hR
  obtain ⟨ha, hb⟩ := h3 k hk
  have hv : vi = (((f k).getD 0 : Nat) : Int) := by
    have e := congrArg Prod.fst hvi
    simp only at e
    cases hf : f k with
    | none =>
      have hh : Maps.has D (ky k) = false := by rw [ha, hf]; rfl
      rw [Maps.atKey_of_not_has hh] at e
      simp at e; rw [← e]; rfl
    | some i =>
      rw [hb i hf] at e
      simp at e; rw [← e]; rfl
  rw [hrun, hv, ha]
open Classical in
noncomputable def updI (f : Int → Option Nat) (k : Int) (o : Option Nat) : Int → Option Nat := fun x => if x = k then o else f x
theorem ky_ne {a b : Int} (h : a ≠ b) : ky a ≠ ky b := fun e => h (by simpa [ky] using e)
theorem MI.put (h : MI w m n f) (hn : n < 1000000) {k : Int} (hk : i64 k) (i : Nat) (hi : i < 1000000) :
    ∃ w', (Instr.mapUpdate 68 (.map (some m)) (.int .i64 k) (.int .i64 (i : Int))).run Try.prog w = .ok () w' ∧ MI w' m (if (f k).isSome then n else n + 1) (updI f k (some i)) ∧ w.grownBy w' (some m) ∧ w'.heap.size = w.heap.size := by
  obtain ⟨D, h1, h2, h3⟩ := h
  have hkey := keyI hk
  obtain ⟨w', hrun, hm, hg⟩ := h1.store keyedI um (by unfold maxLen; omega) hkey (val := .int .i64 (i : Int)) (d := .lit (.int .i64 (i : Int))) (ps := []) (plainElem_int ui (wf64 ⟨by omega, by omega⟩))
  have hkl := keyedI.key hkey
  have hsz : Maps.size (D.put (ky k) (.lit (.int .i64 (i : Int)))) = if (f k).isSome then n else n + 1 := by
    rw [Maps.size_put (h1.tidy keyedI), (h3 k hk).1, h2]
    try rfl
  have hs : w'.heap.size = w.heap.size := by
    obtain ⟨_, _, _, _, _, rfl⟩ := hg
    unfold ChangeMaps.setBlock; simp
  refine ⟨w', hrun, ⟨_, ?_, hsz, ?_⟩, hg.grown, hs⟩
  · obtain ⟨es, clock, hb, F, hle, hD⟩ := hm
    refine ⟨es, clock, hb, F, ?_, hD⟩
    have : Maps.size (D.put (ky k) (.lit (.int .i64 (i : Int)))) = es.size := by rw [hD]; simp [Maps.size, length_sorted]
    omega
  · intro x hx
    unfold updI
    by_cases hkk : x = k
    · subst hkk
      rw [if_pos rfl]
      exact ⟨by rw [Maps.has_put_same h1.isMap hkl]; rfl, fun B' hB' z => by cases hB'; exact Maps.atKey_put_same h1.isMap hkl _ _⟩
    · rw [if_neg hkk]
      exact ⟨by rw [Maps.has_put_other (by simpa using ky_ne hkk)]; exact (h3 x hx).1, fun B' hB' z => by rw [Maps.atKey_put_other (by simpa using ky_ne hkk)]; exact (h3 x hx).2 B' hB' z⟩
theorem MI.del (h : MI w m n f) {k : Int} (hk : i64 k) (ty : TypeId) :
    ∃ w', (Builtin.delete_ #[68, 3] ty #[.map (some m), .int .i64 k]).run Try.prog w = .ok (.tuple #[]) w' ∧ MI w' m (if (f k).isSome then n - 1 else n) (updI f k none) ∧ w.grownBy w' (some m) ∧ w'.heap.size = w.heap.size := by
  obtain ⟨D, h1, h2, h3⟩ := h
  have hkey := keyI hk
  obtain ⟨w', hrun, hm, hg⟩ := h1.drop keyedI um hkey ty
  have hkl := keyedI.key hkey
  have hsz : Maps.size (D.del (ky k)) = if (f k).isSome then n - 1 else n := by
    have hd := Maps.size_del (k := ky k) (h1.tidy keyedI)
    rw [(h3 k hk).1, h2] at hd
    split <;> simp_all <;> omega
  have hs : w'.heap.size = w.heap.size := by
    obtain ⟨_, _, _, _, _, rfl⟩ := hg
    unfold ChangeMaps.setBlock; simp
  refine ⟨w', hrun, ⟨_, ?_, hsz, ?_⟩, hg.grown, hs⟩
  · obtain ⟨es, clock, hb, F, hle, hD⟩ := hm
    refine ⟨es, clock, hb, F, ?_, hD⟩
    have : Maps.size (D.del (ky k)) = es.size := by rw [hD]; simp [Maps.size, length_sorted]
    omega
  · intro x hx
    unfold updI
    by_cases hkk : x = k
    · subst hkk
      rw [if_pos rfl]
      exact ⟨by rw [Maps.has_del_same]; rfl, fun B' hB' z => by cases hB'⟩
    · rw [if_neg hkk]
      exact ⟨by rw [Maps.has_del_other (by simpa using ky_ne hkk)]; exact (h3 x hx).1, fun B' hB' z => by rw [Maps.atKey_del_other (by simpa using ky_ne hkk)]; exact (h3 x hx).2 B' hB' z⟩
end
end Go.Proofs.Ytonhdkldacghoaa
