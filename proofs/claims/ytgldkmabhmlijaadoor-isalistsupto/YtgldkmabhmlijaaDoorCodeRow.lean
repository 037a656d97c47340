/- Rows of instructions that are handed in. -/
import Derived.Test.YtgldkmabhmlijaaDoorTail
import Derived.Test.YtgldkmabhmlijaaDoorRight
namespace Go.Proofs.YtgldkmabhmlijaaDoor
open Go.RowKit Go.Sort
/-- Five cells from offset o of block b on. -/
structure CdAt (w : World) (b o : Nat) (c : Cod) : Prop where
  c0 : w.cell? ⟨b, o, none⟩ = some (.int .i64 c.op)
  c1 : w.cell? ⟨b, o + 1, none⟩ = some (.int .i64 c.a)
  c2 : w.cell? ⟨b, o + 2, none⟩ = some (.int .i64 c.b)
  c3 : w.cell? ⟨b, o + 3, none⟩ = some (.int .i64 c.c)
  c4 : w.cell? ⟨b, o + 4, none⟩ = some (.int .i64 c.n)
def CdsAt (w : World) (p : Option Addr) (l : List Cod) : Prop :=
  ∀ j, (h : j < l.length) → ∃ b off, p = some ⟨b, off, none⟩ ∧ b < w.heap.size ∧ CdAt w b (off + j * 5) l[j]
theorem CdAt.below {w w' : World} {b o : Nat} {m : Cod} {B : Nat} (h : CdAt w b o m) (hb : Below B w w') (hB : b < B) : CdAt w' b o m :=
  ⟨(hb.cell (p := ⟨b, o, none⟩) hB).trans h.c0, (hb.cell (p := ⟨b, o + 1, none⟩) hB).trans h.c1, (hb.cell (p := ⟨b, o + 2, none⟩) hB).trans h.c2, (hb.cell (p := ⟨b, o + 3, none⟩) hB).trans h.c3, (hb.cell (p := ⟨b, o + 4, none⟩) hB).trans h.c4⟩
theorem CdsAt.below {w w' : World} {p : Option Addr} {l : List Cod} (h : CdsAt w p l) (hb : Below w.heap.size w w') : CdsAt w' p l := fun j hj => by
  obtain ⟨b, off, rfl, hbl, hm⟩ := h j hj
  exact ⟨b, off, rfl, Nat.lt_of_lt_of_le hbl hb.size, hm.below hb hbl⟩
/-- The right ones among the first hundred of the first k. -/
def pik (l : List Cod) (k : Nat) : List Cod := ((l.take k).take 100).filter (fun c => rightC c)
theorem pik_right (l : List Cod) (k : Nat) : ∀ c ∈ pik l k, rightC c = true := fun _ h => (List.mem_filter.1 h).2
theorem pik_len (l : List Cod) (k : Nat) : (pik l k).length ≤ 100 := by
  have h1 := List.length_filter_le (fun c => rightC c) ((l.take k).take 100)
  have h2 := List.length_take_le 100 (l.take k)
  unfold pik; omega
theorem pik_le (l : List Cod) (k : Nat) : (pik l k).length ≤ k := by
  have h1 := List.length_filter_le (fun c => rightC c) ((l.take k).take 100)
  have h2 := List.length_take_le k l
  unfold pik
  rw [List.length_take] at h1
  omega
theorem pik_yes (l : List Cod) (k : Nat) (h : k < l.length) (hk : k < 100) (hr : rightC l[k] = true) : pik l (k + 1) = pik l k ++ [l[k]] := by
  unfold pik
  rw [List.take_take, List.take_take, show min 100 (k + 1) = k + 1 from by omega, show min 100 k = k from by omega, List.take_succ_eq_append_getElem h, List.filter_append]
  simp [hr]
theorem pik_no (l : List Cod) (k : Nat) (h : k < l.length) (hr : rightC l[k] = false ∨ 100 ≤ k) : pik l (k + 1) = pik l k := by
  unfold pik
  rw [List.take_take, List.take_take]
  by_cases hk : k < 100
  · rw [show min 100 (k + 1) = k + 1 from by omega, show min 100 k = k from by omega, List.take_succ_eq_append_getElem h, List.filter_append]
    have : rightC l[k] = false := hr.resolve_right (by omega)
    simp [this]
  · rw [show min 100 (k + 1) = 100 from by omega, show min 100 k = 100 from by omega]
end Go.Proofs.YtgldkmabhmlijaaDoor
