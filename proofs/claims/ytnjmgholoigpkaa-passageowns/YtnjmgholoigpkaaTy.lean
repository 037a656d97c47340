/- Labels, rows of labels, of numbers and closures as values, by what they say alone; all of it stays as long as nothing old is changed. -/
import Derived.Test.YtnjmgholoigpkaaMono
import Derived.Test.YtnjmgholoigpkaaConcat
import Derived.Test.YtnjmgholoigpkaaLooks
namespace Go.Proofs.Ytnjmgholoigpkaa
open Go.RowKit Go.Sort
abbrev ML := Int × List (Int × Int)
def aM (l : ML) (c : Int) : Int := atS l.1 l.2 c
/-- A label in a block. -/
def LBox (l : ML) (W : World) (b o : Nat) : Prop := ∃ p cap, b < W.heap.size ∧ W.cell? ⟨b, o, none⟩ = some (.int .i64 l.1) ∧ W.cell? ⟨b, o + 1, none⟩ = some (.slice p l.2.length cap) ∧ CatsAt W p l.2 ∧ l.2.length ≤ cap ∧ l.2.length ≤ 16
/-- A label as a value. -/
def LV (l : ML) (v : Value) (W : World) : Prop := ∃ p cap, v = .agg #[.int .i64 l.1, .slice p l.2.length cap] ∧ CatsAt W p l.2 ∧ l.2.length ≤ cap ∧ l.2.length ≤ 16
/-- A row of labels. -/
def LsV (ls : List ML) (v : Value) (W : World) : Prop := ∃ b, v = .slice (some ⟨b, 0, none⟩) ls.length ls.length ∧ b < W.heap.size ∧ ∀ j (h : j < ls.length), LBox ls[j] W b (j * 2)
/-- A row of numbers. -/
def IV (cs : List Int) (v : Value) (W : World) : Prop := ∃ base, W.ownsRow base 3 1 v cs.length (icells cs)
theorem LBox.below {l : ML} {W W' : World} {b o : Nat} (h : LBox l W b o) (hb : Below W.heap.size W W') : LBox l W' b o := by
  obtain ⟨p, cap, h1, h2, h3, h4, h5⟩ := h
  exact ⟨p, cap, Nat.lt_of_lt_of_le h1 hb.size, (hb.cell (p := ⟨b, o, none⟩) h1).trans h2, (hb.cell (p := ⟨b, o + 1, none⟩) h1).trans h3, h4.below hb, h5⟩
theorem LV.below {l : ML} {v : Value} {W W' : World} (h : LV l v W) (hb : Below W.heap.size W W') : LV l v W' := by
  obtain ⟨p, cap, h1, h4, h5⟩ := h
  exact ⟨p, cap, h1, h4.below hb, h5⟩
theorem LsV.below {ls : List ML} {v : Value} {W W' : World} (h : LsV ls v W) (hb : Below W.heap.size W W') : LsV ls v W' := by
  obtain ⟨b, h1, h2, h3⟩ := h
  exact ⟨b, h1, Nat.lt_of_lt_of_le h2 hb.size, fun j hj => (h3 j hj).below hb⟩
theorem IV.below {cs : List Int} {v : Value} {W W' : World} (h : IV cs v W) (hb : Below W.heap.size W W') : IV cs v W' := by
  obtain ⟨base, h1⟩ := h
  exact ⟨base, own_belowN h1 hb (Nat.le_refl _)⟩
theorem LV.box {l : ML} {v : Value} {W : World} (h : LV l v W) : ∃ p cap, v = .agg #[.int .i64 l.1, .slice p l.2.length cap] := by
  obtain ⟨p, cap, h, _⟩ := h
  exact ⟨p, cap, h⟩
/-- A row of labels as the older texts have it. -/
theorem labs_of {W : World} {b : Nat} : ∀ (ls : List ML) (o : Nat), (∀ j (h : j < ls.length), LBox ls[j] W b ((o + j) * 2)) → ∃ Ls : List Lab, Ls.length = ls.length ∧ (∀ j (h : j < Ls.length) (h' : j < ls.length), Ls[j].d = ls[j].1 ∧ Ls[j].xs = ls[j].2 ∧ W.cell? ⟨b, (o + j) * 2, none⟩ = some (.int .i64 Ls[j].d) ∧ W.cell? ⟨b, (o + j) * 2 + 1, none⟩ = some (.slice Ls[j].p Ls[j].xs.length Ls[j].cap) ∧ CatsAt W Ls[j].p Ls[j].xs ∧ Ls[j].xs.length ≤ maxLen ∧ Ls[j].xs.length ≤ 16)
  | [], _, _ => ⟨[], rfl, fun j h => absurd h (by simp)⟩
  | l :: ls, o, h => by
    obtain ⟨Ls, hl, hL⟩ := labs_of (W := W) (b := b) ls (o + 1) (fun j hj => by have := h (j + 1) (by simp; omega); simpa [Nat.add_assoc, Nat.add_comm 1 j] using this)
    obtain ⟨p, cap, h1, h2, h3, h4, h5, h6⟩ := h 0 (by simp)
    refine ⟨⟨l.1, p, cap, l.2⟩ :: Ls, by simp [hl], fun j hj hj' => ?_⟩
    cases j with
    | zero => exact ⟨rfl, rfl, h2, h3, h4, by unfold maxLen; simp at h6 ⊢; omega, h6⟩
    | succ j =>
      have := hL j (by simpa using hj) (by simpa using hj')
      simpa [Nat.add_assoc, Nat.add_comm 1 j] using this
theorem LsV.labs {ls : List ML} {v : Value} {W : World} (h : LsV ls v W) : ∃ b Ls, v = .slice (some ⟨b, 0, none⟩) Ls.length Ls.length ∧ b < W.heap.size ∧ LabsAt W b Ls ∧ Ls.map (fun L => (L.d, L.xs)) = ls ∧ ∀ L ∈ Ls, L.xs.length ≤ 16 := by
  obtain ⟨b, rfl, hb, hL⟩ := h
  obtain ⟨Ls, hl, hLs⟩ := labs_of (W := W) (b := b) ls 0 (by simpa using hL)
  refine ⟨b, Ls, by rw [hl], hb, fun j hj => ?_, ?_, fun L hLm => ?_⟩
  · have := hLs j hj (by omega)
    simp only [Nat.zero_add] at this
    exact ⟨this.2.2.1, this.2.2.2.1, this.2.2.2.2.1, this.2.2.2.2.2.1⟩
  · apply List.ext_getElem (by simp [hl])
    intro j h1 h2
    have := hLs j (by simpa using h1) h2
    simp only [List.getElem_map]
    rw [Prod.ext_iff]; exact ⟨this.1, this.2.1⟩
  · obtain ⟨j, hj, rfl⟩ := List.getElem_of_mem hLm
    exact (hLs j hj (by omega)).2.2.2.2.2.2
/- The program's label functions, as they are called. -/
theorem At_c {l : ML} {v : Value} {W : World} (h : LV l v W) (c : Int) : Calls Try.prog 82 #[v, .int .i64 c] W fun e W' => e = .returned (.int .i64 (aM l c)) ∧ Below W.heap.size W W' := by
  obtain ⟨p, cap, rfl, h1, h2, h3⟩ := h
  exact At_any l.1 c p cap l.2 W (by unfold maxLen; omega) h1
theorem rAt_c {l : ML} {v : Value} {W : World} (h : LV l v W) (c : Int) : Calls Try.prog 28 #[v, .int .i64 c] W fun e W' => e = .returned (.int .i64 (aM l c)) ∧ Below W.heap.size W W' := by
  obtain ⟨p, cap, rfl, h1, h2, h3⟩ := h
  exact refAt_any l.1 c p cap l.2 W (by unfold maxLen; omega) h1
def upM (l : ML) : ML := (upD l.1, upS l.1 l.2)
theorem Up_c {l : ML} {v : Value} {W : World} (h : LV l v W) : Calls Try.prog 34 #[v] W fun e W' => ∃ v', e = .returned v' ∧ Below W.heap.size W W' ∧ LV (upM l) v' W' := by
  obtain ⟨p, cap, rfl, h1, h2, h3⟩ := h
  refine (Up_any l.1 p cap l.2 W (by omega) h1).mono ?_
  rintro e W' ⟨v, rfl, hown, hb⟩
  obtain ⟨p', cap', rfl, hc, hcap⟩ := own_out hown
  exact ⟨_, rfl, hb, p', cap', rfl, hc, hcap, Nat.le_trans (upS_le l.1 l.2) h3⟩
theorem Alters_c {t o : ML} {v u : Value} {W : World} (h : LV t v W) (h' : LV o u W) : Calls Try.prog 32 #[v, u] W fun e W' => ∃ v', e = .returned v' ∧ Below W.heap.size W W' ∧ v' = .bool (altersS t.1 o.1 t.2 o.2) := by
  obtain ⟨p, cap, rfl, h1, h2, h3⟩ := h
  obtain ⟨p', cap', rfl, h1', h2', h3'⟩ := h'
  refine (Alters_any t.1 o.1 p p' cap cap' t.2 o.2 W (by omega) (by unfold maxLen; omega) (by omega) (by omega) h1 h1').mono ?_
  rintro e W' ⟨rfl, hb⟩
  exact ⟨_, rfl, hb, rfl⟩
theorem Plain_c {l : ML} {v : Value} {W : World} (h : LV l v W) : Calls Try.prog 40 #[v] W fun e W' => ∃ v', e = .returned v' ∧ Below W.heap.size W W' ∧ v' = .bool (plainS l.1 l.2) := by
  obtain ⟨p, cap, rfl, h1, h2, h3⟩ := h
  refine (Plain_any l.1 p cap l.2 W (by unfold maxLen; omega) h1).mono ?_
  rintro e W' ⟨rfl, hb⟩
  exact ⟨_, rfl, hb, rfl⟩
theorem Free_c {l : ML} {v : Value} {W : World} (h : LV l v W) : Calls Try.prog 41 #[v] W fun e W' => ∃ v', e = .returned v' ∧ Below W.heap.size W W' ∧ v' = .bool (freeS l.1 l.2) := by
  obtain ⟨p, cap, rfl, h1, h2, h3⟩ := h
  refine (Free_any l.1 p cap l.2 W (by unfold maxLen; omega) h1).mono ?_
  rintro e W' ⟨rfl, hb⟩
  exact ⟨_, rfl, hb, rfl⟩
end Go.Proofs.Ytnjmgholoigpkaa
