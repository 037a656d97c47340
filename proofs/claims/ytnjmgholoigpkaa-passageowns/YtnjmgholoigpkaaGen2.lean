/- Rows that a statement makes of its own. -/
import Derived.Test.YtnjmgholoigpkaaSem2
import Derived.Deep.Cut
namespace Go.Proofs.Ytnjmgholoigpkaa
open Go.RowKit Go.Sort
/-- A row of numbers that lies at B or behind. -/
def OwnI (B : Nat) (cs : List Int) (v : Value) (W : World) : Prop := ∃ g cap, v = .slice (some ⟨g, 0, none⟩) cs.length cap ∧ W.ownsRow B 3 1 v cs.length (icells cs)
theorem OwnI.below {B : Nat} {cs : List Int} {v : Value} {W W' : World} (h : OwnI B cs v W) (hb : Below W.heap.size W W') : OwnI B cs v W' := by
  obtain ⟨g, cap, h1, h2⟩ := h
  exact ⟨g, cap, h1, own_belowN h2 hb (Nat.le_refl _)⟩
theorem rNamed_o {B : Nat} {ls : List ML} {v : Value} {W : World} (h : LsV ls v W) (hn : ls.length ≤ 16) (hB : B ≤ W.heap.size) : Calls Try.prog 27 #[v] W fun e W' => ∃ v', e = .returned v' ∧ Below W.heap.size W W' ∧ OwnI B (nmM ls) v' W' := by
  refine (rNamed_c h hn).mono ?_
  rintro e W' ⟨v', rfl, hb, g, cap, rfl, hown⟩
  exact ⟨_, rfl, hb, g, cap, rfl, Joins.ownsRow_le hown hB⟩
/-- A row of one number. -/
def I1V (x : Int) (v : Value) (W : World) : Prop := ∃ g, v = .slice (some ⟨g, 0, none⟩) 1 1 ∧ g < W.heap.size ∧ W.cell? ⟨g, 0, none⟩ = some (.int .i64 x)
theorem I1V.below {x : Int} {v : Value} {W W' : World} (h : I1V x v W) (hb : Below W.heap.size W W') : I1V x v W' := by
  obtain ⟨g, h1, h2, h3⟩ := h
  exact ⟨g, h1, Nat.lt_of_lt_of_le h2 hb.size, (hb.cell (p := ⟨g, 0, none⟩) h2).trans h3⟩
theorem ent_gatehouseref01_Named : Enters 27 := fun args W => by go_simp
theorem ent_gatehouseref01_At : Enters 28 := fun args W => by go_simp
theorem rAt_c' {l : ML} {v u : Value} {W : World} {c : Int} (h : LV l v W) (hu : u = .int .i64 c) : Calls Try.prog 28 #[v, u] W fun e W' => ∃ v', e = .returned v' ∧ Below W.heap.size W W' ∧ v' = .int .i64 (aM l c) := by
  subst hu
  refine (rAt_c h c).mono ?_
  rintro e W' ⟨rfl, hb⟩
  exact ⟨_, rfl, hb, rfl⟩
section
variable {ev : Operand → Value} {W : World} {dst : Option Nat} {ty : TypeId} {pos : String} {af : Array Edge} {gd : Option (Nat × Bool)}
theorem run_int1 {c : Int} {x : Operand} (hx : ev x = .int .i64 c) :
    ∃ v W', (execOp ev { dst := dst, op := .buildSlice 43 1 #[(0, x)], type := ty, pos := pos, after := af, guard := gd }).run Try.prog W = .ok (.value v) W' ∧ Below W.heap.size W W' ∧ I1V c v W' := by
  refine ⟨.slice (some ⟨W.heap.size, 0, none⟩) 1 1, W.alloc (.cells #[.int .i64 c] 3), ?_, ?_, ?_⟩
  · go_simp
  · go_grown
  · exact ⟨W.heap.size, rfl, by simp, by simp [go_sem]⟩
theorem run_neE {a b : Int} {x y : Operand} {t : TypeId} (hx : ev x = .int .i64 a) (hy : ev y = .int .i64 b) :
    (execOp ev { dst := dst, op := .binOp .neq 29 x y t, type := ty, pos := pos, after := af, guard := gd }).run Try.prog W = .ok (.value (.bool (a != b))) W := by
  go_simp
end
/- What Make and Enter say, where they say yes. -/
theorem allow4_0 {a b c d : Bool} (h : allowI [a, b, c, d] = 0) : a = true ∧ b = true ∧ c = true ∧ d = true := by
  revert h; cases a <;> cases b <;> cases c <;> cases d <;> decide
theorem allow2_0 {a b : Bool} (h : allowI [a, b] = 0) : a = true ∧ b = true := by
  revert h; cases a <;> cases b <;> decide
theorem has_at {l : ML} {v c : Int} (h : hasS l.1 l.2 v = false) : aM l c ≠ v := by
  unfold hasS at h
  rw [Bool.or_eq_false_iff, List.any_eq_false] at h
  unfold aM
  rcases at_or (d := l.1) (c := c) l.2 with e | ⟨x, hx, _, e⟩
  · rw [e]; simpa using h.2
  · rw [e]; have := h.1 x hx; simpa using this
theorem free_no0 {l : ML} (h : freeS l.1 l.2 = true) (c : Int) : aM l c ≠ 0 := by
  unfold freeS at h
  rw [Bool.and_eq_true] at h
  exact has_at (by simpa using h.2)
theorem ot_ne {x : Int} (h : x ≠ 0) : ot 0 5 x = x := by unfold ot; rw [if_neg (by simpa using h)]
/-- P7.2 of Make, category by category. -/
theorem make_keeps {t c box l : ML} (ht : OkL t) (hb : OkL box) (hl : OkL l) (hf : freeS l.1 l.2 = true) (h : makeI t c box l = 0) (k : Int) :
    aM t k ≤ aM l k ∧ (aM box k ≤ aM l k ∨ aM box k ≤ 2) ∧ (aM t k = 0 ∨ aM box k = aM t k) := by
  unfold makeI at h
  obtain ⟨h1, h2, h3, h4⟩ := allow4_0 h
  have e1 := (alt_iff ht hb).1 h1 k
  have e2 := (atM1_iff ht hl).1 h2 k
  have e4 := (atM2_iff hb hl.up (ok_one 2 (by decide) (by decide))).1 h4 k
  rw [aM_up hl, ot_ne (free_no0 hf k)] at e4
  have e5 : aM ((2, []) : ML) k = 2 := rfl
  rw [e5] at e4
  refine ⟨e2, by omega, ?_⟩
  by_cases h0 : aM t k = 0
  · exact .inl h0
  · rw [ot_ne h0] at e1; exact .inr (by omega)
end Go.Proofs.Ytnjmgholoigpkaa
