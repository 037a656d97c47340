/- Labels of any length, as values, as far as the statements look at them before they know them right. -/
import Derived.Test.YtnjmgholoigpkaaSem
import Derived.Test.YtnjmgholoigpkaaLv
namespace Go.Proofs.Ytnjmgholoigpkaa
open Go.RowKit Go.Sort
def LBg (l : ML) (W : World) (b o : Nat) : Prop := ∃ p cap, b < W.heap.size ∧ W.cell? ⟨b, o, none⟩ = some (.int .i64 l.1) ∧ W.cell? ⟨b, o + 1, none⟩ = some (.slice p l.2.length cap) ∧ CatsAt W p l.2 ∧ l.2.length ≤ cap ∧ l.2.length ≤ maxLen
def LVg (l : ML) (v : Value) (W : World) : Prop := ∃ p cap, v = .agg #[.int .i64 l.1, .slice p l.2.length cap] ∧ CatsAt W p l.2 ∧ l.2.length ≤ cap ∧ l.2.length ≤ maxLen
def LsVg (ls : List ML) (v : Value) (W : World) : Prop := ∃ b, v = .slice (some ⟨b, 0, none⟩) ls.length ls.length ∧ b < W.heap.size ∧ ∀ j (h : j < ls.length), LBg ls[j] W b (j * 2)
theorem LBg.below {l : ML} {W W' : World} {b o : Nat} (h : LBg l W b o) (hb : Below W.heap.size W W') : LBg l W' b o := by
  obtain ⟨p, cap, h1, h2, h3, h4, h5⟩ := h
  exact ⟨p, cap, Nat.lt_of_lt_of_le h1 hb.size, (hb.cell (p := ⟨b, o, none⟩) h1).trans h2, (hb.cell (p := ⟨b, o + 1, none⟩) h1).trans h3, h4.below hb, h5⟩
theorem LVg.below {l : ML} {v : Value} {W W' : World} (h : LVg l v W) (hb : Below W.heap.size W W') : LVg l v W' := by
  obtain ⟨p, cap, h1, h4, h5⟩ := h
  exact ⟨p, cap, h1, h4.below hb, h5⟩
theorem LsVg.below {ls : List ML} {v : Value} {W W' : World} (h : LsVg ls v W) (hb : Below W.heap.size W W') : LsVg ls v W' := by
  obtain ⟨b, h1, h2, h3⟩ := h
  exact ⟨b, h1, Nat.lt_of_lt_of_le h2 hb.size, fun j hj => (h3 j hj).below hb⟩
theorem LBg.ok {l : ML} {W : World} {b o : Nat} (h : LBg l W b o) (h16 : l.2.length ≤ 16) : LBox l W b o := by
  obtain ⟨p, cap, h1, h2, h3, h4, h5, _⟩ := h
  exact ⟨p, cap, h1, h2, h3, h4, h5, h16⟩
theorem labs_g {W : World} {b : Nat} : ∀ (ls : List ML) (o : Nat), (∀ j (h : j < ls.length), LBg ls[j] W b ((o + j) * 2)) → ∃ Ls : List Lab, Ls.length = ls.length ∧ (∀ j (h : j < Ls.length) (h' : j < ls.length), Ls[j].d = ls[j].1 ∧ Ls[j].xs = ls[j].2 ∧ W.cell? ⟨b, (o + j) * 2, none⟩ = some (.int .i64 Ls[j].d) ∧ W.cell? ⟨b, (o + j) * 2 + 1, none⟩ = some (.slice Ls[j].p Ls[j].xs.length Ls[j].cap) ∧ CatsAt W Ls[j].p Ls[j].xs ∧ Ls[j].xs.length ≤ maxLen)
  | [], _, _ => ⟨[], rfl, fun j h => absurd h (by simp)⟩
  | l :: ls, o, h => by
    obtain ⟨Ls, hl, hL⟩ := labs_g (W := W) (b := b) ls (o + 1) (fun j hj => by have := h (j + 1) (by simp; omega); simpa [Nat.add_assoc, Nat.add_comm 1 j] using this)
    obtain ⟨p, cap, h1, h2, h3, h4, h5, h6⟩ := h 0 (by simp)
    refine ⟨⟨l.1, p, cap, l.2⟩ :: Ls, by simp [hl], fun j hj hj' => ?_⟩
    cases j with
    | zero => exact ⟨rfl, rfl, h2, h3, h4, h6⟩
    | succ j =>
      have := hL j (by simpa using hj) (by simpa using hj')
      simpa [Nat.add_assoc, Nat.add_comm 1 j] using this
def rightM (l : ML) : Bool := rightS l.1 l.2
theorem right_c {ls : List ML} {v : Value} {W : World} (h : LsVg ls v W) (hn : ls.length ≤ 16) : Calls Try.prog 10 #[v] W fun e W' => ∃ v', e = .returned v' ∧ Below W.heap.size W W' ∧ v' = .bool (ls.all rightM) := by
  obtain ⟨b, rfl, hb, hL⟩ := h
  obtain ⟨Ls, hl, hLs⟩ := labs_g (W := W) (b := b) ls 0 (by simpa using hL)
  have hLA : LabsAt W b Ls := fun j hj => by
    have := hLs j hj (by omega)
    simp only [Nat.zero_add] at this
    exact ⟨this.2.2.1, this.2.2.2.1, this.2.2.2.2.1, this.2.2.2.2.2⟩
  have he : Ls.map (fun L => (L.d, L.xs)) = ls := by
    apply List.ext_getElem (by simp [hl])
    intro j h1 h2
    have := hLs j (by simpa using h1) h2
    simp only [List.getElem_map]
    rw [Prod.ext_iff]; exact ⟨this.1, this.2.1⟩
  rw [← hl]
  refine (right_any b Ls W hb (by omega) hLA).mono ?_
  rintro e W' ⟨rfl, hb'⟩
  refine ⟨_, rfl, hb', ?_⟩
  rw [← he]
  unfold allRight rightM
  rw [List.all_map]; rfl
theorem gPlain_c {l : ML} {v : Value} {W : World} (h : LVg l v W) : Calls Try.prog 24 #[v] W fun e W' => ∃ v', e = .returned v' ∧ Below W.heap.size W W' ∧ v' = .bool (plainS l.1 l.2) := by
  obtain ⟨p, cap, rfl, h1, h2, h3⟩ := h
  refine (refPlain_any l.1 p cap l.2 W h3 h1).mono ?_
  rintro e W' ⟨rfl, hb⟩
  exact ⟨_, rfl, hb, rfl⟩
theorem gFree_c {l : ML} {v : Value} {W : World} (h : LVg l v W) : Calls Try.prog 29 #[v] W fun e W' => ∃ v', e = .returned v' ∧ Below W.heap.size W W' ∧ v' = .bool (freeS l.1 l.2) := by
  obtain ⟨p, cap, rfl, h1, h2, h3⟩ := h
  refine (refFree_any l.1 p cap l.2 W h3 h1).mono ?_
  rintro e W' ⟨rfl, hb⟩
  exact ⟨_, rfl, hb, rfl⟩
theorem right16 {l : ML} (h : rightM l = true) : l.2.length ≤ 16 := (right_rise h).2.2.1
theorem plain_right {l : ML} (h : plainS l.1 l.2 = true) : rightM l = true := by
  unfold plainS at h; rw [Bool.and_eq_true] at h; exact h.1
theorem free_plain {l : ML} (h : freeS l.1 l.2 = true) : plainS l.1 l.2 = true := by
  unfold freeS at h; rw [Bool.and_eq_true] at h; exact h.1
section
variable {ev : Operand → Value} {W : World} {dst : Option Nat} {ty : TypeId} {pos : String} {af : Array Edge} {gd : Option (Nat × Bool)}
theorem run_loadLg {l : ML} {b o : Nat} {x : Operand} (hx : ev x = .pointer (some ⟨b, o, none⟩)) (h : LBg l W b o) :
    ∃ v, (execOp ev { dst := dst, op := .load 24 x, type := ty, pos := pos, after := af, guard := gd }).run Try.prog W = .ok (.value v) W ∧ LVg l v W := by
  obtain ⟨p, cap, hb, h0, h1, hc, hcap, h16⟩ := h
  refine ⟨.agg #[.int .i64 l.1, .slice p l.2.length cap], ?_, p, cap, rfl, hc, hcap, h16⟩
  clear hc hcap h16
  go_simp
theorem run_fa0 {b o : Nat} {x : Operand} (hx : ev x = .pointer (some ⟨b, o, none⟩)) :
    (execOp ev { dst := dst, op := .fieldAddr 26 x 0, type := ty, pos := pos, after := af, guard := gd }).run Try.prog W = .ok (.value (.pointer (some ⟨b, o, none⟩))) W := by
  go_simp
theorem run_fa1 {b o : Nat} {x : Operand} (hx : ev x = .pointer (some ⟨b, o, none⟩)) :
    (execOp ev { dst := dst, op := .fieldAddr 26 x 1, type := ty, pos := pos, after := af, guard := gd }).run Try.prog W = .ok (.value (.pointer (some ⟨b, o + 2, none⟩))) W := by
  go_simp
theorem run_fd0 {b o : Nat} {x : Operand} (hx : ev x = .pointer (some ⟨b, o, none⟩)) :
    (execOp ev { dst := dst, op := .fieldAddr 24 x 0, type := ty, pos := pos, after := af, guard := gd }).run Try.prog W = .ok (.value (.pointer (some ⟨b, o, none⟩))) W := by
  go_simp
theorem run_slice2g {l m : ML} {v u : Value} {x y : Operand} (hx : ev x = v) (hy : ev y = u) (h : LVg l v W) (h' : LVg m u W) :
    ∃ v W', (execOp ev { dst := dst, op := .buildSlice 45 2 #[(0, x), (1, y)], type := ty, pos := pos, after := af, guard := gd }).run Try.prog W = .ok (.value v) W' ∧ Below W.heap.size W W' ∧ LsVg [l, m] v W' := by
  obtain ⟨p, cap, rfl, hc, hcap, h16⟩ := h
  obtain ⟨p', cap', rfl, hc', hcap', h16'⟩ := h'
  refine ⟨.slice (some ⟨W.heap.size, 0, none⟩) 2 2, W.alloc (.cells #[.int .i64 l.1, .slice p l.2.length cap, .int .i64 m.1, .slice p' m.2.length cap'] 24), ?_, ?_, ?_⟩
  · clear hc hcap h16 hc' hcap' h16'
    go_simp
  · go_grown
  · exact ⟨_, rfl, by simp, fun j hj => by
      have hj2 : j < 2 := by simpa using hj
      rcases Nat.lt_or_ge j 1 with h0 | h0
      · obtain rfl : j = 0 := by omega
        exact ⟨p, cap, by simp, by simp [go_sem], by simp [go_sem], hc.below (by go_grown), hcap, h16⟩
      · obtain rfl : j = 1 := by omega
        exact ⟨p', cap', by simp, by simp [go_sem], by simp [go_sem], hc'.below (by go_grown), hcap', h16'⟩⟩
theorem run_slice3g {l m k : ML} {v u z : Value} {x y t : Operand} (hx : ev x = v) (hy : ev y = u) (ht : ev t = z) (h : LVg l v W) (h' : LVg m u W) (h'' : LVg k z W) :
    ∃ v W', (execOp ev { dst := dst, op := .buildSlice 45 3 #[(0, x), (1, y), (2, t)], type := ty, pos := pos, after := af, guard := gd }).run Try.prog W = .ok (.value v) W' ∧ Below W.heap.size W W' ∧ LsVg [l, m, k] v W' := by
  obtain ⟨p, cap, rfl, hc, hcap, h16⟩ := h
  obtain ⟨p', cap', rfl, hc', hcap', h16'⟩ := h'
  obtain ⟨q, caq, rfl, hd, hcaq, hd16⟩ := h''
  refine ⟨.slice (some ⟨W.heap.size, 0, none⟩) 3 3, W.alloc (.cells #[.int .i64 l.1, .slice p l.2.length cap, .int .i64 m.1, .slice p' m.2.length cap', .int .i64 k.1, .slice q k.2.length caq] 24), ?_, ?_, ?_⟩
  · clear hc hcap h16 hc' hcap' h16' hd hcaq hd16
    go_simp
  · go_grown
  · exact ⟨_, rfl, by simp, fun j hj => by
      have hj2 : j < 3 := by simpa using hj
      rcases Nat.lt_or_ge j 1 with h0 | h0
      · obtain rfl : j = 0 := by omega
        exact ⟨p, cap, by simp, by simp [go_sem], by simp [go_sem], hc.below (by go_grown), hcap, h16⟩
      · rcases Nat.lt_or_ge j 2 with h0 | h0
        · obtain rfl : j = 1 := by omega
          exact ⟨p', cap', by simp, by simp [go_sem], by simp [go_sem], hc'.below (by go_grown), hcap', h16'⟩
        · obtain rfl : j = 2 := by omega
          exact ⟨q, caq, by simp, by simp [go_sem], by simp [go_sem], hd.below (by go_grown), hcaq, hd16⟩⟩
theorem run_slice1g {l : ML} {v : Value} {x : Operand} (hx : ev x = v) (h : LVg l v W) :
    ∃ v W', (execOp ev { dst := dst, op := .buildSlice 45 1 #[(0, x)], type := ty, pos := pos, after := af, guard := gd }).run Try.prog W = .ok (.value v) W' ∧ Below W.heap.size W W' ∧ LsVg [l] v W' := by
  obtain ⟨p, cap, rfl, hc, hcap, h16⟩ := h
  refine ⟨.slice (some ⟨W.heap.size, 0, none⟩) 1 1, W.alloc (.cells #[.int .i64 l.1, .slice p l.2.length cap] 24), ?_, ?_, ?_⟩
  · clear hc hcap h16
    go_simp
  · go_grown
  · exact ⟨_, rfl, by simp, fun j hj => by
      obtain rfl : j = 0 := by simp at hj; omega
      exact ⟨p, cap, by simp, by simp [go_sem], by simp [go_sem], hc.below (by go_grown), hcap, h16⟩⟩
theorem run_slice4g {l m k n : ML} {v u z s : Value} {x y t r : Operand} (hx : ev x = v) (hy : ev y = u) (ht : ev t = z) (hr : ev r = s) (h : LVg l v W) (h' : LVg m u W) (h'' : LVg k z W) (h3 : LVg n s W) :
    ∃ v W', (execOp ev { dst := dst, op := .buildSlice 45 4 #[(0, x), (1, y), (2, t), (3, r)], type := ty, pos := pos, after := af, guard := gd }).run Try.prog W = .ok (.value v) W' ∧ Below W.heap.size W W' ∧ LsVg [l, m, k, n] v W' := by
  obtain ⟨p, cap, rfl, hc, hcap, h16⟩ := h
  obtain ⟨p', cap', rfl, hc', hcap', h16'⟩ := h'
  obtain ⟨q, caq, rfl, hd, hcaq, hd16⟩ := h''
  obtain ⟨q', caq', rfl, hd', hcaq', hd16'⟩ := h3
  refine ⟨.slice (some ⟨W.heap.size, 0, none⟩) 4 4, W.alloc (.cells #[.int .i64 l.1, .slice p l.2.length cap, .int .i64 m.1, .slice p' m.2.length cap', .int .i64 k.1, .slice q k.2.length caq, .int .i64 n.1, .slice q' n.2.length caq'] 24), ?_, ?_, ?_⟩
  · clear hc hcap h16 hc' hcap' h16' hd hcaq hd16 hd' hcaq' hd16'
    go_simp
  · go_grown
  · exact ⟨_, rfl, by simp, fun j hj => by
      have hj2 : j < 4 := by simpa using hj
      rcases Nat.lt_or_ge j 1 with h0 | h0
      · obtain rfl : j = 0 := by omega
        exact ⟨p, cap, by simp, by simp [go_sem], by simp [go_sem], hc.below (by go_grown), hcap, h16⟩
      · rcases Nat.lt_or_ge j 2 with h0 | h0
        · obtain rfl : j = 1 := by omega
          exact ⟨p', cap', by simp, by simp [go_sem], by simp [go_sem], hc'.below (by go_grown), hcap', h16'⟩
        · rcases Nat.lt_or_ge j 3 with h0 | h0
          · obtain rfl : j = 2 := by omega
            exact ⟨q, caq, by simp, by simp [go_sem], by simp [go_sem], hd.below (by go_grown), hcaq, hd16⟩
          · obtain rfl : j = 3 := by omega
            exact ⟨q', caq', by simp, by simp [go_sem], by simp [go_sem], hd'.below (by go_grown), hcaq', hd16'⟩⟩
end
theorem ent_gatehouselaw07_right : Enters 10 := fun args W => by go_simp
theorem ent_gatehouseref01_Plain : Enters 24 := fun args W => by go_simp
theorem ent_gatehouseref01_Free : Enters 29 := fun args W => by go_simp
theorem ent_gatehouseref07_Make : Enters 12 := fun args W => by go_simp
theorem ent_gatehouseref07_Rise : Enters 16 := fun args W => by go_simp
theorem ent_gatehouseref07_Clear : Enters 18 := fun args W => by go_simp
theorem ent_gatehouseref07_Lend : Enters 14 := fun args W => by go_simp
theorem ent_passage_Rise : Enters 15 := fun args W => by go_simp
theorem ent_passage_Clear : Enters 17 := fun args W => by go_simp
theorem ent_passage_Lend : Enters 13 := fun args W => by go_simp
end Go.Proofs.Ytnjmgholoigpkaa
