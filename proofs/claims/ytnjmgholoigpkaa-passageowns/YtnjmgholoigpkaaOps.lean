/- What single operations run to. -/
import Derived.Test.YtnjmgholoigpkaaTy
namespace Go.Proofs.Ytnjmgholoigpkaa
open Go.RowKit Go.Sort
section
variable {ev : Operand → Value} {W : World} {dst : Option Nat} {ty : TypeId} {pos : String} {af : Array Edge} {gd : Option (Nat × Bool)}
theorem run_loadL {l : ML} {b o : Nat} {x : Operand} (hx : ev x = .pointer (some ⟨b, o, none⟩)) (h : LBox l W b o) :
    ∃ v, (execOp ev { dst := dst, op := .load 24 x, type := ty, pos := pos, after := af, guard := gd }).run Try.prog W = .ok (.value v) W ∧ LV l v W := by
  obtain ⟨p, cap, hb, h0, h1, hc, hcap, h16⟩ := h
  refine ⟨.agg #[.int .i64 l.1, .slice p l.2.length cap], ?_, p, cap, rfl, hc, hcap, h16⟩
  clear hc hcap h16
  go_simp
theorem run_move {v : Value} {x : Operand} (hx : ev x = v) : (execOp ev { dst := dst, op := .move x, type := ty, pos := pos, after := af, guard := gd }).run Try.prog W = .ok (.value v) W := by
  go_simp
theorem run_assign {v : Value} {x : Operand} (hx : ev x = v) : (execOp ev { dst := dst, op := .assign x, type := ty, pos := pos, after := af, guard := gd }).run Try.prog W = .ok (.value v) W := by
  go_simp
theorem run_build (x : Operand) (c : Int) (hx : ev x = .int .i64 c) : (execOp ev { dst := dst, op := .build 24 #[(0, x)], type := ty, pos := pos, after := af, guard := gd }).run Try.prog W = .ok (.value (.agg #[.int .i64 c, .slice none 0 0])) W := by
  go_simp
theorem run_slice1 {l : ML} {v : Value} {x : Operand} (hx : ev x = v) (h : LV l v W) :
    ∃ v W', (execOp ev { dst := dst, op := .buildSlice 45 1 #[(0, x)], type := ty, pos := pos, after := af, guard := gd }).run Try.prog W = .ok (.value v) W' ∧ Below W.heap.size W W' ∧ LsV [l] v W' := by
  obtain ⟨p, cap, rfl, hc, hcap, h16⟩ := h
  refine ⟨.slice (some ⟨W.heap.size, 0, none⟩) 1 1, W.alloc (.cells #[.int .i64 l.1, .slice p l.2.length cap] 24), ?_, ?_, ?_⟩
  · clear hc hcap h16
    go_simp
  · go_grown
  · exact ⟨_, rfl, by simp, fun j hj => by
      obtain rfl : j = 0 := by simp at hj; omega
      exact ⟨p, cap, by simp, by simp [go_sem], by simp [go_sem], hc.below (by go_grown), hcap, h16⟩⟩
theorem run_slice2 {l m : ML} {v u : Value} {x y : Operand} (hx : ev x = v) (hy : ev y = u) (h : LV l v W) (h' : LV m u W) :
    ∃ v W', (execOp ev { dst := dst, op := .buildSlice 45 2 #[(0, x), (1, y)], type := ty, pos := pos, after := af, guard := gd }).run Try.prog W = .ok (.value v) W' ∧ Below W.heap.size W W' ∧ LsV [l, m] v W' := by
  obtain ⟨p, cap, rfl, hc, hcap, h16⟩ := h
  obtain ⟨p', cap', rfl, hc', hcap', h16'⟩ := h'
  refine ⟨.slice (some ⟨W.heap.size, 0, none⟩) 2 2, W.alloc (.cells #[.int .i64 l.1, .slice p l.2.length cap, .int .i64 m.1, .slice p' m.2.length cap'] 24), ?_, ?_, ?_⟩
  · clear hc hcap h16 hc' hcap' h16'
    go_simp
  · go_grown
  · exact ⟨_, rfl, by simp, fun j hj => by
      have hj2 : j < 2 := by simpa using hj
      rcases Nat.lt_or_ge j 1 with h0 | h0
      · obtain rfl : j = 0 := by omega
        exact ⟨p, cap, by simp, by simp [go_sem], by simp [go_sem], hc.below (by go_grown), hcap, h16⟩
      · obtain rfl : j = 1 := by omega
        exact ⟨p', cap', by simp, by simp [go_sem], by simp [go_sem], hc'.below (by go_grown), hcap', h16'⟩⟩
theorem run_slice3 {l m k : ML} {v u z : Value} {x y t : Operand} (hx : ev x = v) (hy : ev y = u) (ht : ev t = z) (h : LV l v W) (h' : LV m u W) (h'' : LV k z W) :
    ∃ v W', (execOp ev { dst := dst, op := .buildSlice 45 3 #[(0, x), (1, y), (2, t)], type := ty, pos := pos, after := af, guard := gd }).run Try.prog W = .ok (.value v) W' ∧ Below W.heap.size W W' ∧ LsV [l, m, k] v W' := by
  obtain ⟨p, cap, rfl, hc, hcap, h16⟩ := h
  obtain ⟨p', cap', rfl, hc', hcap', h16'⟩ := h'
  obtain ⟨q, caq, rfl, hd, hcaq, hd16⟩ := h''
  refine ⟨.slice (some ⟨W.heap.size, 0, none⟩) 3 3, W.alloc (.cells #[.int .i64 l.1, .slice p l.2.length cap, .int .i64 m.1, .slice p' m.2.length cap', .int .i64 k.1, .slice q k.2.length caq] 24), ?_, ?_, ?_⟩
  · clear hc hcap h16 hc' hcap' h16' hd hcaq hd16
    go_simp
  · go_grown
  · exact ⟨_, rfl, by simp, fun j hj => by
      have hj2 : j < 3 := by simpa using hj
      rcases Nat.lt_or_ge j 1 with h0 | h0
      · obtain rfl : j = 0 := by omega
        exact ⟨p, cap, by simp, by simp [go_sem], by simp [go_sem], hc.below (by go_grown), hcap, h16⟩
      · rcases Nat.lt_or_ge j 2 with h0 | h0
        · obtain rfl : j = 1 := by omega
          exact ⟨p', cap', by simp, by simp [go_sem], by simp [go_sem], hc'.below (by go_grown), hcap', h16'⟩
        · obtain rfl : j = 2 := by omega
          exact ⟨q, caq, by simp, by simp [go_sem], by simp [go_sem], hd.below (by go_grown), hcaq, hd16⟩⟩
/-- A row of two rows of numbers. -/
def RsV (a b : List Int) (v : Value) (W : World) : Prop := ∃ g x y, v = .slice (some ⟨g, 0, none⟩) 2 2 ∧ g < W.heap.size ∧ W.cell? ⟨g, 0, none⟩ = some x ∧ W.cell? ⟨g, 1, none⟩ = some y ∧ IV a x W ∧ IV b y W
theorem RsV.below {a b : List Int} {v : Value} {W W' : World} (h : RsV a b v W) (hb : Below W.heap.size W W') : RsV a b v W' := by
  obtain ⟨g, x, y, h1, h2, h3, h4, h5, h6⟩ := h
  exact ⟨g, x, y, h1, Nat.lt_of_lt_of_le h2 hb.size, (hb.cell (p := ⟨g, 0, none⟩) h2).trans h3, (hb.cell (p := ⟨g, 1, none⟩) h2).trans h4, h5.below hb, h6.below hb⟩
theorem IV.form {cs : List Int} {v : Value} (h : IV cs v W) : ∃ p cap, v = .slice p cs.length cap := by
  obtain ⟨base, h⟩ := h
  rcases h.2 with ⟨rfl, h0⟩ | ⟨g, cap, _, rfl, _⟩
  · exact ⟨none, 0, by rw [h0]⟩
  · exact ⟨_, _, rfl⟩
theorem run_rows {a b : List Int} {v u : Value} {x y : Operand} (hx : ev x = v) (hy : ev y = u) (h : IV a v W) (h' : IV b u W) :
    ∃ v W', (execOp ev { dst := dst, op := .buildSlice 87 2 #[(0, x), (1, y)], type := ty, pos := pos, after := af, guard := gd }).run Try.prog W = .ok (.value v) W' ∧ Below W.heap.size W W' ∧ RsV a b v W' := by
  obtain ⟨p, cap, rfl⟩ := h.form
  obtain ⟨p', cap', rfl⟩ := h'.form
  refine ⟨.slice (some ⟨W.heap.size, 0, none⟩) 2 2, W.alloc (.cells #[.slice p a.length cap, .slice p' b.length cap'] 43), ?_, ?_, ?_⟩
  · clear h h'
    go_simp
  · go_grown
  · exact ⟨W.heap.size, _, _, rfl, by simp, by simp [go_sem], by simp [go_sem], h.below (by go_grown), h'.below (by go_grown)⟩
/-- A row of truths. -/
def BsV (bs : List Bool) (v : Value) (W : World) : Prop := ∃ g, v = .slice (some ⟨g, 0, none⟩) bs.length bs.length ∧ g < W.heap.size ∧ ∀ j (h : j < bs.length), W.cell? ⟨g, j, none⟩ = some (.bool bs[j])
theorem BsV.below {bs : List Bool} {v : Value} {W W' : World} (h : BsV bs v W) (hb : Below W.heap.size W W') : BsV bs v W' := by
  obtain ⟨g, h1, h2, h3⟩ := h
  exact ⟨g, h1, Nat.lt_of_lt_of_le h2 hb.size, fun j hj => (hb.cell (p := ⟨g, j, none⟩) h2).trans (h3 j hj)⟩
theorem run_bools2 {a b : Bool} {x y : Operand} (hx : ev x = .bool a) (hy : ev y = .bool b) :
    ∃ v W', (execOp ev { dst := dst, op := .buildSlice 68 2 #[(0, x), (1, y)], type := ty, pos := pos, after := af, guard := gd }).run Try.prog W = .ok (.value v) W' ∧ Below W.heap.size W W' ∧ BsV [a, b] v W' := by
  refine ⟨.slice (some ⟨W.heap.size, 0, none⟩) 2 2, W.alloc (.cells #[.bool a, .bool b] 4), ?_, ?_, ?_⟩
  · go_simp
  · go_grown
  · exact ⟨W.heap.size, rfl, by simp, fun j hj => by
      have hj2 : j < 2 := by simpa using hj
      rcases Nat.lt_or_ge j 1 with h0 | h0
      · obtain rfl : j = 0 := by omega
        simp [go_sem]
      · obtain rfl : j = 1 := by omega
        simp [go_sem]⟩
theorem run_bools3 {a b c : Bool} {x y z : Operand} (hx : ev x = .bool a) (hy : ev y = .bool b) (hz : ev z = .bool c) :
    ∃ v W', (execOp ev { dst := dst, op := .buildSlice 68 3 #[(0, x), (1, y), (2, z)], type := ty, pos := pos, after := af, guard := gd }).run Try.prog W = .ok (.value v) W' ∧ Below W.heap.size W W' ∧ BsV [a, b, c] v W' := by
  refine ⟨.slice (some ⟨W.heap.size, 0, none⟩) 3 3, W.alloc (.cells #[.bool a, .bool b, .bool c] 4), ?_, ?_, ?_⟩
  · go_simp
  · go_grown
  · exact ⟨W.heap.size, rfl, by simp, fun j hj => by
      have hj2 : j < 3 := by simpa using hj
      rcases Nat.lt_or_ge j 1 with h0 | h0
      · obtain rfl : j = 0 := by omega
        simp [go_sem]
      · rcases Nat.lt_or_ge j 2 with h0 | h0
        · obtain rfl : j = 1 := by omega
          simp [go_sem]
        · obtain rfl : j = 2 := by omega
          simp [go_sem]⟩
theorem run_bools4 {a b c d : Bool} {x y z t : Operand} (hx : ev x = .bool a) (hy : ev y = .bool b) (hz : ev z = .bool c) (ht : ev t = .bool d) :
    ∃ v W', (execOp ev { dst := dst, op := .buildSlice 68 4 #[(0, x), (1, y), (2, z), (3, t)], type := ty, pos := pos, after := af, guard := gd }).run Try.prog W = .ok (.value v) W' ∧ Below W.heap.size W W' ∧ BsV [a, b, c, d] v W' := by
  refine ⟨.slice (some ⟨W.heap.size, 0, none⟩) 4 4, W.alloc (.cells #[.bool a, .bool b, .bool c, .bool d] 4), ?_, ?_, ?_⟩
  · go_simp
  · go_grown
  · exact ⟨W.heap.size, rfl, by simp, fun j hj => by
      have hj2 : j < 4 := by simpa using hj
      rcases Nat.lt_or_ge j 1 with h0 | h0
      · obtain rfl : j = 0 := by omega
        simp [go_sem]
      · rcases Nat.lt_or_ge j 2 with h0 | h0
        · obtain rfl : j = 1 := by omega
          simp [go_sem]
        · rcases Nat.lt_or_ge j 3 with h0 | h0
          · obtain rfl : j = 2 := by omega
            simp [go_sem]
          · obtain rfl : j = 3 := by omega
            simp [go_sem]⟩
/-- A call of the function goes into its body. -/
def Enters (f : Nat) : Prop := ∀ (args : Array Value) (W : World), (callFunc f args).run Try.prog W = .ok (.enter f args) W
theorem run_call {f : Nat} {xs : Array Operand} {vs : Array Value} {ts : Array TypeId} (hf : ev (.func f) = .func (.func f) #[] #[]) (hx : xs.map ev = vs) (he : Enters f) :
    (execOp ev { dst := dst, op := .call { callee := .value (.func f), args := xs, argTypes := ts }, type := ty, pos := pos, after := af, guard := gd }).run Try.prog W = .ok (.enter f vs) W := by
  have he' := he vs W
  go_simp
theorem run_callF {f : Nat} {x : Operand} {xs : Array Operand} {vs cap : Array Value} {ts : Array TypeId} (hf : ev x = .func (.func f) #[] cap) (hx : xs.map ev = vs) (he : Enters f) :
    (execOp ev { dst := dst, op := .call { callee := .value x, args := xs, argTypes := ts }, type := ty, pos := pos, after := af, guard := gd }).run Try.prog W = .ok (.enter f (vs ++ cap)) W := by
  have he' := he (vs ++ cap) W
  go_simp
end
end Go.Proofs.Ytnjmgholoigpkaa
