/- The closures of package passage: the greatest level of some labels. -/
import Derived.Test.YtfmeajanbmaimaaGreatPaConcat
import Derived.Test.YtfmeajanbmaimaaGreatPaTurn
import Derived.Laws.AppendOwnNone
/- What Put of the reference answers, for every label. -/
namespace Go.Proofs.YtfmeajanbmaimaaGreat.Pa
open Go.RowKit Go.Sort

/-- A slice of entries: none at all, or one that lies plainly, at B or behind it. -/
def Rw (B : Nat) (W : World) (v : Value) (zs : List (Int × Int)) : Prop := (v = .slice none 0 0 ∧ zs = []) ∨ ∃ b off cap, v = .slice (some ⟨b, off, none⟩) zs.length cap ∧ zs.length ≤ cap ∧ (B ≤ b ∧ b < W.heap.size) ∧ CatsAt W (some ⟨b, off, none⟩) zs
theorem Rw.below {B : Nat} {w w' : World} {v : Value} {zs : List (Int × Int)} (h : Rw B w v zs) (hb : Below w.heap.size w w') : Rw B w' v zs := by
  rcases h with ⟨h1, h2⟩ | ⟨b, off, cap, h1, h2, h3, h4⟩
  · exact .inl ⟨h1, h2⟩
  · exact .inr ⟨b, off, cap, h1, h2, ⟨h3.1, Nat.lt_of_lt_of_le h3.2 hb.size⟩, h4.below hb⟩
theorem Rw.own {B B' : Nat} {w : World} {v : Value} {zs : List (Int × Int)} (h : w.ownsRow B' 172 2 v zs.length (flat zs)) (hB : B ≤ B') : Rw B w v zs := by
  obtain ⟨p, cap, e, hc, hl⟩ := own_out h
  have h' := h
  obtain ⟨_, h2⟩ := h
  rcases h2 with ⟨rfl, hn⟩ | ⟨g, cap, cur, rfl, hg, hh, hn, _⟩
  · exact .inl ⟨rfl, List.eq_nil_of_length_eq_zero hn⟩
  · cases e
    exact .inr ⟨g, 0, cap, rfl, hn, ⟨Nat.le_trans hB (h'.lt g rfl).1, (h'.lt g rfl).2⟩, hc⟩
theorem Rw.set {B : Nat} {w : World} {v : Value} {zs : List (Int × Int)} (h : Rw B w v zs) {a : Addr} (ha : a.block < B) (u : Value) : Rw B (w.setCell a u) v zs := by
  rcases h with ⟨h1, h2⟩ | ⟨b, off, cap, h1, h2, h3, h4⟩
  · exact .inl ⟨h1, h2⟩
  · refine .inr ⟨b, off, cap, h1, h2, ⟨h3.1, by simpa using h3.2⟩, fun j hj => ?_⟩
    obtain ⟨b', off', e, hb', c0, c1⟩ := h4 j hj
    cases e
    exact ⟨b, off, rfl, by simpa using h3.2, by rw [World.cell?_setCell_other _ _ _ _ (fun e => by have := congrArg Addr.block e; simp at this; omega)]; exact c0, by rw [World.cell?_setCell_other _ _ _ _ (fun e => by have := congrArg Addr.block e; simp at this; omega)]; exact c1⟩
theorem Rw.mono {B B' : Nat} {w : World} {v : Value} {zs : List (Int × Int)} (h : Rw B w v zs) (hB : B' ≤ B) : Rw B' w v zs := by
  rcases h with ⟨h1, h2⟩ | ⟨b, off, cap, h1, h2, h3, h4⟩
  · exact .inl ⟨h1, h2⟩
  · exact .inr ⟨b, off, cap, h1, h2, ⟨Nat.le_trans hB h3.1, h3.2⟩, h4⟩
theorem Rw.out {B : Nat} {w : World} {v : Value} {zs : List (Int × Int)} (h : Rw B w v zs) : ∃ p cap, v = .slice p zs.length cap ∧ CatsAt w p zs ∧ zs.length ≤ cap := by
  rcases h with ⟨rfl, rfl⟩ | ⟨b, off, cap, h1, h2, h3, h4⟩
  · exact ⟨none, 0, rfl, fun j hj => by simp at hj, Nat.le_refl _⟩
  · exact ⟨_, cap, h1, h4, h2⟩
end Go.Proofs.YtfmeajanbmaimaaGreat.Pa
/- What Sees and Alters of the reference answer, and that it is what package label answers, for right labels. -/
namespace Go.Proofs.YtfmeajanbmaimaaGreat.Pa
open Go.RowKit Go.Sort

/- Plain facts: what is named, and that comparing at all that is named is comparing. -/
theorem Rise.filter {p : Int × Int → Bool} : ∀ {l : Int} {xs : List (Int × Int)}, Rise l xs → Rise l (xs.filter p)
  | _, [], _ => trivial
  | l, x :: xs, h => by
    rw [List.filter_cons]
    split
    · exact ⟨h.1, Rise.filter h.2⟩
    · exact Rise.mono (by have := h.1; omega) (Rise.filter h.2)
end Go.Proofs.YtfmeajanbmaimaaGreat.Pa
/- Labels, rows of labels, of numbers and closures as values, by what they say alone; all of it stays as long as nothing old is changed. -/
namespace Go.Proofs.YtfmeajanbmaimaaGreat.Pa
open Go.RowKit Go.Sort
abbrev ML := Int × List (Int × Int)
def aM (l : ML) (c : Int) : Int := atS l.1 l.2 c
/-- A label in a block. -/
def LBox (l : ML) (W : World) (b o : Nat) : Prop := ∃ p cap, b < W.heap.size ∧ W.cell? ⟨b, o, none⟩ = some (.int .i64 l.1) ∧ W.cell? ⟨b, o + 1, none⟩ = some (.slice p l.2.length cap) ∧ CatsAt W p l.2 ∧ l.2.length ≤ cap ∧ l.2.length ≤ 16
/-- A label as a value. -/
def LV (l : ML) (v : Value) (W : World) : Prop := ∃ p cap, v = .agg #[.int .i64 l.1, .slice p l.2.length cap] ∧ CatsAt W p l.2 ∧ l.2.length ≤ cap ∧ l.2.length ≤ 16
/-- A row of labels. -/
def LsV (ls : List ML) (v : Value) (W : World) : Prop := ∃ b, v = .slice (some ⟨b, 0, none⟩) ls.length ls.length ∧ b < W.heap.size ∧ ∀ j (h : j < ls.length), LBox ls[j] W b (j * 2)
/-- A row of numbers. -/
def IV (cs : List Int) (v : Value) (W : World) : Prop := ∃ base, W.ownsRow base 3 1 v cs.length (icells cs)
theorem LBox.below {l : ML} {W W' : World} {b o : Nat} (h : LBox l W b o) (hb : Below W.heap.size W W') : LBox l W' b o := by
  obtain ⟨p, cap, h1, h2, h3, h4, h5⟩ := h
  exact ⟨p, cap, Nat.lt_of_lt_of_le h1 hb.size, (hb.cell (p := ⟨b, o, none⟩) h1).trans h2, (hb.cell (p := ⟨b, o + 1, none⟩) h1).trans h3, h4.below hb, h5⟩
theorem LV.below {l : ML} {v : Value} {W W' : World} (h : LV l v W) (hb : Below W.heap.size W W') : LV l v W' := by
  obtain ⟨p, cap, h1, h4, h5⟩ := h
  exact ⟨p, cap, h1, h4.below hb, h5⟩
theorem LsV.below {ls : List ML} {v : Value} {W W' : World} (h : LsV ls v W) (hb : Below W.heap.size W W') : LsV ls v W' := by
  obtain ⟨b, h1, h2, h3⟩ := h
  exact ⟨b, h1, Nat.lt_of_lt_of_le h2 hb.size, fun j hj => (h3 j hj).below hb⟩
theorem IV.below {cs : List Int} {v : Value} {W W' : World} (h : IV cs v W) (hb : Below W.heap.size W W') : IV cs v W' := by
  obtain ⟨base, h1⟩ := h
  exact ⟨base, own_belowN h1 hb (Nat.le_refl _)⟩
theorem LV.box {l : ML} {v : Value} {W : World} (h : LV l v W) : ∃ p cap, v = .agg #[.int .i64 l.1, .slice p l.2.length cap] := by
  obtain ⟨p, cap, h, _⟩ := h
  exact ⟨p, cap, h⟩
/- The program's label functions, as they are called. -/
def upM (l : ML) : ML := (upD l.1, upS l.1 l.2)
theorem Up_c {l : ML} {v : Value} {W : World} (h : LV l v W) : Calls Tryz.prog 162 #[v] W fun e W' => ∃ v', e = .returned v' ∧ Below W.heap.size W W' ∧ LV (upM l) v' W' := by
  obtain ⟨p, cap, rfl, h1, h2, h3⟩ := h
  refine (Up_any l.1 p cap l.2 W (by omega) h1).mono ?_
  rintro e W' ⟨v, rfl, hown, hb⟩
  obtain ⟨p', cap', rfl, hc, hcap⟩ := own_out hown
  exact ⟨_, rfl, hb, p', cap', rfl, hc, hcap, Nat.le_trans (upS_le l.1 l.2) h3⟩
theorem Alters_c {t o : ML} {v u : Value} {W : World} (h : LV t v W) (h' : LV o u W) : Calls Tryz.prog 101 #[v, u] W fun e W' => ∃ v', e = .returned v' ∧ Below W.heap.size W W' ∧ v' = .bool (altersS t.1 o.1 t.2 o.2) := by
  obtain ⟨p, cap, rfl, h1, h2, h3⟩ := h
  obtain ⟨p', cap', rfl, h1', h2', h3'⟩ := h'
  refine (Alters_any t.1 o.1 p p' cap cap' t.2 o.2 W (by omega) (by unfold maxLen; omega) (by omega) (by omega) h1 h1').mono ?_
  rintro e W' ⟨rfl, hb⟩
  exact ⟨_, rfl, hb, rfl⟩
theorem Free_c {l : ML} {v : Value} {W : World} (h : LV l v W) : Calls Tryz.prog 189 #[v] W fun e W' => ∃ v', e = .returned v' ∧ Below W.heap.size W W' ∧ v' = .bool (freeS l.1 l.2) := by
  obtain ⟨p, cap, rfl, h1, h2, h3⟩ := h
  refine (Free_any l.1 p cap l.2 W (by unfold maxLen; omega) h1).mono ?_
  rintro e W' ⟨rfl, hb⟩
  exact ⟨_, rfl, hb, rfl⟩
end Go.Proofs.YtfmeajanbmaimaaGreat.Pa
/- What single operations run to. -/
namespace Go.Proofs.YtfmeajanbmaimaaGreat.Pa
open Go.RowKit Go.Sort
section
variable {ev : Operand → Value} {W : World} {dst : Option Nat} {ty : TypeId} {pos : String} {af : Array Edge} {gd : Option (Nat × Bool)}
theorem run_loadL {l : ML} {b o : Nat} {x : Operand} (hx : ev x = .pointer (some ⟨b, o, none⟩)) (h : LBox l W b o) :
    ∃ v, (execOp ev { dst := dst, op := .load 26 x, type := ty, pos := pos, after := af, guard := gd }).run Tryz.prog W = .ok (.value v) W ∧ LV l v W := by
  obtain ⟨p, cap, hb, h0, h1, hc, hcap, h16⟩ := h
  refine ⟨.agg #[.int .i64 l.1, .slice p l.2.length cap], ?_, p, cap, rfl, hc, hcap, h16⟩
  clear hc hcap h16
  go_simp
theorem run_move {v : Value} {x : Operand} (hx : ev x = v) : (execOp ev { dst := dst, op := .move x, type := ty, pos := pos, after := af, guard := gd }).run Tryz.prog W = .ok (.value v) W := by
  go_simp
theorem run_build (x : Operand) (c : Int) (hx : ev x = .int .i64 c) : (execOp ev { dst := dst, op := .build 26 #[(0, x)], type := ty, pos := pos, after := af, guard := gd }).run Tryz.prog W = .ok (.value (.agg #[.int .i64 c, .slice none 0 0])) W := by
  go_simp
theorem run_slice1 {l : ML} {v : Value} {x : Operand} (hx : ev x = v) (h : LV l v W) :
    ∃ v W', (execOp ev { dst := dst, op := .buildSlice 311 1 #[(0, x)], type := ty, pos := pos, after := af, guard := gd }).run Tryz.prog W = .ok (.value v) W' ∧ Below W.heap.size W W' ∧ LsV [l] v W' := by
  obtain ⟨p, cap, rfl, hc, hcap, h16⟩ := h
  refine ⟨.slice (some ⟨W.heap.size, 0, none⟩) 1 1, W.alloc (.cells #[.int .i64 l.1, .slice p l.2.length cap] 26), ?_, ?_, ?_⟩
  · clear hc hcap h16
    go_simp
  · go_grown
  · exact ⟨_, rfl, by simp, fun j hj => by
      obtain rfl : j = 0 := by simp at hj; omega
      exact ⟨p, cap, by simp, by simp [go_sem], by simp [go_sem], hc.below (by go_grown), hcap, h16⟩⟩
theorem run_slice2 {l m : ML} {v u : Value} {x y : Operand} (hx : ev x = v) (hy : ev y = u) (h : LV l v W) (h' : LV m u W) :
    ∃ v W', (execOp ev { dst := dst, op := .buildSlice 311 2 #[(0, x), (1, y)], type := ty, pos := pos, after := af, guard := gd }).run Tryz.prog W = .ok (.value v) W' ∧ Below W.heap.size W W' ∧ LsV [l, m] v W' := by
  obtain ⟨p, cap, rfl, hc, hcap, h16⟩ := h
  obtain ⟨p', cap', rfl, hc', hcap', h16'⟩ := h'
  refine ⟨.slice (some ⟨W.heap.size, 0, none⟩) 2 2, W.alloc (.cells #[.int .i64 l.1, .slice p l.2.length cap, .int .i64 m.1, .slice p' m.2.length cap'] 26), ?_, ?_, ?_⟩
  · clear hc hcap h16 hc' hcap' h16'
    go_simp
  · go_grown
  · exact ⟨_, rfl, by simp, fun j hj => by
      have hj2 : j < 2 := by simpa using hj
      rcases Nat.lt_or_ge j 1 with h0 | h0
      · obtain rfl : j = 0 := by omega
        exact ⟨p, cap, by simp, by simp [go_sem], by simp [go_sem], hc.below (by go_grown), hcap, h16⟩
      · obtain rfl : j = 1 := by omega
        exact ⟨p', cap', by simp, by simp [go_sem], by simp [go_sem], hc'.below (by go_grown), hcap', h16'⟩⟩
/-- A row of two rows of numbers. -/
def RsV (a b : List Int) (v : Value) (W : World) : Prop := ∃ g x y, v = .slice (some ⟨g, 0, none⟩) 2 2 ∧ g < W.heap.size ∧ W.cell? ⟨g, 0, none⟩ = some x ∧ W.cell? ⟨g, 1, none⟩ = some y ∧ IV a x W ∧ IV b y W
theorem RsV.below {a b : List Int} {v : Value} {W W' : World} (h : RsV a b v W) (hb : Below W.heap.size W W') : RsV a b v W' := by
  obtain ⟨g, x, y, h1, h2, h3, h4, h5, h6⟩ := h
  exact ⟨g, x, y, h1, Nat.lt_of_lt_of_le h2 hb.size, (hb.cell (p := ⟨g, 0, none⟩) h2).trans h3, (hb.cell (p := ⟨g, 1, none⟩) h2).trans h4, h5.below hb, h6.below hb⟩
theorem IV.form {cs : List Int} {v : Value} (h : IV cs v W) : ∃ p cap, v = .slice p cs.length cap := by
  obtain ⟨base, h⟩ := h
  rcases h.2 with ⟨rfl, h0⟩ | ⟨g, cap, _, rfl, _⟩
  · exact ⟨none, 0, by rw [h0]⟩
  · exact ⟨_, _, rfl⟩
theorem run_rows {a b : List Int} {v u : Value} {x y : Operand} (hx : ev x = v) (hy : ev y = u) (h : IV a v W) (h' : IV b u W) :
    ∃ v W', (execOp ev { dst := dst, op := .buildSlice 343 2 #[(0, x), (1, y)], type := ty, pos := pos, after := af, guard := gd }).run Tryz.prog W = .ok (.value v) W' ∧ Below W.heap.size W W' ∧ RsV a b v W' := by
  obtain ⟨p, cap, rfl⟩ := h.form
  obtain ⟨p', cap', rfl⟩ := h'.form
  refine ⟨.slice (some ⟨W.heap.size, 0, none⟩) 2 2, W.alloc (.cells #[.slice p a.length cap, .slice p' b.length cap'] 34), ?_, ?_, ?_⟩
  · clear h h'
    go_simp
  · go_grown
  · exact ⟨W.heap.size, _, _, rfl, by simp, by simp [go_sem], by simp [go_sem], h.below (by go_grown), h'.below (by go_grown)⟩
/-- A row of truths. -/
def BsV (bs : List Bool) (v : Value) (W : World) : Prop := ∃ g, v = .slice (some ⟨g, 0, none⟩) bs.length bs.length ∧ g < W.heap.size ∧ ∀ j (h : j < bs.length), W.cell? ⟨g, j, none⟩ = some (.bool bs[j])
theorem BsV.below {bs : List Bool} {v : Value} {W W' : World} (h : BsV bs v W) (hb : Below W.heap.size W W') : BsV bs v W' := by
  obtain ⟨g, h1, h2, h3⟩ := h
  exact ⟨g, h1, Nat.lt_of_lt_of_le h2 hb.size, fun j hj => (hb.cell (p := ⟨g, j, none⟩) h2).trans (h3 j hj)⟩
theorem run_bools4 {a b c d : Bool} {x y z t : Operand} (hx : ev x = .bool a) (hy : ev y = .bool b) (hz : ev z = .bool c) (ht : ev t = .bool d) :
    ∃ v W', (execOp ev { dst := dst, op := .buildSlice 309 4 #[(0, x), (1, y), (2, z), (3, t)], type := ty, pos := pos, after := af, guard := gd }).run Tryz.prog W = .ok (.value v) W' ∧ Below W.heap.size W W' ∧ BsV [a, b, c, d] v W' := by
  refine ⟨.slice (some ⟨W.heap.size, 0, none⟩) 4 4, W.alloc (.cells #[.bool a, .bool b, .bool c, .bool d] 4), ?_, ?_, ?_⟩
  · go_simp
  · go_grown
  · exact ⟨W.heap.size, rfl, by simp, fun j hj => by
      have hj2 : j < 4 := by simpa using hj
      rcases Nat.lt_or_ge j 1 with h0 | h0
      · obtain rfl : j = 0 := by omega
        simp [go_sem]
      · rcases Nat.lt_or_ge j 2 with h0 | h0
        · obtain rfl : j = 1 := by omega
          simp [go_sem]
        · rcases Nat.lt_or_ge j 3 with h0 | h0
          · obtain rfl : j = 2 := by omega
            simp [go_sem]
          · obtain rfl : j = 3 := by omega
            simp [go_sem]⟩
/-- A call of the function goes into its body. -/
def Enters (f : Nat) : Prop := ∀ (args : Array Value) (W : World), (callFunc f args).run Tryz.prog W = .ok (.enter f args) W
theorem run_call {f : Nat} {xs : Array Operand} {vs : Array Value} {ts : Array TypeId} (hf : ev (.func f) = .func (.func f) #[] #[]) (hx : xs.map ev = vs) (he : Enters f) :
    (execOp ev { dst := dst, op := .call { callee := .value (.func f), args := xs, argTypes := ts }, type := ty, pos := pos, after := af, guard := gd }).run Tryz.prog W = .ok (.enter f vs) W := by
  have he' := he vs W
  go_simp
theorem run_callF {f : Nat} {x : Operand} {xs : Array Operand} {vs cap : Array Value} {ts : Array TypeId} (hf : ev x = .func (.func f) #[] cap) (hx : xs.map ev = vs) (he : Enters f) :
    (execOp ev { dst := dst, op := .call { callee := .value x, args := xs, argTypes := ts }, type := ty, pos := pos, after := af, guard := gd }).run Tryz.prog W = .ok (.enter f (vs ++ cap)) W := by
  have he' := he (vs ++ cap) W
  go_simp
end
end Go.Proofs.YtfmeajanbmaimaaGreat.Pa
/- named, Contains, ContainsFunc, Concat of numbers in package passage. -/
namespace Go.Proofs.YtfmeajanbmaimaaGreat.Pa
open Go.RowKit Go.Sort
def catL (l : ML) : List Int := l.2.map (·.1)
def namL (ls : List ML) : List Int := ls.flatMap catL
theorem namL_snoc (ls : List ML) (k : Nat) (h : k < ls.length) : namL (ls.take (k + 1)) = namL (ls.take k) ++ catL ls[k] := by
  unfold namL; rw [List.take_succ_eq_append_getElem h, List.flatMap_append]; simp
theorem catL_snoc (l : ML) (k : Nat) (h : k < l.2.length) : (l.2.take (k + 1)).map (·.1) = (l.2.take k).map (·.1) ++ [l.2[k].1] := by
  rw [List.take_succ_eq_append_getElem h, List.map_append]; rfl
theorem namL_len (ls : List ML) (h : ∀ l ∈ ls, l.2.length ≤ 16) : (namL ls).length ≤ ls.length * 16 := by
  induction ls with
  | nil => simp [namL]
  | cons l ls ih =>
    have h1 := ih fun x hx => h x (List.mem_cons_of_mem _ hx)
    have h2 := h l (List.mem_cons_self ..)
    unfold namL at h1 ⊢
    rw [List.flatMap_cons, List.length_append]
    simp only [catL, List.length_map, List.length_cons]
    have : (catL l).length = l.2.length := by simp [catL]
    omega
set_option maxRecDepth 100000 in
set_option maxHeartbeats 2000000 in
theorem named_c {ls : List ML} {v : Value} {w : World} (h : LsV ls v w) (hn : ls.length ≤ 16) : Calls Tryz.prog 213 #[v] w fun e w' => ∃ v', e = .returned v' ∧ Below w.heap.size w w' ∧ IV (namL ls) v' w' := by
  obtain ⟨b, rfl, hb0, hL⟩ := h
  obtain ⟨i0, hi, hz0, hz1, hz2⟩ := info_parts info3
  have h16 : ∀ l ∈ ls, l.2.length ≤ 16 := fun l hl => by
    obtain ⟨j, hj, rfl⟩ := List.getElem_of_mem hl
    obtain ⟨_, _, _, _, _, _, _, h⟩ := hL j hj
    exact h
  have hlen : ∀ k, (namL (ls.take k)).length ≤ 256 := fun k => by
    have := namL_len (ls.take k) fun l hl => h16 l (List.mem_of_mem_take hl)
    have h2 : (ls.take k).length ≤ ls.length := by rw [List.length_take]; omega
    omega
  have hl16 : (ls.length : Int) ≤ 16 := by omega
  go_enter Tryz.func213, Tryz.ntmps213
  go_wp2_with fail
  go_loopw [3, 10] (fun r i wr => ∃ k : Nat, k ≤ ls.length ∧ i = .int .i64 k ∧ wr.ownsRow w.heap.size 3 1 r (namL (ls.take k)).length (icells (namL (ls.take k))) ∧ Below w.heap.size w wr) (fun _ i _ => ls.length - (intOf i).toNat)
  case atStart => exact ⟨0, Nat.zero_le _, rfl, World.ownsRow_nil _ _ _ _, Below.refl _ _⟩
  case round =>
    obtain ⟨k, hk, rfl, hown, hb⟩ := hrel
    obtain ⟨W1, rfl⟩ : ∃ W1, W1 = wr := ⟨wr, rfl⟩
    by_cases hlt : k < ls.length
    · obtain ⟨p, cap, _, e0w, e1w, hcat, hcap, hx16⟩ := hL k hlt
      have e0 := (hb.cell (p := ⟨b, k * 2, none⟩) hb0).trans e0w
      have e1 := (hb.cell (p := ⟨b, k * 2 + 1, none⟩) hb0).trans e1w
      have HS := Lib.hid (namL_snoc ls k hlt)
      have hbw : b < W1.heap.size := Nat.lt_of_lt_of_le hb0 hb.size
      have hlk := hlen k
      have hbA : Below w.heap.size w (W1.alloc (.cells #[.int .i64 ls[k].1, .slice p ls[k].2.length cap] 26)) := hb.alloc hb.size _
      have hki : (k : Int) < (ls.length : Int) := by omega
      obtain ⟨T, hT⟩ : ∃ T, namL (ls.take k) = T := ⟨_, rfl⟩
      rw [hT] at hown hlk
      have HT := Lib.hid hT
      clear hL h16 hlen hT e0w e1w
      go_wp2_with fail
      go_loopw [3, 17] (fun r i wr => ∃ j : Nat, j ≤ ls[k].2.length ∧ i = .int .i64 j ∧ wr.ownsRow w.heap.size 3 1 r (T ++ (ls[k].2.take j).map (·.1)).length (icells (T ++ (ls[k].2.take j).map (·.1))) ∧ Below w.heap.size w wr) (fun _ i _ => ls[k].2.length - (intOf i).toNat)
      case atStart => exact ⟨0, Nat.zero_le _, rfl, by simpa using hown.alloc _, hbA⟩
      case round =>
        obtain ⟨j, hj, rfl, hown2, hb2⟩ := hrel
        by_cases hlt2 : j < ls[k].2.length
        · obtain ⟨bx, ox, hpx, hblx, x0, x1⟩ := hcat.get hb2 (Below.refl _ _) (Nat.le_refl _) j hlt2
          have HJ := Lib.hid (catL_snoc ls[k] j hlt2)
          have hl2 : (T ++ (ls[k].2.take j).map (·.1)).length ≤ 300 := by simp; omega
          obtain ⟨cs, hcs⟩ : ∃ cs, T ++ (ls[k].2.take j).map (·.1) = cs := ⟨_, rfl⟩
          rw [hcs] at hown2 hl2
          have HCS := Lib.hid hcs
          clear hcs
          rw [hpx]
          have hbxw : bx < wr.heap.size := Nat.lt_of_lt_of_le hblx hb2.size
          have hji : (j : Int) < (ls[k].2.length : Int) := by omega
          have hA2 : Below w.heap.size w (wr.alloc (.cells #[.int .i64 ls[k].2[j].1, .int .i64 ls[k].2[j].2] 172)) := hb2.alloc hb2.size _
          have hA3 := hA2.alloc (hA2.size) (.cells #[.int .i64 ls[k].2[j].1] 3)
          have hownA := (hown2.alloc (.cells #[.int .i64 ls[k].2[j].1, .int .i64 ls[k].2[j].2] 172)).alloc (.cells #[.int .i64 ls[k].2[j].1] 3)
          have HO := Lib.hid (cell_one_new' (wr.alloc (.cells #[.int .i64 ls[k].2[j].1, .int .i64 ls[k].2[j].2] 172)) (.int .i64 ls[k].2[j].1) 3)
          have h63 : cs.length + 1 ≤ maxLen := by unfold maxLen; omega
          have hby : (cs.length + 1) * 8 ≤ 140737488355328 := by omega
          have hsz : w.heap.size ≤ ((wr.alloc (.cells #[.int .i64 ls[k].2[j].1, .int .i64 ls[k].2[j].2] 172)).alloc (.cells #[.int .i64 ls[k].2[j].1] 3)).heap.size := hA3.size
          have HLT := Lib.hid hownA.lt
          clear hcat
          go_wp2_with (at_builtin; refine wpList_append_own _ rfl _ _ 34 rfl w.heap.size 3 i0 (.int .i64 0) 1 8 Tryz.underlying34 hi hz0 hz1 hz2 rfl (by decide) _ _ _ rfl hownA ⟨wr.heap.size + 1, 0, none⟩ 1 1 [.int .i64 ls[k].2[j].1] rfl rfl (by have := HO.out; simpa using this) (fun x hx => by simp at hx; subst hx; rfl) h63 hby hsz ?_; intro v5 w5 hown5 hgrow5 hnil5)
          go_roundw
          case rel =>
            refine ⟨j + 1, by omega, by go_num, ?_, Below.grown hA3 hgrow5 hsz (fun g hg => (HLT.out g hg).1)⟩
            have h := hown5
            rw [HJ.out, ← List.append_assoc, HCS.out]
            rw [show [Value.int .i64 ls[k].2[j].1] = icells [ls[k].2[j].1] from rfl, ← icells_append] at h
            simpa using h
          case measure => simp [intOf]; omega
        · obtain rfl : j = ls[k].2.length := by omega
          rw [List.take_length] at hown2
          have hjj : ¬ (ls[k].2.length : Int) < (ls[k].2.length : Int) := by omega
          go_wp2
          refine ⟨⟨k + 1, by omega, by go_num, ?_, hb2⟩, ?_⟩
          · rw [HS.out, HT.out]; exact hown2
          · simp [intOf]; omega
    · obtain rfl : k = ls.length := by omega
      rw [List.take_length] at hown
      have hkk : ¬ (ls.length : Int) < (ls.length : Int) := by omega
      go_wp2
      go_ret
      exact ⟨_, rfl, hb, _, hown⟩
end Go.Proofs.YtfmeajanbmaimaaGreat.Pa
namespace Go.Proofs.YtfmeajanbmaimaaGreat.Pa
open Go.RowKit Go.Sort
def gr (ls : List ML) (c : Int) : Int := ls.foldl (fun m l => max m (aM l c)) 0
theorem max_if (a b : Int) : (if a < b then b else a) = max a b := by
  rw [Int.max_def]; split <;> split <;> omega
theorem gr_snoc (ls : List ML) (c : Int) (k : Nat) (h : k < ls.length) : gr (ls.take (k + 1)) c = max (gr (ls.take k) c) (aM ls[k] c) := by
  unfold gr; rw [List.take_succ_eq_append_getElem h, List.foldl_append]; rfl
set_option maxRecDepth 100000 in
set_option maxHeartbeats 1000000 in
theorem greatest1_any (ls : List ML) (c : Int) (B : Nat) (u : Value) (w : World) (hc : w.cell? ⟨B, 0, none⟩ = some u) (hu : LsV ls u w) (hn : ls.length ≤ 16) :
    Calls Tryz.prog 241 #[.int .i64 c, .pointer (some ⟨B, 0, none⟩)] w fun e w' => e = .returned (.int .i64 (gr ls c)) ∧ Below w.heap.size w w' := by
  obtain ⟨b, rfl, hb0, hL⟩ := hu
  go_enter Tryz.func241, Tryz.ntmps241
  go_wp2_with fail
  go_loopw [4, 9] (fun m i wr => ∃ k : Nat, k ≤ ls.length ∧ i = .int .i64 k ∧ m = .int .i64 (gr (ls.take k) c) ∧ Below w.heap.size w wr) (fun _ i _ => ls.length - (intOf i).toNat)
  case atStart => exact ⟨0, Nat.zero_le _, rfl, rfl, Below.refl _ _⟩
  case round =>
    obtain ⟨k, hk, rfl, rfl, hb⟩ := hrel
    by_cases hlt : k < ls.length
    · obtain ⟨p, cap, _, e0, e1, hcat, hcap, h16⟩ := (hL k hlt).below hb
      have HS : Hid (gr (ls.take (k + 1)) c = max (gr (ls.take k) c) (aM ls[k] c)) := gr_snoc ls c k hlt
      have hbw : b < wr.heap.size := Nat.lt_of_lt_of_le hb0 hb.size
      have hbA : Below w.heap.size w (wr.alloc (.cells #[.int .i64 ls[k].1, .slice p ls[k].2.length cap] 26)) := hb.alloc hb.size _
      have hbA' : Below wr.heap.size wr (wr.alloc (.cells #[.int .i64 ls[k].1, .slice p ls[k].2.length cap] 26)) := by go_grown
      have HA := Lib.hid (At_any ls[k].1 c p cap ls[k].2 _ (by unfold maxLen; omega) (hcat.below hbA'))
      have hki : (k : Int) < (ls.length : Int) := by omega
      have hl16 : (ls.length : Int) ≤ 16 := by omega
      clear hL hcat hc hcap
      go_wp2_with (go_at_call 242; refine HA.out.mono ?_; rintro e w2 ⟨rfl, hb2⟩)
      go_roundw
      case rel => exact ⟨k + 1, by omega, by go_num, by rw [HS.out, ← max_if]; rfl, hbA.trans (hb2.mono hbA.size)⟩
      case measure => simp [intOf]; omega
    · obtain rfl : k = ls.length := by omega
      rw [List.take_length]
      have hkk : ¬ (ls.length : Int) < (ls.length : Int) := by omega
      go_wp2
      go_ret
      exact ⟨rfl, hb⟩
/-- A function of a category, as a value: whatever calls it, later too, is told F. -/
def Lev (F : Int → Int) (v : Value) (W : World) : Prop := ∃ f cap, v = .func (.func f) #[] cap ∧ Enters f ∧ ∀ W', Below W.heap.size W W' → ∀ c, Calls Tryz.prog f (#[.int .i64 c] ++ cap) W' fun e W'' => e = .returned (.int .i64 (F c)) ∧ Below W'.heap.size W' W''
theorem Lev.below {F : Int → Int} {v : Value} {W W' : World} (h : Lev F v W) (hb : Below W.heap.size W W') : Lev F v W' := by
  obtain ⟨f, cap, h1, h2, h3⟩ := h
  exact ⟨f, cap, h1, h2, fun W'' hb' c => h3 W'' (hb.trans (hb'.mono hb.size)) c⟩
theorem ent_greatest1 : Enters 241 := fun args W => by go_simp
theorem greatest_c {ls : List ML} {v : Value} {W : World} (h : LsV ls v W) (hn : ls.length ≤ 16) : Calls Tryz.prog 212 #[v] W fun e W' => ∃ v', e = .returned v' ∧ Below W.heap.size W W' ∧ Lev (gr ls) v' W' := by
  have h' := h
  obtain ⟨b, rfl, hb, hL⟩ := h'
  have hA : Below W.heap.size W (W.alloc (.cells #[.slice (some ⟨b, 0, none⟩) ls.length ls.length] 311)) := by go_grown
  have h2 := h.below hA
  have hcell : (W.alloc (.cells #[.slice (some ⟨b, 0, none⟩) ls.length ls.length] 311)).cell? ⟨W.heap.size, 0, none⟩ = some (.slice (some ⟨b, 0, none⟩) ls.length ls.length) := by simp [go_sem]
  have hz : W.heap.size < (W.alloc (.cells #[.slice (some ⟨b, 0, none⟩) ls.length ls.length] 311)).heap.size := by simp
  have HL : Hid (Lev (gr ls) (.func (.func 241) #[] #[.pointer (some ⟨W.heap.size, 0, none⟩)]) (W.alloc (.cells #[.slice (some ⟨b, 0, none⟩) ls.length ls.length] 311))) :=
    ⟨_, _, rfl, ent_greatest1, fun W' hb' c => greatest1_any ls c W.heap.size _ W' ((hb'.cell (p := ⟨W.heap.size, 0, none⟩) hz).trans hcell) (h2.below hb') hn⟩
  clear h h2 hL hcell hz
  go_enter Tryz.func212, Tryz.ntmps212
  go_wp2_with fail
  go_ret
  exact ⟨_, rfl, hA, HL.out⟩
end Go.Proofs.YtfmeajanbmaimaaGreat.Pa
