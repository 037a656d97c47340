/- Contains, ContainsFunc, Concat over rows of numbers; allow. -/
import Derived.Test.YtmgfakfiiaeofaaGreatPaConcat
import Derived.Test.YtmgfakfiiaeofaaGreatPaLooks
/- Labels, rows of labels, of numbers and closures as values, by what they say alone; all of it stays as long as nothing old is changed. -/
namespace Go.Proofs.YtmgfakfiiaeofaaGreat.Pa
open Go.RowKit Go.Sort
abbrev ML := Int × List (Int × Int)
def aM (l : ML) (c : Int) : Int := atS l.1 l.2 c
def LBox (l : ML) (W : World) (b o : Nat) : Prop := ∃ p cap, b < W.heap.size /\ W.cell? ⟨b, o, none⟩ = some (.int .i64 l.1) /\ W.cell? ⟨b, o + 1, none⟩ = some (.slice p l.2.length cap) /\ CatsAt W p l.2 /\ l.2.length <= cap /\ l.2.length <= 16
def LV (l : ML) (v : Value) (W : World) : Prop := ∃ p cap, v = .agg #[.int .i64 l.1, .slice p l.2.length cap] /\ CatsAt W p l.2 /\ l.2.length <= cap /\ l.2.length <= 16
def LsV (ls : List ML) (v : Value) (W : World) : Prop := ∃ b, v = .slice (some ⟨b, 0, none⟩) ls.length ls.length /\ b < W.heap.size /\ ∀ j (h : j < ls.length), LBox ls[j] W b (j * 2)
def IV (cs : List Int) (v : Value) (W : World) : Prop := ∃ base, W.ownsRow base 3 1 v cs.length (icells cs)
theorem LBox.below {l : ML} {W W' : World} {b o : Nat} (h : LBox l W b o) (hb : Below W.heap.size W W') : LBox l W' b o := by
 obtain ⟨p, cap, h1, h2, h3, h4, h5⟩ := h
 exact ⟨p, cap, Nat.lt_of_lt_of_le h1 hb.size, (hb.cell (p := ⟨b, o, none⟩) h1).trans h2, (hb.cell (p := ⟨b, o + 1, none⟩) h1).trans h3, h4.below hb, h5⟩
theorem LV.below {l : ML} {v : Value} {W W' : World} (h : LV l v W) (hb : Below W.heap.size W W') : LV l v W' := by
 obtain ⟨p, cap, h1, h4, h5⟩ := h
 exact ⟨p, cap, h1, h4.below hb, h5⟩
theorem LsV.below {ls : List ML} {v : Value} {W W' : World} (h : LsV ls v W) (hb : Below W.heap.size W W') : LsV ls v W' := by
 obtain ⟨b, h1, h2, h3⟩ := h
 exact ⟨b, h1, Nat.lt_of_lt_of_le h2 hb.size, fun j hj => (h3 j hj).below hb⟩
theorem IV.below {cs : List Int} {v : Value} {W W' : World} (h : IV cs v W) (hb : Below W.heap.size W W') : IV cs v W' := by
 obtain ⟨base, h1⟩ := h
 exact ⟨base, own_belowN h1 hb (Nat.le_refl _)⟩
theorem LV.box {l : ML} {v : Value} {W : World} (h : LV l v W) : ∃ p cap, v = .agg #[.int .i64 l.1, .slice p l.2.length cap] := by
 obtain ⟨p, cap, h, _⟩ := h
 exact ⟨p, cap, h⟩
/- The program's label functions, as they are called. -/
def upM (l : ML) : ML := (upD l.1, upS l.1 l.2)
theorem Up_c {l : ML} {v : Value} {W : World} (h : LV l v W) : Calls Tryz.prog 175 #[v] W fun e W' => ∃ v', e = .returned v' /\ Below W.heap.size W W' /\ LV (upM l) v' W' := by
 obtain ⟨p, cap, rfl, h1, h2, h3⟩ := h
 refine (Up_any l.1 p cap l.2 W (by omega) h1).mono ?_
 rintro e W' ⟨v, rfl, hown, hb⟩
 obtain ⟨p', cap', rfl, hc, hcap⟩ := own_out hown
 exact ⟨_, rfl, hb, p', cap', rfl, hc, hcap, Nat.le_trans (upS_le l.1 l.2) h3⟩
theorem Alters_c {t o : ML} {v u : Value} {W : World} (h : LV t v W) (h' : LV o u W) : Calls Tryz.prog 178 #[v, u] W fun e W' => ∃ v', e = .returned v' /\ Below W.heap.size W W' /\ v' = .bool (altersS t.1 o.1 t.2 o.2) := by
 obtain ⟨p, cap, rfl, h1, h2, h3⟩ := h
 obtain ⟨p', cap', rfl, h1', h2', h3'⟩ := h'
 refine (Alters_any t.1 o.1 p p' cap cap' t.2 o.2 W (by omega) (by unfold maxLen; omega) (by omega) (by omega) h1 h1').mono ?_
 rintro e W' ⟨rfl, hb⟩
 exact ⟨_, rfl, hb, rfl⟩
theorem Free_c {l : ML} {v : Value} {W : World} (h : LV l v W) : Calls Tryz.prog 174 #[v] W fun e W' => ∃ v', e = .returned v' /\ Below W.heap.size W W' /\ v' = .bool (freeS l.1 l.2) := by
 obtain ⟨p, cap, rfl, h1, h2, h3⟩ := h
 refine (Free_any l.1 p cap l.2 W (by unfold maxLen; omega) h1).mono ?_
 rintro e W' ⟨rfl, hb⟩
 exact ⟨_, rfl, hb, rfl⟩
section
variable {ev : Operand -> Value} {W : World} {dst : Option Nat} {ty : TypeId} {pos : String} {af : Array Edge} {gd : Option (Nat × Bool)}
theorem run_loadL {l : ML} {b o : Nat} {x : Operand} (hx : ev x = .pointer (some ⟨b, o, none⟩)) (h : LBox l W b o) :
 ∃ v, (execOp ev { dst := dst, op := .load 46 x, type := ty, pos := pos, after := af, guard := gd }).run Tryz.prog W = .ok (.value v) W /\ LV l v W := by
 obtain ⟨p, cap, hb, h0, h1, hc, hcap, h16⟩ := h
 refine ⟨.agg #[.int .i64 l.1, .slice p l.2.length cap], ?_, p, cap, rfl, hc, hcap, h16⟩
 clear hc hcap h16
 go_simp
theorem run_move {v : Value} {x : Operand} (hx : ev x = v) : (execOp ev { dst := dst, op := .move x, type := ty, pos := pos, after := af, guard := gd }).run Tryz.prog W = .ok (.value v) W := by
 go_simp
theorem run_build (x : Operand) (c : Int) (hx : ev x = .int .i64 c) : (execOp ev { dst := dst, op := .build 46 #[(0, x)], type := ty, pos := pos, after := af, guard := gd }).run Tryz.prog W = .ok (.value (.agg #[.int .i64 c, .slice none 0 0])) W := by
 go_simp
theorem run_slice1 {l : ML} {v : Value} {x : Operand} (hx : ev x = v) (h : LV l v W) :
 ∃ v W', (execOp ev { dst := dst, op := .buildSlice 289 1 #[(0, x)], type := ty, pos := pos, after := af, guard := gd }).run Tryz.prog W = .ok (.value v) W' /\ Below W.heap.size W W' /\ LsV [l] v W' := by
 obtain ⟨p, cap, rfl, hc, hcap, h16⟩ := h
 refine ⟨.slice (some ⟨W.heap.size, 0, none⟩) 1 1, W.alloc (.cells #[.int .i64 l.1, .slice p l.2.length cap] 46), ?_, ?_, ?_⟩
 · clear hc hcap h16
   go_simp
 · go_grown
 · exact ⟨_, rfl, by simp, fun j hj => by
    obtain rfl : j = 0 := by simp at hj; omega
    exact ⟨p, cap, by simp, by simp [go_sem], by simp [go_sem], hc.below (by go_grown), hcap, h16⟩⟩
theorem run_slice2 {l m : ML} {v u : Value} {x y : Operand} (hx : ev x = v) (hy : ev y = u) (h : LV l v W) (h' : LV m u W) :
 ∃ v W', (execOp ev { dst := dst, op := .buildSlice 289 2 #[(0, x), (1, y)], type := ty, pos := pos, after := af, guard := gd }).run Tryz.prog W = .ok (.value v) W' /\ Below W.heap.size W W' /\ LsV [l, m] v W' := by
 obtain ⟨p, cap, rfl, hc, hcap, h16⟩ := h
 obtain ⟨p', cap', rfl, hc', hcap', h16'⟩ := h'
 refine ⟨.slice (some ⟨W.heap.size, 0, none⟩) 2 2, W.alloc (.cells #[.int .i64 l.1, .slice p l.2.length cap, .int .i64 m.1, .slice p' m.2.length cap'] 46), ?_, ?_, ?_⟩
 · clear hc hcap h16 hc' hcap' h16'
   go_simp
 · go_grown
 · exact ⟨_, rfl, by simp, fun j hj => by
    have hj2 : j < 2 := by simpa using hj
    rcases Nat.lt_or_ge j 1 with h0 | h0
    · obtain rfl : j = 0 := by omega
      exact ⟨p, cap, by simp, by simp [go_sem], by simp [go_sem], hc.below (by go_grown), hcap, h16⟩
    · obtain rfl : j = 1 := by omega
      exact ⟨p', cap', by simp, by simp [go_sem], by simp [go_sem], hc'.below (by go_grown), hcap', h16'⟩⟩
def RsV (a b : List Int) (v : Value) (W : World) : Prop := ∃ g x y, v = .slice (some ⟨g, 0, none⟩) 2 2 /\ g < W.heap.size /\ W.cell? ⟨g, 0, none⟩ = some x /\ W.cell? ⟨g, 1, none⟩ = some y /\ IV a x W /\ IV b y W
theorem RsV.below {a b : List Int} {v : Value} {W W' : World} (h : RsV a b v W) (hb : Below W.heap.size W W') : RsV a b v W' := by
 obtain ⟨g, x, y, h1, h2, h3, h4, h5, h6⟩ := h
 exact ⟨g, x, y, h1, Nat.lt_of_lt_of_le h2 hb.size, (hb.cell (p := ⟨g, 0, none⟩) h2).trans h3, (hb.cell (p := ⟨g, 1, none⟩) h2).trans h4, h5.below hb, h6.below hb⟩
theorem IV.form {cs : List Int} {v : Value} (h : IV cs v W) : ∃ p cap, v = .slice p cs.length cap := by
 obtain ⟨base, h⟩ := h
 rcases h.2 with ⟨rfl, h0⟩ | ⟨g, cap, _, rfl, _⟩
 · exact ⟨none, 0, by rw [h0]⟩
 · exact ⟨_, _, rfl⟩
theorem run_rows {a b : List Int} {v u : Value} {x y : Operand} (hx : ev x = v) (hy : ev y = u) (h : IV a v W) (h' : IV b u W) :
 ∃ v W', (execOp ev { dst := dst, op := .buildSlice 325 2 #[(0, x), (1, y)], type := ty, pos := pos, after := af, guard := gd }).run Tryz.prog W = .ok (.value v) W' /\ Below W.heap.size W W' /\ RsV a b v W' := by
 obtain ⟨p, cap, rfl⟩ := h.form
 obtain ⟨p', cap', rfl⟩ := h'.form
 refine ⟨.slice (some ⟨W.heap.size, 0, none⟩) 2 2, W.alloc (.cells #[.slice p a.length cap, .slice p' b.length cap'] 37), ?_, ?_, ?_⟩
 · clear h h'
   go_simp
 · go_grown
 · exact ⟨W.heap.size, _, _, rfl, by simp, by simp [go_sem], by simp [go_sem], h.below (by go_grown), h'.below (by go_grown)⟩
def BsV (bs : List Bool) (v : Value) (W : World) : Prop := ∃ g, v = .slice (some ⟨g, 0, none⟩) bs.length bs.length /\ g < W.heap.size /\ ∀ j (h : j < bs.length), W.cell? ⟨g, j, none⟩ = some (.bool bs[j])
theorem BsV.below {bs : List Bool} {v : Value} {W W' : World} (h : BsV bs v W) (hb : Below W.heap.size W W') : BsV bs v W' := by
 obtain ⟨g, h1, h2, h3⟩ := h
 exact ⟨g, h1, Nat.lt_of_lt_of_le h2 hb.size, fun j hj => (hb.cell (p := ⟨g, j, none⟩) h2).trans (h3 j hj)⟩
theorem run_bools4 {a b c d : Bool} {x y z t : Operand} (hx : ev x = .bool a) (hy : ev y = .bool b) (hz : ev z = .bool c) (ht : ev t = .bool d) :
 ∃ v W', (execOp ev { dst := dst, op := .buildSlice 287 4 #[(0, x), (1, y), (2, z), (3, t)], type := ty, pos := pos, after := af, guard := gd }).run Tryz.prog W = .ok (.value v) W' /\ Below W.heap.size W W' /\ BsV [a, b, c, d] v W' := by
 refine ⟨.slice (some ⟨W.heap.size, 0, none⟩) 4 4, W.alloc (.cells #[.bool a, .bool b, .bool c, .bool d] 4), ?_, ?_, ?_⟩
 · go_simp
 · go_grown
 · exact ⟨W.heap.size, rfl, by simp, fun j hj => by
    have hj2 : j < 4 := by simpa using hj
    rcases Nat.lt_or_ge j 1 with h0 | h0
    · obtain rfl : j = 0 := by omega
      simp [go_sem]
    · rcases Nat.lt_or_ge j 2 with h0 | h0
      · obtain rfl : j = 1 := by omega
        simp [go_sem]
      · rcases Nat.lt_or_ge j 3 with h0 | h0
        · obtain rfl : j = 2 := by omega
          simp [go_sem]
        · obtain rfl : j = 3 := by omega
          simp [go_sem]⟩
def Enters (f : Nat) : Prop := ∀ (args : Array Value) (W : World), (callFunc f args).run Tryz.prog W = .ok (.enter f args) W
theorem run_call {f : Nat} {xs : Array Operand} {vs : Array Value} {ts : Array TypeId} (hf : ev (.func f) = .func (.func f) #[] #[]) (hx : xs.map ev = vs) (he : Enters f) :
 (execOp ev { dst := dst, op := .call { callee := .value (.func f), args := xs, argTypes := ts }, type := ty, pos := pos, after := af, guard := gd }).run Tryz.prog W = .ok (.enter f vs) W := by
 have he' := he vs W
 go_simp
theorem run_callF {f : Nat} {x : Operand} {xs : Array Operand} {vs cap : Array Value} {ts : Array TypeId} (hf : ev x = .func (.func f) #[] cap) (hx : xs.map ev = vs) (he : Enters f) :
 (execOp ev { dst := dst, op := .call { callee := .value x, args := xs, argTypes := ts }, type := ty, pos := pos, after := af, guard := gd }).run Tryz.prog W = .ok (.enter f (vs ++ cap)) W := by
 have he' := he (vs ++ cap) W
 go_simp
end
def catL (l : ML) : List Int := l.2.map (·.1)
def namL (ls : List ML) : List Int := ls.flatMap catL
theorem namL_snoc (ls : List ML) (k : Nat) (h : k < ls.length) : namL (ls.take (k + 1)) = namL (ls.take k) ++ catL ls[k] := by
 unfold namL; rw [List.take_succ_eq_append_getElem h, List.flatMap_append]; simp
theorem catL_snoc (l : ML) (k : Nat) (h : k < l.2.length) : (l.2.take (k + 1)).map (·.1) = (l.2.take k).map (·.1) ++ [l.2[k].1] := by
 rw [List.take_succ_eq_append_getElem h, List.map_append]; rfl
theorem namL_len (ls : List ML) (h : ∀ l ∈ ls, l.2.length <= 16) : (namL ls).length <= ls.length * 16 := by
 induction ls with
 | nil => simp [namL]
 | cons l ls ih =>
  have h1 := ih fun x hx => h x (List.mem_cons_of_mem _ hx)
  have h2 := h l (List.mem_cons_self ..)
  unfold namL at h1 |-
  rw [List.flatMap_cons, List.length_append]
  simp only [catL, List.length_map, List.length_cons]
  have : (catL l).length = l.2.length := by simp [catL]
  omega
set_option maxRecDepth 100000 in
set_option maxHeartbeats 2000000 in
theorem named_c {ls : List ML} {v : Value} {w : World} (h : LsV ls v w) (hn : ls.length <= 16) : Calls Tryz.prog 209 #[v] w fun e w' => ∃ v', e = .returned v' /\ Below w.heap.size w w' /\ IV (namL ls) v' w' := by
 obtain ⟨b, rfl, hb0, hL⟩ := h
 obtain ⟨i0, hi, hz0, hz1, hz2⟩ := info_parts info3
 have h16 : ∀ l ∈ ls, l.2.length <= 16 := fun l hl => by
  obtain ⟨j, hj, rfl⟩ := List.getElem_of_mem hl
  obtain ⟨_, _, _, _, _, _, _, h⟩ := hL j hj
  exact h
 have hlen : ∀ k, (namL (ls.take k)).length <= 256 := fun k => by
  have := namL_len (ls.take k) fun l hl => h16 l (List.mem_of_mem_take hl)
  have h2 : (ls.take k).length <= ls.length := by rw [List.length_take]; omega
  omega
 have hl16 : (ls.length : Int) <= 16 := by omega
 go_enter Tryz.func209, Tryz.ntmps209
 go_wp2_with fail
 go_loopw [3, 10] (fun r i wr => ∃ k : Nat, k <= ls.length /\ i = .int .i64 k /\ wr.ownsRow w.heap.size 3 1 r (namL (ls.take k)).length (icells (namL (ls.take k))) /\ Below w.heap.size w wr) (fun _ i _ => ls.length - (intOf i).toNat)
 case atStart => exact ⟨0, Nat.zero_le _, rfl, World.ownsRow_nil _ _ _ _, Below.refl _ _⟩
 case round =>
  obtain ⟨k, hk, rfl, hown, hb⟩ := hrel
  obtain ⟨W1, rfl⟩ : ∃ W1, W1 = wr := ⟨wr, rfl⟩
  by_cases hlt : k < ls.length
  · obtain ⟨p, cap, _, e0w, e1w, hcat, hcap, hx16⟩ := hL k hlt
    have e0 := (hb.cell (p := ⟨b, k * 2, none⟩) hb0).trans e0w
    have e1 := (hb.cell (p := ⟨b, k * 2 + 1, none⟩) hb0).trans e1w
    have HS := Lib.hid (namL_snoc ls k hlt)
    have hbw : b < W1.heap.size := Nat.lt_of_lt_of_le hb0 hb.size
    have hlk := hlen k
    have hbA : Below w.heap.size w (W1.alloc (.cells #[.int .i64 ls[k].1, .slice p ls[k].2.length cap] 46)) := hb.alloc hb.size _
    have hki : (k : Int) < (ls.length : Int) := by omega
    obtain ⟨T, hT⟩ : ∃ T, namL (ls.take k) = T := ⟨_, rfl⟩
    rw [hT] at hown hlk
    have HT := Lib.hid hT
    clear hL h16 hlen hT e0w e1w
    go_wp2_with fail
    go_loopw [3, 17] (fun r i wr => ∃ j : Nat, j <= ls[k].2.length /\ i = .int .i64 j /\ wr.ownsRow w.heap.size 3 1 r (T ++ (ls[k].2.take j).map (·.1)).length (icells (T ++ (ls[k].2.take j).map (·.1))) /\ Below w.heap.size w wr) (fun _ i _ => ls[k].2.length - (intOf i).toNat)
    case atStart => exact ⟨0, Nat.zero_le _, rfl, by simpa using hown.alloc _, hbA⟩
    case round =>
     obtain ⟨j, hj, rfl, hown2, hb2⟩ := hrel
     by_cases hlt2 : j < ls[k].2.length
     · obtain ⟨bx, ox, hpx, hblx, x0, x1⟩ := hcat.get hb2 (Below.refl _ _) (Nat.le_refl _) j hlt2
       have HJ := Lib.hid (catL_snoc ls[k] j hlt2)
       have hl2 : (T ++ (ls[k].2.take j).map (·.1)).length <= 300 := by simp; omega
       obtain ⟨cs, hcs⟩ : ∃ cs, T ++ (ls[k].2.take j).map (·.1) = cs := ⟨_, rfl⟩
       rw [hcs] at hown2 hl2
       have HCS := Lib.hid hcs
       clear hcs
       rw [hpx]
       have hbxw : bx < wr.heap.size := Nat.lt_of_lt_of_le hblx hb2.size
       have hji : (j : Int) < (ls[k].2.length : Int) := by omega
       have hA2 : Below w.heap.size w (wr.alloc (.cells #[.int .i64 ls[k].2[j].1, .int .i64 ls[k].2[j].2] 163)) := hb2.alloc hb2.size _
       have hA3 := hA2.alloc (hA2.size) (.cells #[.int .i64 ls[k].2[j].1] 3)
       have hownA := (hown2.alloc (.cells #[.int .i64 ls[k].2[j].1, .int .i64 ls[k].2[j].2] 163)).alloc (.cells #[.int .i64 ls[k].2[j].1] 3)
       have HO := Lib.hid (cell_one_new' (wr.alloc (.cells #[.int .i64 ls[k].2[j].1, .int .i64 ls[k].2[j].2] 163)) (.int .i64 ls[k].2[j].1) 3)
       have h63 : cs.length + 1 <= maxLen := by unfold maxLen; omega
       have hby : (cs.length + 1) * 8 <= 140737488355328 := by omega
       have hsz : w.heap.size <= ((wr.alloc (.cells #[.int .i64 ls[k].2[j].1, .int .i64 ls[k].2[j].2] 163)).alloc (.cells #[.int .i64 ls[k].2[j].1] 3)).heap.size := hA3.size
       have HLT := Lib.hid hownA.lt
       clear hcat
       go_wp2_with (at_builtin; refine wpList_append_own _ rfl _ _ 37 rfl w.heap.size 3 i0 (.int .i64 0) 1 8 Tryz.underlying37 hi hz0 hz1 hz2 rfl (by decide) _ _ _ rfl hownA ⟨wr.heap.size + 1, 0, none⟩ 1 1 [.int .i64 ls[k].2[j].1] rfl rfl (by have := HO.out; simpa using this) (fun x hx => by simp at hx; subst hx; rfl) h63 hby hsz ?_; intro v5 w5 hown5 hgrow5 hnil5)
       go_roundw
       case rel =>
        refine ⟨j + 1, by omega, by go_num, ?_, Below.grown hA3 hgrow5 hsz (fun g hg => (HLT.out g hg).1)⟩
        have h := hown5
        rw [HJ.out, <- List.append_assoc, HCS.out]
        rw [show [Value.int .i64 ls[k].2[j].1] = icells [ls[k].2[j].1] from rfl, <- icells_append] at h
        simpa using h
       case measure => simp [intOf]; omega
     · obtain rfl : j = ls[k].2.length := by omega
       rw [List.take_length] at hown2
       have hjj : ¬ (ls[k].2.length : Int) < (ls[k].2.length : Int) := by omega
       go_wp2
       refine ⟨⟨k + 1, by omega, by go_num, ?_, hb2⟩, ?_⟩
       · rw [HS.out, HT.out]; exact hown2
       · simp [intOf]; omega
  · obtain rfl : k = ls.length := by omega
    rw [List.take_length] at hown
    have hkk : ¬ (ls.length : Int) < (ls.length : Int) := by omega
    go_wp2
    go_ret
    exact ⟨_, rfl, hb, _, hown⟩
def gr (ls : List ML) (c : Int) : Int := ls.foldl (fun m l => max m (aM l c)) 0
theorem max_if (a b : Int) : (if a < b then b else a) = max a b := by
 rw [Int.max_def]; split <;> split <;> omega
theorem gr_snoc (ls : List ML) (c : Int) (k : Nat) (h : k < ls.length) : gr (ls.take (k + 1)) c = max (gr (ls.take k) c) (aM ls[k] c) := by
 unfold gr; rw [List.take_succ_eq_append_getElem h, List.foldl_append]; rfl
set_option maxRecDepth 100000 in
set_option maxHeartbeats 1000000 in
theorem greatest1_any (ls : List ML) (c : Int) (B : Nat) (u : Value) (w : World) (hc : w.cell? ⟨B, 0, none⟩ = some u) (hu : LsV ls u w) (hn : ls.length <= 16) :
 Calls Tryz.prog 242 #[.int .i64 c, .pointer (some ⟨B, 0, none⟩)] w fun e w' => e = .returned (.int .i64 (gr ls c)) /\ Below w.heap.size w w' := by
 obtain ⟨b, rfl, hb0, hL⟩ := hu
 go_enter Tryz.func242, Tryz.ntmps242
 go_wp2_with fail
 go_loopw [4, 9] (fun m i wr => ∃ k : Nat, k <= ls.length /\ i = .int .i64 k /\ m = .int .i64 (gr (ls.take k) c) /\ Below w.heap.size w wr) (fun _ i _ => ls.length - (intOf i).toNat)
 case atStart => exact ⟨0, Nat.zero_le _, rfl, rfl, Below.refl _ _⟩
 case round =>
  obtain ⟨k, hk, rfl, rfl, hb⟩ := hrel
  by_cases hlt : k < ls.length
  · obtain ⟨p, cap, _, e0, e1, hcat, hcap, h16⟩ := (hL k hlt).below hb
    have HS : Hid (gr (ls.take (k + 1)) c = max (gr (ls.take k) c) (aM ls[k] c)) := gr_snoc ls c k hlt
    have hbw : b < wr.heap.size := Nat.lt_of_lt_of_le hb0 hb.size
    have hbA : Below w.heap.size w (wr.alloc (.cells #[.int .i64 ls[k].1, .slice p ls[k].2.length cap] 46)) := hb.alloc hb.size _
    have hbA' : Below wr.heap.size wr (wr.alloc (.cells #[.int .i64 ls[k].1, .slice p ls[k].2.length cap] 46)) := by go_grown
    have HA := Lib.hid (At_any ls[k].1 c p cap ls[k].2 _ (by unfold maxLen; omega) (hcat.below hbA'))
    have hki : (k : Int) < (ls.length : Int) := by omega
    have hl16 : (ls.length : Int) <= 16 := by omega
    clear hL hcat hc hcap
    go_wp2_with (go_at_call 243; refine HA.out.mono ?_; rintro e w2 ⟨rfl, hb2⟩)
    go_roundw
    case rel => exact ⟨k + 1, by omega, by go_num, by rw [HS.out, aM, <- max_if]; try rfl, hbA.trans (hb2.mono hbA.size)⟩
    case measure => simp [intOf]; omega
  · obtain rfl : k = ls.length := by omega
    rw [List.take_length]
    have hkk : ¬ (ls.length : Int) < (ls.length : Int) := by omega
    go_wp2
    go_ret
    exact ⟨rfl, hb⟩
def Lev (F : Int -> Int) (v : Value) (W : World) : Prop := ∃ f cap, v = .func (.func f) #[] cap /\ Enters f /\ ∀ W', Below W.heap.size W W' -> ∀ c, Calls Tryz.prog f (#[.int .i64 c] ++ cap) W' fun e W'' => e = .returned (.int .i64 (F c)) /\ Below W'.heap.size W' W''
theorem Lev.below {F : Int -> Int} {v : Value} {W W' : World} (h : Lev F v W) (hb : Below W.heap.size W W') : Lev F v W' := by
 obtain ⟨f, cap, h1, h2, h3⟩ := h
 exact ⟨f, cap, h1, h2, fun W'' hb' c => h3 W'' (hb.trans (hb'.mono hb.size)) c⟩
theorem ent_greatest1 : Enters 242 := fun args W => by go_simp
theorem greatest_c {ls : List ML} {v : Value} {W : World} (h : LsV ls v W) (hn : ls.length <= 16) : Calls Tryz.prog 208 #[v] W fun e W' => ∃ v', e = .returned v' /\ Below W.heap.size W W' /\ Lev (gr ls) v' W' := by
 have h' := h
 obtain ⟨b, rfl, hb, hL⟩ := h'
 have hA : Below W.heap.size W (W.alloc (.cells #[.slice (some ⟨b, 0, none⟩) ls.length ls.length] 289)) := by go_grown
 have h2 := h.below hA
 have hcell : (W.alloc (.cells #[.slice (some ⟨b, 0, none⟩) ls.length ls.length] 289)).cell? ⟨W.heap.size, 0, none⟩ = some (.slice (some ⟨b, 0, none⟩) ls.length ls.length) := by simp [go_sem]
 have hz : W.heap.size < (W.alloc (.cells #[.slice (some ⟨b, 0, none⟩) ls.length ls.length] 289)).heap.size := by simp
 have HL : Hid (Lev (gr ls) (.func (.func 242) #[] #[.pointer (some ⟨W.heap.size, 0, none⟩)]) (W.alloc (.cells #[.slice (some ⟨b, 0, none⟩) ls.length ls.length] 289))) :=
  ⟨_, _, rfl, ent_greatest1, fun W' hb' c => greatest1_any ls c W.heap.size _ W' ((hb'.cell (p := ⟨W.heap.size, 0, none⟩) hz).trans hcell) (h2.below hb') hn⟩
 clear h h2 hL hcell hz
 go_enter Tryz.func208, Tryz.ntmps208
 go_wp2_with fail
 go_ret
 exact ⟨_, rfl, hA, HL.out⟩
theorem iv_cell {cs : List Int} {W : World} {p : Option Addr} {n cap : Nat} (h : IV cs (.slice p n cap) W) (k : Nat) (hk : k < cs.length) : ∃ g, p = some ⟨g, 0, none⟩ /\ g < W.heap.size /\ W.cell? ⟨g, k, none⟩ = some (.int .i64 cs[k]) := by
 obtain ⟨base, h⟩ := h
 rcases h.2 with ⟨h', h0⟩ | ⟨g', cap', cur, h', _⟩
 · omega
 · cases h'
   exact ⟨g', rfl, (h.lt g' rfl).2, (h.cellAt k (by omega)).trans (by unfold icells; simp [hk])⟩
def idxP (P : Int -> Bool) : List Int -> Nat -> Int
 | [], _ => -1
 | y :: l, k => if P y = true then (k : Int) else idxP P l (k + 1)
theorem idxP_step (P : Int -> Bool) (l : List Int) (k : Nat) (h : k < l.length) : idxP P (l.drop k) k = if P l[k] = true then (k : Int) else idxP P (l.drop (k + 1)) (k + 1) := by
 rw [List.drop_eq_getElem_cons h]; rfl
theorem idxP_any (P : Int -> Bool) (l : List Int) (k : Nat) : decide (0 <= idxP P l k) = l.any P := by
 induction l generalizing k with
 | nil => simp [idxP]
 | cons y l ih =>
  by_cases h : P y = true
  · simp [idxP, h]
  · have h' : P y = false := by simpa using h
    simp only [idxP, h', Bool.false_eq_true, if_false, ih (k + 1), List.any_cons, Bool.false_or]
def PrdV (P : Int -> Bool) (v : Value) (W : World) : Prop := ∃ f cap, v = .func (.func f) #[] cap /\ Enters f /\ ∀ W', Below W.heap.size W W' -> ∀ c, Calls Tryz.prog f (#[.int .i64 c] ++ cap) W' fun e W'' => e = .returned (.bool (P c)) /\ Below W'.heap.size W' W''
theorem PrdV.below {P : Int -> Bool} {v : Value} {W W' : World} (h : PrdV P v W) (hb : Below W.heap.size W W') : PrdV P v W' := by
 obtain ⟨f, cap, h1, h2, h3⟩ := h
 exact ⟨f, cap, h1, h2, fun W'' hb' c => h3 W'' (hb.trans (hb'.mono hb.size)) c⟩
set_option maxRecDepth 100000 in
set_option maxHeartbeats 1000000 in
theorem IndexFunc_c {P : Int -> Bool} {cs : List Int} {v u : Value} {w : World} (h : IV cs v w) (hP : PrdV P u w) (hn : cs.length < 1000000) :
 Calls Tryz.prog 269 #[v, u] w fun e w' => e = .returned (.int .i64 (idxP P cs 0)) /\ Below w.heap.size w w' := by
 obtain ⟨p, cap, rfl⟩ := h.form
 obtain ⟨f, cp, rfl, he, hF⟩ := hP
 have he' := fun args W => he args W
 have HF := Lib.hid hF
 have HI := Lib.hid h
 clear h hF he
 go_enter Tryz.func269, Tryz.ntmps269
 go_wp2_with fail
 go_loopw [8] (fun y wr => ∃ k : Nat, y = .int .i64 k /\ k <= cs.length /\ idxP P cs 0 = idxP P (cs.drop k) k /\ Below w.heap.size w wr) (fun y _ => (cs.length - (RowKit.intOf y).toNat))
 case atStart => exact ⟨0, rfl, Nat.zero_le _, by simp, Below.refl _ _⟩
 case round =>
  obtain ⟨k, rfl, hk, hx, hb⟩ := hrel
  have HX := Lib.hid hx
  clear hx
  by_cases hlt : k < cs.length
  · have hki : (k : Int) < (cs.length : Int) := by omega
    obtain ⟨g, rfl, hg, c0w⟩ := iv_cell HI.out k hlt
    have c0 := (hb.cell (p := ⟨g, k, none⟩) hg).trans c0w
    have HC := Lib.hid (HF.out wr hb cs[k])
    have HST := Lib.hid (idxP_step P cs k hlt)
    obtain ⟨x, hx⟩ : ∃ x, P cs[k] = x := ⟨_, rfl⟩
    rw [hx] at HC HST
    clear c0w hx
    cases x with
    | true =>
     go_wp2_with fail
     refine HC.out.mono ?_
     rintro e w1 ⟨rfl, hb1⟩
     go_wp2
     go_ret
     exact ⟨by rw [HX.out, HST.out]; rfl, hb.trans (hb1.mono hb.size)⟩
    | false =>
     go_wp2_with fail
     refine HC.out.mono ?_
     rintro e w1 ⟨rfl, hb1⟩
     go_wp2
     go_roundw
     case rel => exact ⟨k + 1, by go_num, by omega, by rw [HX.out, HST.out]; rfl, hb.trans (hb1.mono hb.size)⟩
     case measure => simp [RowKit.intOf]; omega
  · obtain rfl : k = cs.length := by omega
    have hkk : ¬ (cs.length : Int) < (cs.length : Int) := by omega
    go_wp2
    go_ret
    exact ⟨by rw [HX.out, List.drop_length]; rfl, hb⟩
theorem ContainsFunc_c {P : Int -> Bool} {cs : List Int} {v u : Value} {w : World} (h : IV cs v w) (hP : PrdV P u w) (hn : cs.length < 1000000) :
 Calls Tryz.prog 240 #[v, u] w fun e w' => e = .returned (.bool (cs.any P)) /\ Below w.heap.size w w' := by
 have H := Lib.hid (IndexFunc_c h hP hn)
 obtain ⟨p, cap, rfl⟩ := h.form
 obtain ⟨f, cp, rfl, he, hF⟩ := hP
 have hd := Lib.hid (idxP_any P cs 0)
 clear h hF he
 go_enter Tryz.func240, Tryz.ntmps240
 go_wp2_with (go_at_call 269; refine H.out.mono ?_; rintro e w1 ⟨rfl, hb1⟩)
 go_ret
 exact ⟨by show Ending.returned (Value.bool (decide _)) = _; rw [hd.out], hb1⟩
theorem Concat_c {a b : List Int} {v : Value} {w : World} (h : RsV a b v w) (hn : a.length + b.length < 1000000) :
 Calls Tryz.prog 221 #[v] w fun e w' => ∃ v', e = .returned v' /\ Below w.heap.size w w' /\ IV (a ++ b) v' w' := by
 obtain ⟨g, x, y, rfl, hg, c0, c1, ⟨bx, hx⟩, ⟨by', hy⟩⟩ := h
 have hcat : cat [(x, a), (y, b)] = a ++ b := by simp [cat]
 have H := Concat_any g 2 [(x, a), (y, b)] w (by rw [hcat, List.length_append]; exact hn) (by simp) hg (fun k hk => by
  have hk2 : k < 2 := by simpa using hk
  rcases Nat.lt_or_ge k 1 with h0 | h0
  · obtain rfl : k = 0 := by omega
    exact c0
  · obtain rfl : k = 1 := by omega
    exact c1) (fun z hz => by
  simp only [List.mem_cons, List.not_mem_nil, or_false] at hz
  rcases hz with rfl | rfl
  · exact (own_src hx).2
  · exact (own_src hy).2)
 rw [hcat] at H
 refine H.mono ?_
 rintro e w' ⟨v, rfl, hown, hb⟩
 exact ⟨v, rfl, hb, _, hown⟩
/- allow -/
def idxB : List Bool -> Nat -> Int
 | [], _ => -1
 | y :: l, k => if y = false then (k : Int) else idxB l (k + 1)
theorem idxB_step (l : List Bool) (k : Nat) (h : k < l.length) : idxB (l.drop k) k = if l[k] = false then (k : Int) else idxB (l.drop (k + 1)) (k + 1) := by
 rw [List.drop_eq_getElem_cons h]; rfl
theorem idxB_any (l : List Bool) (k : Nat) : decide (0 <= idxB l k) = !(l.all id) := by
 induction l generalizing k with
 | nil => simp [idxB]
 | cons y l ih =>
  cases y with
  | false => simp [idxB]
  | true =>
   simp only [idxB, Bool.true_eq_false, if_false, ih (k + 1), List.all_cons, id, Bool.true_and]
set_option maxRecDepth 100000 in
set_option maxHeartbeats 1000000 in
theorem IndexB_c {bs : List Bool} {v : Value} {w : World} (h : BsV bs v w) (hn : bs.length < 1000) :
 Calls Tryz.prog 265 #[v, .bool false] w fun e w' => e = .returned (.int .i64 (idxB bs 0)) /\ w' = w := by
 obtain ⟨g, rfl, hg, hc⟩ := h
 go_enter Tryz.func265, Tryz.ntmps265
 go_wp2_with fail
 go_loopw [8] (fun y wr => ∃ k : Nat, y = .int .i64 k /\ k <= bs.length /\ idxB bs 0 = idxB (bs.drop k) k /\ w = wr) (fun y _ => (bs.length - (RowKit.intOf y).toNat))
 case atStart => exact ⟨0, rfl, Nat.zero_le _, by simp, rfl⟩
 case round =>
  obtain ⟨k, rfl, hk, hx, rfl⟩ := hrel
  have HX := Lib.hid hx
  clear hx
  by_cases hlt : k < bs.length
  · have hki : (k : Int) < (bs.length : Int) := by omega
    have c0 := hc k hlt
    have HST := Lib.hid (idxB_step bs k hlt)
    obtain ⟨x, hx⟩ : ∃ x, bs[k] = x := ⟨_, rfl⟩
    rw [hx] at c0 HST
    clear hc hx
    cases x with
    | false =>
     go_wp2
     go_ret
     exact ⟨by rw [HX.out, HST.out]; rfl, rfl⟩
    | true =>
     go_wp2
     go_roundw
     case rel => exact ⟨k + 1, by go_num, by omega, by rw [HX.out, HST.out]; rfl, trivial⟩
     case measure => simp [RowKit.intOf]; omega
  · obtain rfl : k = bs.length := by omega
    have hkk : ¬ (bs.length : Int) < (bs.length : Int) := by omega
    go_wp2
    go_ret
    exact ⟨by rw [HX.out, List.drop_length]; rfl, rfl⟩
theorem ContainsB_c {bs : List Bool} {v : Value} {w : World} (h : BsV bs v w) (hn : bs.length < 1000) :
 Calls Tryz.prog 220 #[v, .bool false] w fun e w' => e = .returned (.bool (!(bs.all id))) /\ w' = w := by
 have H := Lib.hid (IndexB_c h hn)
 obtain ⟨g, rfl, hg, hc⟩ := h
 have hd := Lib.hid (idxB_any bs 0)
 clear hc
 go_enter Tryz.func220, Tryz.ntmps220
 go_wp2_with (go_at_call 265; refine H.out.mono ?_; rintro e w1 ⟨rfl, hw1⟩; rw [hw1]; clear hw1 w1)
 go_ret
 exact ⟨by show Ending.returned (Value.bool (decide _)) = _; rw [hd.out], rfl⟩
def allowI (bs : List Bool) : Int := if bs.all id = true then 0 else 3
theorem allow_c {bs : List Bool} {v : Value} {w : World} (h : BsV bs v w) (hn : bs.length < 1000) :
 Calls Tryz.prog 172 #[v] w fun e w' => ∃ v', e = .returned v' /\ Below w.heap.size w w' /\ v' = .int .i64 (allowI bs) := by
 have H := Lib.hid (ContainsB_c h hn)
 obtain ⟨g, rfl, hg, hc⟩ := h
 obtain ⟨x, hx⟩ : ∃ x, bs.all id = x := ⟨_, rfl⟩
 have HX := Lib.hid hx
 rw [hx] at H
 clear hc hx
 cases x with
 | true =>
  go_enter Tryz.func172, Tryz.ntmps172
  go_wp2_with (go_at_call 220; refine H.out.mono ?_; rintro e w1 ⟨rfl, hw1⟩; rw [hw1]; clear hw1 w1)
  go_ret
  exact ⟨_, rfl, Below.refl _ _, by unfold allowI; rw [HX.out]; rfl⟩
 | false =>
  go_enter Tryz.func172, Tryz.ntmps172
  go_wp2_with (go_at_call 220; refine H.out.mono ?_; rintro e w1 ⟨rfl, hw1⟩; rw [hw1]; clear hw1 w1)
  go_ret
  exact ⟨_, rfl, Below.refl _ _, by unfold allowI; rw [HX.out]; rfl⟩
end Go.Proofs.YtmgfakfiiaeofaaGreat.Pa
