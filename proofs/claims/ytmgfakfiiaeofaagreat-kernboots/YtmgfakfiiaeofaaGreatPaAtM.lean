/- atMost. -/
import Derived.Test.YtmgfakfiiaeofaaGreatPaIdx
/- More single operations; when a guarded operation is wanted. -/
namespace Go.Proofs.YtmgfakfiiaeofaaGreat.Pa
open Go.RowKit Go.Sort
section
variable {ev : Operand -> Value} {W : World} {dst : Option Nat} {ty : TypeId} {pos : String} {af : Array Edge} {gd : Option (Nat × Bool)}
theorem run_loadF {F : Int -> Int} {u : Value} {b : Nat} {x : Operand} (hx : ev x = .pointer (some ⟨b, 0, none⟩)) (hc : W.cell? ⟨b, 0, none⟩ = some u) (hu : Lev F u W) :
 (execOp ev { dst := dst, op := .load 275 x, type := ty, pos := pos, after := af, guard := gd }).run Tryz.prog W = .ok (.value u) W := by
 obtain ⟨f, cap, rfl, _, _⟩ := hu
 go_simp
theorem run_gtr {a b : Int} {x y : Operand} {t : TypeId} (hx : ev x = .int .i64 a) (hy : ev y = .int .i64 b) :
 (execOp ev { dst := dst, op := .binOp .gtr 3 x y t, type := ty, pos := pos, after := af, guard := gd }).run Tryz.prog W = .ok (.value (.bool (decide (b < a)))) W := by
 go_simp
theorem lv_nil (c : Int) (W : World) : LV (c, []) (.agg #[.int .i64 c, .slice none 0 0]) W := ⟨none, 0, rfl, fun j h => absurd h (by simp), by simp, by simp⟩
end
theorem map_1 {f : Operand -> Value} {a : Operand} : Array.map f #[a] = #[f a] := by simp
theorem map_2 {f : Operand -> Value} {a b : Operand} : Array.map f #[a, b] = #[f a, f b] := by simp
theorem map_3 {f : Operand -> Value} {a b c : Operand} : Array.map f #[a, b, c] = #[f a, f b, f c] := by simp
/- Guards. -/
theorem yielded_of {l : List Oper} {a' : Act} {j d : Nat} {b : Bool} {n : Nat} (hs : a'.tmps.size = n) (hd : (l[j]?).bind (·.dst) = some d) (hn : d < n) (hv : a'.eval (.tmp d) = .bool b) : yielded l.toArray a'.tmps j = some b := by
 unfold yielded
 simp only [List.getElem?_toArray]
 rw [hd]
 simp only [Option.bind_some]
 have hlt : d < a'.tmps.size := by omega
 simp only [Act.eval, Array.getD_eq_getD_getElem?, Array.getElem?_eq_getElem hlt, Option.getD_some] at hv
 rw [Array.getElem?_eq_getElem hlt, hv]
theorem want_yes {l : List Oper} {o : Oper} {a' : Act} {j d : Nat} {b : Bool} {n : Nat} (ho : o.guard = some (j, b)) (hs : a'.tmps.size = n) (hn : d < n) (hd : (l[j]?).bind (·.dst) = some d) (hv : a'.eval (.tmp d) = .bool b) : Region.wanted o (yielded l.toArray a'.tmps) = true := by
 unfold Region.wanted
 rw [ho]
 simp only
 rw [yielded_of hs hd hn hv]
 simp
set_option maxRecDepth 100000 in
set_option maxHeartbeats 1000000 in
theorem under1_any (F F' : Int -> Int) (c : Int) (B C : Nat) (u u' : Value) (w : World) (hc : w.cell? ⟨B, 0, none⟩ = some u) (hc' : w.cell? ⟨C, 0, none⟩ = some u') (hu : Lev F u w) (hu' : Lev F' u' w) :
 Calls Tryz.prog 239 #[.int .i64 c, .pointer (some ⟨B, 0, none⟩), .pointer (some ⟨C, 0, none⟩)] w fun e w' => e = .returned (.bool (decide (F' c < F c))) /\ Below w.heap.size w w' := by
 have hBl : B < w.heap.size := World.block_lt_of_cell? w _ hc
 have hCl : C < w.heap.size := World.block_lt_of_cell? w _ hc'
 go_enter Tryz.func239, Tryz.ntmps239
 go_wp2_with fail
 refine wp_region_mono 7 (fun k v W => match k with | 5 => Lev F v W | 6 => v = .int .i64 c | 7 => v = .int .i64 (F c) | 8 => Lev F' v W | 9 => v = .int .i64 c | 10 => v = .int .i64 (F' c) | 11 => v = .bool (decide ((F' c) < (F c))) | _ => True) (by kernel_rfl) (by kernel_rfl) (by kernel_rfl) (by kernel_rfl) (by simp) (by kernel_rfl) ?_ ?_ ?_
 · intro k v W W' h hb
   revert h
   try dsimp only
   split
   · intro h; exact Lev.below h hb
   · intro h; exact h
   · intro h; exact h
   · intro h; exact Lev.below h hb
   · intro h; exact h
   · intro h; exact h
   · intro h; exact h
   · intro h; trivial
 · intro a' W hB hs hk i o d ho hd hG
   match i, ho with
   | 0, ho =>
    cases ho
    obtain rfl : 5 = d := Option.some.inj hd
    have hcl := (hB.cell (p := ⟨B, 0, none⟩) hBl).trans hc
    exact .inr ⟨rfl, .inl ⟨u, W, run_loadF (hk 1 (by kernel_rfl)) hcl (hu.below hB), Below.refl _ _, hu.below hB⟩⟩
   | 1, ho =>
    cases ho
    obtain rfl : 6 = d := Option.some.inj hd
    exact .inr ⟨rfl, .inl ⟨_, W, run_move (hk 0 (by kernel_rfl)), Below.refl _ _, rfl⟩⟩
   | 2, ho =>
    cases ho
    obtain rfl : 7 = d := Option.some.inj hd
    have g6 : (a'.eval (.tmp 6)) = .int .i64 c := hG ⟨1, .data⟩ (by simp) rfl 6 rfl
    have g5 : Lev F (a'.eval (.tmp 5)) W := hG ⟨0, .data⟩ (by simp) rfl 5 rfl
    have ha : (#[Operand.tmp 6] : Array Operand).map a'.eval = #[Value.int .i64 c] := by rw [map_1, g6]
    obtain ⟨f, cap, hf, he, hF⟩ := g5
    exact .inr ⟨rfl, .inr ⟨_, _, run_callF hf ha he, (hF W (Below.refl _ _) c).mono (by rintro e W' ⟨rfl, hb⟩; exact ⟨_, rfl, hb, rfl⟩)⟩⟩
   | 3, ho =>
    cases ho
    obtain rfl : 8 = d := Option.some.inj hd
    have hcl := (hB.cell (p := ⟨C, 0, none⟩) hCl).trans hc'
    exact .inr ⟨rfl, .inl ⟨u', W, run_loadF (hk 2 (by kernel_rfl)) hcl (hu'.below hB), Below.refl _ _, hu'.below hB⟩⟩
   | 4, ho =>
    cases ho
    obtain rfl : 9 = d := Option.some.inj hd
    exact .inr ⟨rfl, .inl ⟨_, W, run_move (hk 0 (by kernel_rfl)), Below.refl _ _, rfl⟩⟩
   | 5, ho =>
    cases ho
    obtain rfl : 10 = d := Option.some.inj hd
    have g9 : (a'.eval (.tmp 9)) = .int .i64 c := hG ⟨4, .data⟩ (by simp) rfl 9 rfl
    have g8 : Lev F' (a'.eval (.tmp 8)) W := hG ⟨3, .data⟩ (by simp) rfl 8 rfl
    have ha : (#[Operand.tmp 9] : Array Operand).map a'.eval = #[Value.int .i64 c] := by rw [map_1, g9]
    obtain ⟨f, cap, hf, he, hF⟩ := g8
    exact .inr ⟨rfl, .inr ⟨_, _, run_callF hf ha he, (hF W (Below.refl _ _) c).mono (by rintro e W' ⟨rfl, hb⟩; exact ⟨_, rfl, hb, rfl⟩)⟩⟩
   | 6, ho =>
    cases ho
    obtain rfl : 11 = d := Option.some.inj hd
    have g7 : (a'.eval (.tmp 7)) = .int .i64 (F c) := hG ⟨2, .data⟩ (by simp) rfl 7 rfl
    have g10 : (a'.eval (.tmp 10)) = .int .i64 (F' c) := hG ⟨5, .data⟩ (by simp) rfl 10 rfl
    exact .inr ⟨rfl, .inl ⟨_, W, run_gtr g7 g10, Below.refl _ _, rfl⟩⟩
   | j + 7, ho => simp at ho
 · intro a' W hB hs hdf hk hG
   obtain ⟨tm, df⟩ := a'
   obtain rfl : df = [] := hdf
   have e0 : tm.getD 0 undef = .int .i64 c := hk 0 (by kernel_rfl)
   have e1 : tm.getD 1 undef = .pointer (some ⟨B, 0, none⟩) := hk 1 (by kernel_rfl)
   have e2 : tm.getD 2 undef = .pointer (some ⟨C, 0, none⟩) := hk 2 (by kernel_rfl)
   have e3 : tm.getD 3 undef = undef := hk 3 (by kernel_rfl)
   have e4 : tm.getD 4 undef = .bool false := hk 4 (by kernel_rfl)
   have g5 : Lev F (tm.getD 5 undef) W := hG 0 5 (by decide) rfl
   have g6 : (tm.getD 6 undef) = .int .i64 c := hG 1 6 (by decide) rfl
   have g7 : (tm.getD 7 undef) = .int .i64 (F c) := hG 2 7 (by decide) rfl
   have g8 : Lev F' (tm.getD 8 undef) W := hG 3 8 (by decide) rfl
   have g9 : (tm.getD 9 undef) = .int .i64 c := hG 4 9 (by decide) rfl
   have g10 : (tm.getD 10 undef) = .int .i64 (F' c) := hG 5 10 (by decide) rfl
   have g11 : (tm.getD 11 undef) = .bool (decide ((F' c) < (F c))) := hG 6 11 (by decide) rfl
   have htm := arr_of tm [.int .i64 c, .pointer (some ⟨B, 0, none⟩), .pointer (some ⟨C, 0, none⟩), undef, .bool false, tm.getD 5 undef, tm.getD 6 undef, tm.getD 7 undef, tm.getD 8 undef, tm.getD 9 undef, tm.getD 10 undef, tm.getD 11 undef] hs (by show [tm.getD 0 undef, tm.getD 1 undef, tm.getD 2 undef, tm.getD 3 undef, tm.getD 4 undef, tm.getD 5 undef, tm.getD 6 undef, tm.getD 7 undef, tm.getD 8 undef, tm.getD 9 undef, tm.getD 10 undef, tm.getD 11 undef] = _; rw [e0, e1, e2, e3, e4])
   clear hs hk hG e0 e1 e2 e3 e4
   generalize tm.getD 5 undef = t5 at htm g5
   generalize tm.getD 6 undef = t6 at htm g6
   generalize tm.getD 7 undef = t7 at htm g7
   generalize tm.getD 8 undef = t8 at htm g8
   generalize tm.getD 9 undef = t9 at htm g9
   generalize tm.getD 10 undef = t10 at htm g10
   generalize tm.getD 11 undef = t11 at htm g11
   subst htm
   subst g6
   subst g7
   subst g9
   subst g10
   subst g11
   simp only [List.drop_succ_cons, List.drop_zero]
   go_wp2
   go_ret
   exact ⟨rfl, hB⟩
theorem ent_under1 : Enters 239 := fun args W => by go_simp
def undB (F F' : Int -> Int) (cs : List Int) : Bool := !decide (F' 0 < F 0) && !(cs.any fun c => decide (F' c < F c))
set_option maxRecDepth 100000 in
set_option maxHeartbeats 1000000 in
theorem under_c {F F' : Int -> Int} {cs : List Int} {v u z : Value} {w : World} (h : Lev F v w) (h' : Lev F' u w) (hz : IV cs z w) (hn : cs.length < 1000000) :
 Calls Tryz.prog 206 #[v, u, z] w fun e w' => ∃ v', e = .returned v' /\ Below w.heap.size w w' /\ v' = .bool (undB F F' cs) := by
 obtain ⟨f, cap, rfl, he, hF⟩ := id h
 obtain ⟨f', cap', rfl, he', hF'⟩ := id h'
 obtain ⟨p, cz, rfl⟩ := hz.form
 obtain ⟨W2, hW2⟩ : ∃ W2, W2 = (w.alloc (.cells #[.func (.func f) #[] cap] 275)).alloc (.cells #[.func (.func f') #[] cap'] 275) := ⟨_, rfl⟩
 have hb : Below w.heap.size w W2 := by rw [hW2]; go_grown
 have hP : PrdV (fun c => decide (F' c < F c)) (.func (.func 239) #[] #[.pointer (some ⟨w.heap.size, 0, none⟩), .pointer (some ⟨w.heap.size + 1, 0, none⟩)]) W2 := by
  refine ⟨_, _, rfl, ent_under1, fun W' hb' c => ?_⟩
  have c0 : W2.cell? ⟨w.heap.size, 0, none⟩ = some (.func (.func f) #[] cap) := by rw [hW2]; simp [go_sem]
  have c1 : W2.cell? ⟨w.heap.size + 1, 0, none⟩ = some (.func (.func f') #[] cap') := by rw [hW2]; simp [go_sem]
  have z0 : w.heap.size < W2.heap.size := by rw [hW2]; simp; omega
  have z1 : w.heap.size + 1 < W2.heap.size := by rw [hW2]; simp
  exact under1_any F F' c _ _ _ _ W' ((hb'.cell (p := ⟨w.heap.size, 0, none⟩) z0).trans c0) ((hb'.cell (p := ⟨w.heap.size + 1, 0, none⟩) z1).trans c1) ((h.below hb).below hb') ((h'.below hb).below hb')
 have H0 : Calls Tryz.prog 239 #[.int .i64 0, .pointer (some ⟨w.heap.size, 0, none⟩), .pointer (some ⟨w.heap.size + 1, 0, none⟩)] W2 fun e W' => e = .returned (.bool (decide (F' 0 < F 0))) /\ Below W2.heap.size W2 W' := by
  have c0 : W2.cell? ⟨w.heap.size, 0, none⟩ = some (.func (.func f) #[] cap) := by rw [hW2]; simp [go_sem]
  have c1 : W2.cell? ⟨w.heap.size + 1, 0, none⟩ = some (.func (.func f') #[] cap') := by rw [hW2]; simp [go_sem]
  exact under1_any F F' 0 _ _ _ _ W2 c0 c1 (h.below hb) (h'.below hb)
 rw [hW2] at H0
 have HC : Hid (∀ W3, Below W2.heap.size W2 W3 -> Calls Tryz.prog 240 #[.slice p cs.length cz, .func (.func 239) #[] #[.pointer (some ⟨w.heap.size, 0, none⟩), .pointer (some ⟨w.heap.size + 1, 0, none⟩)]] W3 fun e w' => e = .returned (.bool (cs.any fun c => decide (F' c < F c))) /\ Below W3.heap.size W3 w') :=
  fun W3 h3 => ContainsFunc_c ((hz.below hb).below h3) (hP.below h3) hn
 have H0' := Lib.hid H0
 have HB := Lib.hid hb
 have HU : Hid (undB F F' cs = (!decide (F' 0 < F 0) && !(cs.any fun c => decide (F' c < F c)))) := rfl
 clear h h' hz hP H0 hF hF' he he' hb
 obtain ⟨x, hx⟩ : ∃ x, decide (F' 0 < F 0) = x := ⟨_, rfl⟩
 rw [hx] at H0' HU
 clear hx
 cases x with
 | true =>
  go_enter Tryz.func206, Tryz.ntmps206
  go_wp2_with (go_at_call 239; refine H0'.out.mono ?_; rintro e w1 ⟨rfl, hb1⟩)
  go_ret
  exact ⟨_, rfl, HB.out.trans ((hW2 ▸ hb1).mono HB.out.size), by rw [HU.out]; rfl⟩
 | false =>
  go_enter Tryz.func206, Tryz.ntmps206
  go_wp2_with (first
   | (go_at_call 239; refine H0'.out.mono ?_; rintro e w1 ⟨rfl, hb1⟩; have hb1' : Below W2.heap.size W2 w1 := hW2 ▸ hb1)
   | (go_at_call 240; refine (HC.out w1 hb1').mono ?_; rintro e w2 ⟨rfl, hb2⟩))
  go_ret
  exact ⟨_, rfl, HB.out.trans ((hb1'.trans (hb2.mono hb1'.size)).mono HB.out.size), by rw [HU.out]; rfl⟩
theorem ent_label_Up : Enters 175 := fun args W => by go_simp
theorem ent_passage_greatest : Enters 208 := fun args W => by go_simp
def FV (ls : List ML) (v : Value) (W : World) : Prop := ls.length <= 16 /\ ∃ B u, v = .func (.func 242) #[] #[.pointer (some ⟨B, 0, none⟩)] /\ W.cell? ⟨B, 0, none⟩ = some u /\ LsV ls u W
theorem FV.below {ls : List ML} {v : Value} {W W' : World} (h : FV ls v W) (hb : Below W.heap.size W W') : FV ls v W' := by
 obtain ⟨h0, B, u, h1, h2, h3⟩ := h
 exact ⟨h0, B, u, h1, (hb.cell (p := ⟨B, 0, none⟩) (World.block_lt_of_cell? W _ h2)).trans h2, h3.below hb⟩
theorem FV.lev {ls : List ML} {v : Value} {W : World} (h : FV ls v W) : Lev (gr ls) v W := by
 obtain ⟨h0, B, u, rfl, h2, h3⟩ := h
 exact ⟨_, _, rfl, ent_greatest1, fun W' hb' c => greatest1_any ls c B u W' ((hb'.cell (p := ⟨B, 0, none⟩) (World.block_lt_of_cell? W _ h2)).trans h2) (h3.below hb') h0⟩
def FBox (w : World) (v : Value) (W : World) : Prop := ∃ g, v = .pointer (some ⟨g, 0, none⟩) /\ w.heap.size <= g /\ W.heap[g]? = some (.cells #[.nilFunc] 275)
theorem FBox.below {w : World} {v : Value} {W W' : World} (h : FBox w v W) (hb : Below W.heap.size W W') : FBox w v W' := by
 obtain ⟨g, h1, h2, h3⟩ := h
 exact ⟨g, h1, h2, (hb.block g (Array.getElem?_eq_some_iff.1 h3).1).trans h3⟩
theorem store_other {W : World} {g : Nat} {y x : Value} {a : Addr} (hg : W.heap[g]? = some (.cells #[.nilFunc] 275)) (hc : W.cell? a = some x) (hx : x ≠ .nilFunc) : (W.setCell ⟨g, 0, none⟩ y).cell? a = some x := by
 rw [World.cell?_setCell_other _ _ _ _ (fun e => ?_)]
 · exact hc
 · rw [<- e] at hc
   simp [World.cell?, hg] at hc
   exact hx hc.symm
theorem CatsAt.store {W : World} {g : Nat} {y : Value} {p : Option Addr} {xs : List (Int × Int)} (h : CatsAt W p xs) (hg : W.heap[g]? = some (.cells #[.nilFunc] 275)) : CatsAt (W.setCell ⟨g, 0, none⟩ y) p xs := fun j hj => by
 obtain ⟨b, off, hp, hbl, c0, c1⟩ := h j hj
 exact ⟨b, off, hp, by simpa [World.setCell] using hbl, store_other hg c0 (by simp), store_other hg c1 (by simp)⟩
theorem LBox.store {l : ML} {W : World} {b o g : Nat} {y : Value} (h : LBox l W b o) (hg : W.heap[g]? = some (.cells #[.nilFunc] 275)) : LBox l (W.setCell ⟨g, 0, none⟩ y) b o := by
 obtain ⟨p, cap, h1, h2, h3, h4, h5⟩ := h
 exact ⟨p, cap, by simpa [World.setCell] using h1, store_other hg h2 (by simp), store_other hg h3 (by simp), h4.store hg, h5⟩
theorem FV.store {ls : List ML} {v : Value} {W : World} {g : Nat} {y : Value} (h : FV ls v W) (hg : W.heap[g]? = some (.cells #[.nilFunc] 275)) : FV ls v (W.setCell ⟨g, 0, none⟩ y) := by
 obtain ⟨h0, B, u, h1, h2, b, h3, h4, h5⟩ := h
 exact ⟨h0, B, u, h1, store_other hg h2 (by rw [h3]; simp), b, h3, by simpa [World.setCell] using h4, fun j hj => (h5 j hj).store hg⟩
theorem ent_passage_named : Enters 209 := fun args W => by go_simp
theorem ent_slices_Concat___int_int_ : Enters 221 := fun args W => by go_simp
theorem ent_passage_under : Enters 206 := fun args W => by go_simp
def atMB (l : ML) (ls : List ML) : Bool := undB (gr [l]) (gr ls) (namL [l] ++ namL ls)
theorem LsV.le {ls : List ML} {v : Value} {W : World} (h : LsV ls v W) : ∀ x ∈ ls, x.2.length <= 16 := fun x hx => by
 obtain ⟨b, _, _, hL⟩ := h
 obtain ⟨j, hj, rfl⟩ := List.getElem_of_mem hx
 obtain ⟨_, _, _, _, _, _, _, h⟩ := hL j hj
 exact h
set_option maxRecDepth 100000 in
set_option maxHeartbeats 1000000 in
theorem atMost_c {l : ML} {ls : List ML} {v u : Value} {w : World} (hl : LV l v w) (hls : LsV ls u w) (hls16 : ls.length <= 16) :
 Calls Tryz.prog 173 #[v, u] w fun e w' => ∃ v', e = .returned v' /\ Below w.heap.size w w' /\ v' = .bool (atMB l ls) := by
 obtain ⟨pl, cl, rfl, hl1, hl2, hl3⟩ := id hl
 have hA : Below w.heap.size w (w.alloc (.cells #[.int .i64 l.1, .slice pl l.2.length cl] 46)) := by go_grown
 have hbl : LBox l (w.alloc (.cells #[.int .i64 l.1, .slice pl l.2.length cl] 46)) w.heap.size 0 := ⟨pl, cl, by simp, by simp [go_sem], by simp [go_sem], hl1.below hA, hl2, hl3⟩
 have hlsA := hls.below hA
 have hlen : (namL [l]).length + (namL ls).length < 1000000 := by
  have h1 := namL_len [l] (fun x hx => by simp at hx; subst hx; exact hl3)
  have h2 := namL_len ls hls.le
  simp at h1
  omega
 obtain ⟨b, rfl, hb0, hLL⟩ := id hls
 go_enter Tryz.func173, Tryz.ntmps173
 go_wp2_with fail
 refine wp_region_mono 13 (fun k v W => match k with | 5 => LV l v W | 6 => LsV [l] v W | 7 => Lev (gr [l]) v W | 8 => LsV ls v W | 9 => Lev (gr ls) v W | 10 => LV l v W | 11 => LsV [l] v W | 12 => IV (namL [l]) v W | 13 => LsV ls v W | 14 => IV (namL ls) v W | 15 => RsV (namL [l]) (namL ls) v W | 16 => IV ((namL [l]) ++ (namL ls)) v W | 17 => v = .bool (undB (gr [l]) (gr ls) ((namL [l]) ++ (namL ls))) | _ => True) (by kernel_rfl) (by kernel_rfl) (by kernel_rfl) (by kernel_rfl) (by simp) (by kernel_rfl) ?_ ?_ ?_
 · intro k v W W' h hb
   revert h
   try dsimp only
   split
   · intro h; exact LV.below h hb
   · intro h; exact LsV.below h hb
   · intro h; exact Lev.below h hb
   · intro h; exact LsV.below h hb
   · intro h; exact Lev.below h hb
   · intro h; exact LV.below h hb
   · intro h; exact LsV.below h hb
   · intro h; exact IV.below h hb
   · intro h; exact LsV.below h hb
   · intro h; exact IV.below h hb
   · intro h; exact RsV.below h hb
   · intro h; exact IV.below h hb
   · intro h; exact h
   · intro h; trivial
 · intro a' W hB hs hk i o d ho hd hG
   match i, ho with
   | 0, ho =>
    cases ho
    obtain rfl : 5 = d := Option.some.inj hd
    obtain ⟨v, hr, hv⟩ := run_loadL (ev := a'.eval) (W := W) (hk 2 (by kernel_rfl)) (hbl.below hB)
    exact .inr ⟨rfl, .inl ⟨v, W, hr, Below.refl _ _, hv⟩⟩
   | 1, ho =>
    cases ho
    obtain rfl : 6 = d := Option.some.inj hd
    have g5 : LV l (a'.eval (.tmp 5)) W := hG ⟨0, .data⟩ (by simp) rfl 5 rfl
    obtain ⟨v, W', hr, hb, hv⟩ := run_slice1 (ev := a'.eval) (W := W) rfl g5
    exact .inr ⟨rfl, .inl ⟨v, W', hr, hb, hv⟩⟩
   | 2, ho =>
    cases ho
    obtain rfl : 7 = d := Option.some.inj hd
    have g6 : LsV [l] (a'.eval (.tmp 6)) W := hG ⟨1, .data⟩ (by simp) rfl 6 rfl
    exact .inr ⟨rfl, .inr ⟨_, _, run_call rfl map_1 ent_passage_greatest, greatest_c g6 (by first | exact hls16 | simp)⟩⟩
   | 3, ho =>
    cases ho
    obtain rfl : 8 = d := Option.some.inj hd
    exact .inr ⟨rfl, .inl ⟨_, W, run_move (hk 1 (by kernel_rfl)), Below.refl _ _, hlsA.below hB⟩⟩
   | 4, ho =>
    cases ho
    obtain rfl : 9 = d := Option.some.inj hd
    have g8 : LsV ls (a'.eval (.tmp 8)) W := hG ⟨3, .data⟩ (by simp) rfl 8 rfl
    exact .inr ⟨rfl, .inr ⟨_, _, run_call rfl map_1 ent_passage_greatest, greatest_c g8 (by first | exact hls16 | simp)⟩⟩
   | 5, ho =>
    cases ho
    obtain rfl : 10 = d := Option.some.inj hd
    obtain ⟨v, hr, hv⟩ := run_loadL (ev := a'.eval) (W := W) (hk 2 (by kernel_rfl)) (hbl.below hB)
    exact .inr ⟨rfl, .inl ⟨v, W, hr, Below.refl _ _, hv⟩⟩
   | 6, ho =>
    cases ho
    obtain rfl : 11 = d := Option.some.inj hd
    have g10 : LV l (a'.eval (.tmp 10)) W := hG ⟨5, .data⟩ (by simp) rfl 10 rfl
    obtain ⟨v, W', hr, hb, hv⟩ := run_slice1 (ev := a'.eval) (W := W) rfl g10
    exact .inr ⟨rfl, .inl ⟨v, W', hr, hb, hv⟩⟩
   | 7, ho =>
    cases ho
    obtain rfl : 12 = d := Option.some.inj hd
    have g11 : LsV [l] (a'.eval (.tmp 11)) W := hG ⟨6, .data⟩ (by simp) rfl 11 rfl
    exact .inr ⟨rfl, .inr ⟨_, _, run_call rfl map_1 ent_passage_named, named_c g11 (by first | exact hls16 | simp)⟩⟩
   | 8, ho =>
    cases ho
    obtain rfl : 13 = d := Option.some.inj hd
    exact .inr ⟨rfl, .inl ⟨_, W, run_move (hk 1 (by kernel_rfl)), Below.refl _ _, hlsA.below hB⟩⟩
   | 9, ho =>
    cases ho
    obtain rfl : 14 = d := Option.some.inj hd
    have g13 : LsV ls (a'.eval (.tmp 13)) W := hG ⟨8, .data⟩ (by simp) rfl 13 rfl
    exact .inr ⟨rfl, .inr ⟨_, _, run_call rfl map_1 ent_passage_named, named_c g13 (by first | exact hls16 | simp)⟩⟩
   | 10, ho =>
    cases ho
    obtain rfl : 15 = d := Option.some.inj hd
    have g12 : IV (namL [l]) (a'.eval (.tmp 12)) W := hG ⟨7, .data⟩ (by simp) rfl 12 rfl
    have g14 : IV (namL ls) (a'.eval (.tmp 14)) W := hG ⟨9, .data⟩ (by simp) rfl 14 rfl
    obtain ⟨v, W', hr, hb, hv⟩ := run_rows (ev := a'.eval) (W := W) rfl rfl g12 g14
    exact .inr ⟨rfl, .inl ⟨v, W', hr, hb, hv⟩⟩
   | 11, ho =>
    cases ho
    obtain rfl : 16 = d := Option.some.inj hd
    have g15 : RsV (namL [l]) (namL ls) (a'.eval (.tmp 15)) W := hG ⟨10, .data⟩ (by simp) rfl 15 rfl
    exact .inr ⟨rfl, .inr ⟨_, _, run_call rfl map_1 ent_slices_Concat___int_int_, Concat_c g15 hlen⟩⟩
   | 12, ho =>
    cases ho
    obtain rfl : 17 = d := Option.some.inj hd
    have g7 : Lev (gr [l]) (a'.eval (.tmp 7)) W := hG ⟨2, .data⟩ (by simp) rfl 7 rfl
    have g9 : Lev (gr ls) (a'.eval (.tmp 9)) W := hG ⟨4, .data⟩ (by simp) rfl 9 rfl
    have g16 : IV ((namL [l]) ++ (namL ls)) (a'.eval (.tmp 16)) W := hG ⟨11, .data⟩ (by simp) rfl 16 rfl
    exact .inr ⟨rfl, .inr ⟨_, _, run_call rfl map_3 ent_passage_under, under_c g7 g9 g16 (by rw [List.length_append]; exact hlen)⟩⟩
   | j + 13, ho => simp at ho
 · intro a' W hB hs hdf hk hG
   obtain ⟨tm, df⟩ := a'
   obtain rfl : df = [] := hdf
   have e0 : tm.getD 0 undef = .agg #[.int .i64 l.fst, .slice pl l.snd.length cl] := hk 0 (by kernel_rfl)
   have e1 : tm.getD 1 undef = .slice (some ⟨b, 0, none⟩) ls.length ls.length := hk 1 (by kernel_rfl)
   have e2 : tm.getD 2 undef = .pointer (some ⟨w.heap.size, 0, none⟩) := hk 2 (by kernel_rfl)
   have e3 : tm.getD 3 undef = undef := hk 3 (by kernel_rfl)
   have e4 : tm.getD 4 undef = .bool false := hk 4 (by kernel_rfl)
   have g5 : LV l (tm.getD 5 undef) W := hG 0 5 (by decide) rfl
   have g6 : LsV [l] (tm.getD 6 undef) W := hG 1 6 (by decide) rfl
   have g7 : Lev (gr [l]) (tm.getD 7 undef) W := hG 2 7 (by decide) rfl
   have g8 : LsV ls (tm.getD 8 undef) W := hG 3 8 (by decide) rfl
   have g9 : Lev (gr ls) (tm.getD 9 undef) W := hG 4 9 (by decide) rfl
   have g10 : LV l (tm.getD 10 undef) W := hG 5 10 (by decide) rfl
   have g11 : LsV [l] (tm.getD 11 undef) W := hG 6 11 (by decide) rfl
   have g12 : IV (namL [l]) (tm.getD 12 undef) W := hG 7 12 (by decide) rfl
   have g13 : LsV ls (tm.getD 13 undef) W := hG 8 13 (by decide) rfl
   have g14 : IV (namL ls) (tm.getD 14 undef) W := hG 9 14 (by decide) rfl
   have g15 : RsV (namL [l]) (namL ls) (tm.getD 15 undef) W := hG 10 15 (by decide) rfl
   have g16 : IV ((namL [l]) ++ (namL ls)) (tm.getD 16 undef) W := hG 11 16 (by decide) rfl
   have g17 : (tm.getD 17 undef) = .bool (undB (gr [l]) (gr ls) ((namL [l]) ++ (namL ls))) := hG 12 17 (by decide) rfl
   have htm := arr_of tm [.agg #[.int .i64 l.fst, .slice pl l.snd.length cl], .slice (some ⟨b, 0, none⟩) ls.length ls.length, .pointer (some ⟨w.heap.size, 0, none⟩), undef, .bool false, tm.getD 5 undef, tm.getD 6 undef, tm.getD 7 undef, tm.getD 8 undef, tm.getD 9 undef, tm.getD 10 undef, tm.getD 11 undef, tm.getD 12 undef, tm.getD 13 undef, tm.getD 14 undef, tm.getD 15 undef, tm.getD 16 undef, tm.getD 17 undef] hs (by show [tm.getD 0 undef, tm.getD 1 undef, tm.getD 2 undef, tm.getD 3 undef, tm.getD 4 undef, tm.getD 5 undef, tm.getD 6 undef, tm.getD 7 undef, tm.getD 8 undef, tm.getD 9 undef, tm.getD 10 undef, tm.getD 11 undef, tm.getD 12 undef, tm.getD 13 undef, tm.getD 14 undef, tm.getD 15 undef, tm.getD 16 undef, tm.getD 17 undef] = _; rw [e0, e1, e2, e3, e4])
   clear hs hk hG e0 e1 e2 e3 e4
   generalize tm.getD 5 undef = t5 at htm g5
   generalize tm.getD 6 undef = t6 at htm g6
   generalize tm.getD 7 undef = t7 at htm g7
   generalize tm.getD 8 undef = t8 at htm g8
   generalize tm.getD 9 undef = t9 at htm g9
   generalize tm.getD 10 undef = t10 at htm g10
   generalize tm.getD 11 undef = t11 at htm g11
   generalize tm.getD 12 undef = t12 at htm g12
   generalize tm.getD 13 undef = t13 at htm g13
   generalize tm.getD 14 undef = t14 at htm g14
   generalize tm.getD 15 undef = t15 at htm g15
   generalize tm.getD 16 undef = t16 at htm g16
   generalize tm.getD 17 undef = t17 at htm g17
   subst htm
   subst g17
   simp only [List.drop_succ_cons, List.drop_zero]
   go_wp2
   go_ret
   exact ⟨_, rfl, hA.trans (hB.mono hA.size), rfl⟩
end Go.Proofs.YtmgfakfiiaeofaaGreat.Pa
