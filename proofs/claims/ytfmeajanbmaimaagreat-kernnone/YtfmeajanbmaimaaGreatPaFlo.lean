/- floor, and the closure that it answers. -/
import Derived.Test.YtfmeajanbmaimaaGreatPaClo
/- Contains, ContainsFunc, Concat over rows of numbers; allow. -/
namespace Go.Proofs.YtfmeajanbmaimaaGreat.Pa
open Go.RowKit Go.Sort
theorem iv_cell {cs : List Int} {W : World} {p : Option Addr} {n cap : Nat} (h : IV cs (.slice p n cap) W) (k : Nat) (hk : k < cs.length) : ∃ g, p = some ⟨g, 0, none⟩ ∧ g < W.heap.size ∧ W.cell? ⟨g, k, none⟩ = some (.int .i64 cs[k]) := by
  obtain ⟨base, h⟩ := h
  rcases h.2 with ⟨h', h0⟩ | ⟨g', cap', cur, h', _⟩
  · omega
  · cases h'
    exact ⟨g', rfl, (h.lt g' rfl).2, (h.cellAt k (by omega)).trans (by unfold icells; simp [hk])⟩
/-- Where a row first has what is asked for; -1: nowhere. -/
def idxP (P : Int → Bool) : List Int → Nat → Int
  | [], _ => -1
  | y :: l, k => if P y = true then (k : Int) else idxP P l (k + 1)
theorem idxP_step (P : Int → Bool) (l : List Int) (k : Nat) (h : k < l.length) : idxP P (l.drop k) k = if P l[k] = true then (k : Int) else idxP P (l.drop (k + 1)) (k + 1) := by
  rw [List.drop_eq_getElem_cons h]; rfl
theorem idxP_any (P : Int → Bool) (l : List Int) (k : Nat) : decide (0 ≤ idxP P l k) = l.any P := by
  induction l generalizing k with
  | nil => simp [idxP]
  | cons y l ih =>
    by_cases h : P y = true
    · simp [idxP, h]
    · have h' : P y = false := by simpa using h
      simp only [idxP, h', Bool.false_eq_true, if_false, ih (k + 1), List.any_cons, Bool.false_or]
/-- A question of a number, as a value. -/
def PrdV (P : Int → Bool) (v : Value) (W : World) : Prop := ∃ f cap, v = .func (.func f) #[] cap ∧ Enters f ∧ ∀ W', Below W.heap.size W W' → ∀ c, Calls Tryz.prog f (#[.int .i64 c] ++ cap) W' fun e W'' => e = .returned (.bool (P c)) ∧ Below W'.heap.size W' W''
theorem PrdV.below {P : Int → Bool} {v : Value} {W W' : World} (h : PrdV P v W) (hb : Below W.heap.size W W') : PrdV P v W' := by
  obtain ⟨f, cap, h1, h2, h3⟩ := h
  exact ⟨f, cap, h1, h2, fun W'' hb' c => h3 W'' (hb.trans (hb'.mono hb.size)) c⟩
set_option maxRecDepth 100000 in
set_option maxHeartbeats 1000000 in
theorem IndexFunc_c {P : Int → Bool} {cs : List Int} {v u : Value} {w : World} (h : IV cs v w) (hP : PrdV P u w) (hn : cs.length < 1000000) :
    Calls Tryz.prog 270 #[v, u] w fun e w' => e = .returned (.int .i64 (idxP P cs 0)) ∧ Below w.heap.size w w' := by
  obtain ⟨p, cap, rfl⟩ := h.form
  obtain ⟨f, cp, rfl, he, hF⟩ := hP
  have he' := fun args W => he args W
  have HF := Lib.hid hF
  have HI := Lib.hid h
  clear h hF he
  go_enter Tryz.func270, Tryz.ntmps270
  go_wp2_with fail
  go_loopw [8] (fun y wr => ∃ k : Nat, y = .int .i64 k ∧ k ≤ cs.length ∧ idxP P cs 0 = idxP P (cs.drop k) k ∧ Below w.heap.size w wr) (fun y _ => (cs.length - (RowKit.intOf y).toNat))
  case atStart => exact ⟨0, rfl, Nat.zero_le _, by simp, Below.refl _ _⟩
  case round =>
    obtain ⟨k, rfl, hk, hx, hb⟩ := hrel
    have HX := Lib.hid hx
    clear hx
    by_cases hlt : k < cs.length
    · have hki : (k : Int) < (cs.length : Int) := by omega
      obtain ⟨g, rfl, hg, c0w⟩ := iv_cell HI.out k hlt
      have c0 := (hb.cell (p := ⟨g, k, none⟩) hg).trans c0w
      have HC := Lib.hid (HF.out wr hb cs[k])
      have HST := Lib.hid (idxP_step P cs k hlt)
      obtain ⟨x, hx⟩ : ∃ x, P cs[k] = x := ⟨_, rfl⟩
      rw [hx] at HC HST
      clear c0w hx
      cases x with
      | true =>
        go_wp2_with fail
        refine HC.out.mono ?_
        rintro e w1 ⟨rfl, hb1⟩
        go_wp2
        go_ret
        exact ⟨by rw [HX.out, HST.out]; rfl, hb.trans (hb1.mono hb.size)⟩
      | false =>
        go_wp2_with fail
        refine HC.out.mono ?_
        rintro e w1 ⟨rfl, hb1⟩
        go_wp2
        go_roundw
        case rel => exact ⟨k + 1, by go_num, by omega, by rw [HX.out, HST.out]; rfl, hb.trans (hb1.mono hb.size)⟩
        case measure => simp [RowKit.intOf]; omega
    · obtain rfl : k = cs.length := by omega
      have hkk : ¬ (cs.length : Int) < (cs.length : Int) := by omega
      go_wp2
      go_ret
      exact ⟨by rw [HX.out, List.drop_length]; rfl, hb⟩
theorem ContainsFunc_c {P : Int → Bool} {cs : List Int} {v u : Value} {w : World} (h : IV cs v w) (hP : PrdV P u w) (hn : cs.length < 1000000) :
    Calls Tryz.prog 239 #[v, u] w fun e w' => e = .returned (.bool (cs.any P)) ∧ Below w.heap.size w w' := by
  have H := Lib.hid (IndexFunc_c h hP hn)
  obtain ⟨p, cap, rfl⟩ := h.form
  obtain ⟨f, cp, rfl, he, hF⟩ := hP
  have hd := Lib.hid (idxP_any P cs 0)
  clear h hF he
  go_enter Tryz.func239, Tryz.ntmps239
  go_wp2_with (go_at_call 270; refine H.out.mono ?_; rintro e w1 ⟨rfl, hb1⟩)
  go_ret
  exact ⟨by show Ending.returned (Value.bool (decide _)) = _; rw [hd.out], hb1⟩
theorem Concat_c {a b : List Int} {v : Value} {w : World} (h : RsV a b v w) (hn : a.length + b.length < 1000000) :
    Calls Tryz.prog 228 #[v] w fun e w' => ∃ v', e = .returned v' ∧ Below w.heap.size w w' ∧ IV (a ++ b) v' w' := by
  obtain ⟨g, x, y, rfl, hg, c0, c1, ⟨bx, hx⟩, ⟨by', hy⟩⟩ := h
  have hcat : cat [(x, a), (y, b)] = a ++ b := by simp [cat]
  have H := Concat_any g 2 [(x, a), (y, b)] w (by rw [hcat, List.length_append]; exact hn) (by simp) hg (fun k hk => by
    have hk2 : k < 2 := by simpa using hk
    rcases Nat.lt_or_ge k 1 with h0 | h0
    · obtain rfl : k = 0 := by omega
      exact c0
    · obtain rfl : k = 1 := by omega
      exact c1) (fun z hz => by
    simp only [List.mem_cons, List.not_mem_nil, or_false] at hz
    rcases hz with rfl | rfl
    · exact (own_src hx).2
    · exact (own_src hy).2)
  rw [hcat] at H
  refine H.mono ?_
  rintro e w' ⟨v, rfl, hown, hb⟩
  exact ⟨v, rfl, hb, _, hown⟩
/- allow -/
def idxB : List Bool → Nat → Int
  | [], _ => -1
  | y :: l, k => if y = false then (k : Int) else idxB l (k + 1)
theorem idxB_step (l : List Bool) (k : Nat) (h : k < l.length) : idxB (l.drop k) k = if l[k] = false then (k : Int) else idxB (l.drop (k + 1)) (k + 1) := by
  rw [List.drop_eq_getElem_cons h]; rfl
theorem idxB_any (l : List Bool) (k : Nat) : decide (0 ≤ idxB l k) = !(l.all id) := by
  induction l generalizing k with
  | nil => simp [idxB]
  | cons y l ih =>
    cases y with
    | false => simp [idxB]
    | true =>
      simp only [idxB, Bool.true_eq_false, if_false, ih (k + 1), List.all_cons, id, Bool.true_and]
set_option maxRecDepth 100000 in
set_option maxHeartbeats 1000000 in
theorem IndexB_c {bs : List Bool} {v : Value} {w : World} (h : BsV bs v w) (hn : bs.length < 1000) :
    Calls Tryz.prog 268 #[v, .bool false] w fun e w' => e = .returned (.int .i64 (idxB bs 0)) ∧ w' = w := by
  obtain ⟨g, rfl, hg, hc⟩ := h
  go_enter Tryz.func268, Tryz.ntmps268
  go_wp2_with fail
  go_loopw [8] (fun y wr => ∃ k : Nat, y = .int .i64 k ∧ k ≤ bs.length ∧ idxB bs 0 = idxB (bs.drop k) k ∧ w = wr) (fun y _ => (bs.length - (RowKit.intOf y).toNat))
  case atStart => exact ⟨0, rfl, Nat.zero_le _, by simp, rfl⟩
  case round =>
    obtain ⟨k, rfl, hk, hx, rfl⟩ := hrel
    have HX := Lib.hid hx
    clear hx
    by_cases hlt : k < bs.length
    · have hki : (k : Int) < (bs.length : Int) := by omega
      have c0 := hc k hlt
      have HST := Lib.hid (idxB_step bs k hlt)
      obtain ⟨x, hx⟩ : ∃ x, bs[k] = x := ⟨_, rfl⟩
      rw [hx] at c0 HST
      clear hc hx
      cases x with
      | false =>
        go_wp2
        go_ret
        exact ⟨by rw [HX.out, HST.out]; rfl, rfl⟩
      | true =>
        go_wp2
        go_roundw
        case rel => exact ⟨k + 1, by go_num, by omega, by rw [HX.out, HST.out]; rfl, trivial⟩
        case measure => simp [RowKit.intOf]; omega
    · obtain rfl : k = bs.length := by omega
      have hkk : ¬ (bs.length : Int) < (bs.length : Int) := by omega
      go_wp2
      go_ret
      exact ⟨by rw [HX.out, List.drop_length]; rfl, rfl⟩
theorem ContainsB_c {bs : List Bool} {v : Value} {w : World} (h : BsV bs v w) (hn : bs.length < 1000) :
    Calls Tryz.prog 227 #[v, .bool false] w fun e w' => e = .returned (.bool (!(bs.all id))) ∧ w' = w := by
  have H := Lib.hid (IndexB_c h hn)
  obtain ⟨g, rfl, hg, hc⟩ := h
  have hd := Lib.hid (idxB_any bs 0)
  clear hc
  go_enter Tryz.func227, Tryz.ntmps227
  go_wp2_with (go_at_call 268; refine H.out.mono ?_; rintro e w1 ⟨rfl, hw1⟩; rw [hw1]; clear hw1 w1)
  go_ret
  exact ⟨by show Ending.returned (Value.bool (decide _)) = _; rw [hd.out], rfl⟩
def allowI (bs : List Bool) : Int := if bs.all id = true then 0 else 3
theorem allow_c {bs : List Bool} {v : Value} {w : World} (h : BsV bs v w) (hn : bs.length < 1000) :
    Calls Tryz.prog 187 #[v] w fun e w' => ∃ v', e = .returned v' ∧ Below w.heap.size w w' ∧ v' = .int .i64 (allowI bs) := by
  have H := Lib.hid (ContainsB_c h hn)
  obtain ⟨g, rfl, hg, hc⟩ := h
  obtain ⟨x, hx⟩ : ∃ x, bs.all id = x := ⟨_, rfl⟩
  have HX := Lib.hid hx
  rw [hx] at H
  clear hc hx
  cases x with
  | true =>
    go_enter Tryz.func187, Tryz.ntmps187
    go_wp2_with (go_at_call 227; refine H.out.mono ?_; rintro e w1 ⟨rfl, hw1⟩; rw [hw1]; clear hw1 w1)
    go_ret
    exact ⟨_, rfl, Below.refl _ _, by unfold allowI; rw [HX.out]; rfl⟩
  | false =>
    go_enter Tryz.func187, Tryz.ntmps187
    go_wp2_with (go_at_call 227; refine H.out.mono ?_; rintro e w1 ⟨rfl, hw1⟩; rw [hw1]; clear hw1 w1)
    go_ret
    exact ⟨_, rfl, Below.refl _ _, by unfold allowI; rw [HX.out]; rfl⟩
end Go.Proofs.YtfmeajanbmaimaaGreat.Pa
/- More single operations; when a guarded operation is wanted. -/
namespace Go.Proofs.YtfmeajanbmaimaaGreat.Pa
open Go.RowKit Go.Sort
section
variable {ev : Operand → Value} {W : World} {dst : Option Nat} {ty : TypeId} {pos : String} {af : Array Edge} {gd : Option (Nat × Bool)}
theorem run_loadF {F : Int → Int} {u : Value} {b : Nat} {x : Operand} (hx : ev x = .pointer (some ⟨b, 0, none⟩)) (hc : W.cell? ⟨b, 0, none⟩ = some u) (hu : Lev F u W) :
    (execOp ev { dst := dst, op := .load 287 x, type := ty, pos := pos, after := af, guard := gd }).run Tryz.prog W = .ok (.value u) W := by
  obtain ⟨f, cap, rfl, _, _⟩ := hu
  go_simp
theorem run_gtr {a b : Int} {x y : Operand} {t : TypeId} (hx : ev x = .int .i64 a) (hy : ev y = .int .i64 b) :
    (execOp ev { dst := dst, op := .binOp .gtr 3 x y t, type := ty, pos := pos, after := af, guard := gd }).run Tryz.prog W = .ok (.value (.bool (decide (b < a)))) W := by
  go_simp
theorem lv_nil (c : Int) (W : World) : LV (c, []) (.agg #[.int .i64 c, .slice none 0 0]) W := ⟨none, 0, rfl, fun j h => absurd h (by simp), by simp, by simp⟩
end
theorem map_1 {f : Operand → Value} {a : Operand} : Array.map f #[a] = #[f a] := by simp
theorem map_2 {f : Operand → Value} {a b : Operand} : Array.map f #[a, b] = #[f a, f b] := by simp
theorem map_3 {f : Operand → Value} {a b c : Operand} : Array.map f #[a, b, c] = #[f a, f b, f c] := by simp
/- Guards. -/
end Go.Proofs.YtfmeajanbmaimaaGreat.Pa
/- under and its closure. -/
namespace Go.Proofs.YtfmeajanbmaimaaGreat.Pa
open Go.RowKit Go.Sort
set_option maxRecDepth 100000 in
set_option maxHeartbeats 1000000 in
theorem under1_any (F F' : Int → Int) (c : Int) (B C : Nat) (u u' : Value) (w : World) (hc : w.cell? ⟨B, 0, none⟩ = some u) (hc' : w.cell? ⟨C, 0, none⟩ = some u') (hu : Lev F u w) (hu' : Lev F' u' w) :
    Calls Tryz.prog 238 #[.int .i64 c, .pointer (some ⟨B, 0, none⟩), .pointer (some ⟨C, 0, none⟩)] w fun e w' => e = .returned (.bool (decide (F' c < F c))) ∧ Below w.heap.size w w' := by
  have hBl : B < w.heap.size := World.block_lt_of_cell? w _ hc
  have hCl : C < w.heap.size := World.block_lt_of_cell? w _ hc'
  go_enter Tryz.func238, Tryz.ntmps238
  go_wp2_with fail
  refine wp_region_mono 7 (fun k v W => match k with | 5 => Lev F v W | 6 => v = .int .i64 c | 7 => v = .int .i64 (F c) | 8 => Lev F' v W | 9 => v = .int .i64 c | 10 => v = .int .i64 (F' c) | 11 => v = .bool (decide ((F' c) < (F c))) | _ => True) (by kernel_rfl) (by kernel_rfl) (by kernel_rfl) (by kernel_rfl) (by simp) (by kernel_rfl) ?_ ?_ ?_
  · intro k v W W' h hb
    revert h
    try dsimp only
    split
    · intro h; exact Lev.below h hb
    · intro h; exact h
    · intro h; exact h
    · intro h; exact Lev.below h hb
    · intro h; exact h
    · intro h; exact h
    · intro h; exact h
    · intro h; trivial
  · intro a' W hB hs hk i o d ho hd hG
    match i, ho with
    | 0, ho =>
      obtain rfl : _ = o := Option.some.inj ho
      obtain rfl : 5 = d := Option.some.inj hd
      have hcl := (hB.cell (p := ⟨B, 0, none⟩) hBl).trans hc
      exact .inr ⟨rfl, .inl ⟨u, W, run_loadF (hk 1 (by kernel_rfl)) hcl (hu.below hB), Below.refl _ _, hu.below hB⟩⟩
    | 1, ho =>
      obtain rfl : _ = o := Option.some.inj ho
      obtain rfl : 6 = d := Option.some.inj hd
      exact .inr ⟨rfl, .inl ⟨_, W, run_move (hk 0 (by kernel_rfl)), Below.refl _ _, rfl⟩⟩
    | 2, ho =>
      obtain rfl : _ = o := Option.some.inj ho
      obtain rfl : 7 = d := Option.some.inj hd
      have g6 : (a'.eval (.tmp 6)) = .int .i64 c := hG ⟨1, .data⟩ (by simp) rfl 6 rfl
      have g5 : Lev F (a'.eval (.tmp 5)) W := hG ⟨0, .data⟩ (by simp) rfl 5 rfl
      have ha : (#[Operand.tmp 6] : Array Operand).map a'.eval = #[Value.int .i64 c] := by rw [map_1, g6]
      obtain ⟨f, cap, hf, he, hF⟩ := g5
      exact .inr ⟨rfl, .inr ⟨_, _, run_callF hf ha he, (hF W (Below.refl _ _) c).mono (by rintro e W' ⟨rfl, hb⟩; exact ⟨_, rfl, hb, rfl⟩)⟩⟩
    | 3, ho =>
      obtain rfl : _ = o := Option.some.inj ho
      obtain rfl : 8 = d := Option.some.inj hd
      have hcl := (hB.cell (p := ⟨C, 0, none⟩) hCl).trans hc'
      exact .inr ⟨rfl, .inl ⟨u', W, run_loadF (hk 2 (by kernel_rfl)) hcl (hu'.below hB), Below.refl _ _, hu'.below hB⟩⟩
    | 4, ho =>
      obtain rfl : _ = o := Option.some.inj ho
      obtain rfl : 9 = d := Option.some.inj hd
      exact .inr ⟨rfl, .inl ⟨_, W, run_move (hk 0 (by kernel_rfl)), Below.refl _ _, rfl⟩⟩
    | 5, ho =>
      obtain rfl : _ = o := Option.some.inj ho
      obtain rfl : 10 = d := Option.some.inj hd
      have g9 : (a'.eval (.tmp 9)) = .int .i64 c := hG ⟨4, .data⟩ (by simp) rfl 9 rfl
      have g8 : Lev F' (a'.eval (.tmp 8)) W := hG ⟨3, .data⟩ (by simp) rfl 8 rfl
      have ha : (#[Operand.tmp 9] : Array Operand).map a'.eval = #[Value.int .i64 c] := by rw [map_1, g9]
      obtain ⟨f, cap, hf, he, hF⟩ := g8
      exact .inr ⟨rfl, .inr ⟨_, _, run_callF hf ha he, (hF W (Below.refl _ _) c).mono (by rintro e W' ⟨rfl, hb⟩; exact ⟨_, rfl, hb, rfl⟩)⟩⟩
    | 6, ho =>
      obtain rfl : _ = o := Option.some.inj ho
      obtain rfl : 11 = d := Option.some.inj hd
      have g7 : (a'.eval (.tmp 7)) = .int .i64 (F c) := hG ⟨2, .data⟩ (by simp) rfl 7 rfl
      have g10 : (a'.eval (.tmp 10)) = .int .i64 (F' c) := hG ⟨5, .data⟩ (by simp) rfl 10 rfl
      exact .inr ⟨rfl, .inl ⟨_, W, run_gtr g7 g10, Below.refl _ _, rfl⟩⟩
    | j + 7, ho => simp at ho
  · intro a' W hB hs hdf hk hG
    obtain ⟨tm, df⟩ := a'
    obtain rfl : df = [] := hdf
    have e0 : tm.getD 0 undef = .int .i64 c := hk 0 (by kernel_rfl)
    have e1 : tm.getD 1 undef = .pointer (some ⟨B, 0, none⟩) := hk 1 (by kernel_rfl)
    have e2 : tm.getD 2 undef = .pointer (some ⟨C, 0, none⟩) := hk 2 (by kernel_rfl)
    have e3 : tm.getD 3 undef = undef := hk 3 (by kernel_rfl)
    have e4 : tm.getD 4 undef = .bool false := hk 4 (by kernel_rfl)
    have g5 : Lev F (tm.getD 5 undef) W := hG 0 5 (by decide) rfl
    have g6 : (tm.getD 6 undef) = .int .i64 c := hG 1 6 (by decide) rfl
    have g7 : (tm.getD 7 undef) = .int .i64 (F c) := hG 2 7 (by decide) rfl
    have g8 : Lev F' (tm.getD 8 undef) W := hG 3 8 (by decide) rfl
    have g9 : (tm.getD 9 undef) = .int .i64 c := hG 4 9 (by decide) rfl
    have g10 : (tm.getD 10 undef) = .int .i64 (F' c) := hG 5 10 (by decide) rfl
    have g11 : (tm.getD 11 undef) = .bool (decide ((F' c) < (F c))) := hG 6 11 (by decide) rfl
    have htm := arr_of tm [.int .i64 c, .pointer (some ⟨B, 0, none⟩), .pointer (some ⟨C, 0, none⟩), undef, .bool false, tm.getD 5 undef, tm.getD 6 undef, tm.getD 7 undef, tm.getD 8 undef, tm.getD 9 undef, tm.getD 10 undef, tm.getD 11 undef] hs (by show [tm.getD 0 undef, tm.getD 1 undef, tm.getD 2 undef, tm.getD 3 undef, tm.getD 4 undef, tm.getD 5 undef, tm.getD 6 undef, tm.getD 7 undef, tm.getD 8 undef, tm.getD 9 undef, tm.getD 10 undef, tm.getD 11 undef] = _; rw [e0, e1, e2, e3, e4])
    clear hs hk hG e0 e1 e2 e3 e4
    generalize tm.getD 5 undef = t5 at htm g5
    generalize tm.getD 6 undef = t6 at htm g6
    generalize tm.getD 7 undef = t7 at htm g7
    generalize tm.getD 8 undef = t8 at htm g8
    generalize tm.getD 9 undef = t9 at htm g9
    generalize tm.getD 10 undef = t10 at htm g10
    generalize tm.getD 11 undef = t11 at htm g11
    subst htm
    subst g6
    subst g7
    subst g9
    subst g10
    subst g11
    simp only [List.drop_succ_cons, List.drop_zero]
    go_wp2
    go_ret
    exact ⟨rfl, hB⟩
end Go.Proofs.YtfmeajanbmaimaaGreat.Pa
/- under, as it is called. -/
namespace Go.Proofs.YtfmeajanbmaimaaGreat.Pa
open Go.RowKit Go.Sort
theorem ent_under1 : Enters 238 := fun args W => by go_simp
def undB (F F' : Int → Int) (cs : List Int) : Bool := !decide (F' 0 < F 0) && !(cs.any fun c => decide (F' c < F c))
set_option maxRecDepth 100000 in
set_option maxHeartbeats 1000000 in
theorem under_c {F F' : Int → Int} {cs : List Int} {v u z : Value} {w : World} (h : Lev F v w) (h' : Lev F' u w) (hz : IV cs z w) (hn : cs.length < 1000000) :
    Calls Tryz.prog 210 #[v, u, z] w fun e w' => ∃ v', e = .returned v' ∧ Below w.heap.size w w' ∧ v' = .bool (undB F F' cs) := by
  obtain ⟨f, cap, rfl, he, hF⟩ := id h
  obtain ⟨f', cap', rfl, he', hF'⟩ := id h'
  obtain ⟨p, cz, rfl⟩ := hz.form
  obtain ⟨W2, hW2⟩ : ∃ W2, W2 = (w.alloc (.cells #[.func (.func f) #[] cap] 287)).alloc (.cells #[.func (.func f') #[] cap'] 287) := ⟨_, rfl⟩
  have hb : Below w.heap.size w W2 := by rw [hW2]; go_grown
  have hP : PrdV (fun c => decide (F' c < F c)) (.func (.func 238) #[] #[.pointer (some ⟨w.heap.size, 0, none⟩), .pointer (some ⟨w.heap.size + 1, 0, none⟩)]) W2 := by
    refine ⟨_, _, rfl, ent_under1, fun W' hb' c => ?_⟩
    have c0 : W2.cell? ⟨w.heap.size, 0, none⟩ = some (.func (.func f) #[] cap) := by rw [hW2]; simp [go_sem]
    have c1 : W2.cell? ⟨w.heap.size + 1, 0, none⟩ = some (.func (.func f') #[] cap') := by rw [hW2]; simp [go_sem]
    have z0 : w.heap.size < W2.heap.size := by rw [hW2]; simp; omega
    have z1 : w.heap.size + 1 < W2.heap.size := by rw [hW2]; simp
    exact under1_any F F' c _ _ _ _ W' ((hb'.cell (p := ⟨w.heap.size, 0, none⟩) z0).trans c0) ((hb'.cell (p := ⟨w.heap.size + 1, 0, none⟩) z1).trans c1) ((h.below hb).below hb') ((h'.below hb).below hb')
  have H0 : Calls Tryz.prog 238 #[.int .i64 0, .pointer (some ⟨w.heap.size, 0, none⟩), .pointer (some ⟨w.heap.size + 1, 0, none⟩)] W2 fun e W' => e = .returned (.bool (decide (F' 0 < F 0))) ∧ Below W2.heap.size W2 W' := by
    have c0 : W2.cell? ⟨w.heap.size, 0, none⟩ = some (.func (.func f) #[] cap) := by rw [hW2]; simp [go_sem]
    have c1 : W2.cell? ⟨w.heap.size + 1, 0, none⟩ = some (.func (.func f') #[] cap') := by rw [hW2]; simp [go_sem]
    exact under1_any F F' 0 _ _ _ _ W2 c0 c1 (h.below hb) (h'.below hb)
  rw [hW2] at H0
  have HC : Hid (∀ W3, Below W2.heap.size W2 W3 → Calls Tryz.prog 239 #[.slice p cs.length cz, .func (.func 238) #[] #[.pointer (some ⟨w.heap.size, 0, none⟩), .pointer (some ⟨w.heap.size + 1, 0, none⟩)]] W3 fun e w' => e = .returned (.bool (cs.any fun c => decide (F' c < F c))) ∧ Below W3.heap.size W3 w') :=
    fun W3 h3 => ContainsFunc_c ((hz.below hb).below h3) (hP.below h3) hn
  have H0' := Lib.hid H0
  have HB := Lib.hid hb
  have HU : Hid (undB F F' cs = (!decide (F' 0 < F 0) && !(cs.any fun c => decide (F' c < F c)))) := rfl
  clear h h' hz hP H0 hF hF' he he' hb
  obtain ⟨x, hx⟩ : ∃ x, decide (F' 0 < F 0) = x := ⟨_, rfl⟩
  rw [hx] at H0' HU
  clear hx
  cases x with
  | true =>
    go_enter Tryz.func210, Tryz.ntmps210
    go_wp2_with (go_at_call 238; refine H0'.out.mono ?_; rintro e w1 ⟨rfl, hb1⟩)
    go_ret
    exact ⟨_, rfl, HB.out.trans ((hW2 ▸ hb1).mono HB.out.size), by rw [HU.out]; rfl⟩
  | false =>
    go_enter Tryz.func210, Tryz.ntmps210
    go_wp2_with (first
      | (go_at_call 238; refine H0'.out.mono ?_; rintro e w1 ⟨rfl, hb1⟩; have hb1' : Below W2.heap.size W2 w1 := hW2 ▸ hb1)
      | (go_at_call 239; refine (HC.out w1 hb1').mono ?_; rintro e w2 ⟨rfl, hb2⟩))
    go_ret
    exact ⟨_, rfl, HB.out.trans ((hb1'.trans (hb2.mono hb1'.size)).mono HB.out.size), by rw [HU.out]; rfl⟩
end Go.Proofs.YtfmeajanbmaimaaGreat.Pa
namespace Go.Proofs.YtfmeajanbmaimaaGreat.Pa
open Go.RowKit Go.Sort
theorem ent_label_Up : Enters 162 := fun args W => by go_simp
theorem ent_passage_greatest : Enters 212 := fun args W => by go_simp
/-- greatest's closure, and what it holds. -/
def FV (ls : List ML) (v : Value) (W : World) : Prop := ls.length ≤ 16 ∧ ∃ B u, v = .func (.func 241) #[] #[.pointer (some ⟨B, 0, none⟩)] ∧ W.cell? ⟨B, 0, none⟩ = some u ∧ LsV ls u W
theorem FV.below {ls : List ML} {v : Value} {W W' : World} (h : FV ls v W) (hb : Below W.heap.size W W') : FV ls v W' := by
  obtain ⟨h0, B, u, h1, h2, h3⟩ := h
  exact ⟨h0, B, u, h1, (hb.cell (p := ⟨B, 0, none⟩) (World.block_lt_of_cell? W _ h2)).trans h2, h3.below hb⟩
theorem FV.lev {ls : List ML} {v : Value} {W : World} (h : FV ls v W) : Lev (gr ls) v W := by
  obtain ⟨h0, B, u, rfl, h2, h3⟩ := h
  exact ⟨_, _, rfl, ent_greatest1, fun W' hb' c => greatest1_any ls c B u W' ((hb'.cell (p := ⟨B, 0, none⟩) (World.block_lt_of_cell? W _ h2)).trans h2) (h3.below hb') h0⟩
/-- A new box for a function, behind w. -/
def FBox (w : World) (v : Value) (W : World) : Prop := ∃ g, v = .pointer (some ⟨g, 0, none⟩) ∧ w.heap.size ≤ g ∧ W.heap[g]? = some (.cells #[.nilFunc] 287)
theorem FBox.below {w : World} {v : Value} {W W' : World} (h : FBox w v W) (hb : Below W.heap.size W W') : FBox w v W' := by
  obtain ⟨g, h1, h2, h3⟩ := h
  exact ⟨g, h1, h2, (hb.block g (Array.getElem?_eq_some_iff.1 h3).1).trans h3⟩
theorem store_other {W : World} {g : Nat} {y x : Value} {a : Addr} (hg : W.heap[g]? = some (.cells #[.nilFunc] 287)) (hc : W.cell? a = some x) (hx : x ≠ .nilFunc) : (W.setCell ⟨g, 0, none⟩ y).cell? a = some x := by
  rw [World.cell?_setCell_other _ _ _ _ (fun e => ?_)]
  · exact hc
  · rw [← e] at hc
    simp [World.cell?, hg] at hc
    exact hx hc.symm
theorem CatsAt.store {W : World} {g : Nat} {y : Value} {p : Option Addr} {xs : List (Int × Int)} (h : CatsAt W p xs) (hg : W.heap[g]? = some (.cells #[.nilFunc] 287)) : CatsAt (W.setCell ⟨g, 0, none⟩ y) p xs := fun j hj => by
  obtain ⟨b, off, hp, hbl, c0, c1⟩ := h j hj
  exact ⟨b, off, hp, by simpa [World.setCell] using hbl, store_other hg c0 (by simp), store_other hg c1 (by simp)⟩
theorem LBox.store {l : ML} {W : World} {b o g : Nat} {y : Value} (h : LBox l W b o) (hg : W.heap[g]? = some (.cells #[.nilFunc] 287)) : LBox l (W.setCell ⟨g, 0, none⟩ y) b o := by
  obtain ⟨p, cap, h1, h2, h3, h4, h5⟩ := h
  exact ⟨p, cap, by simpa [World.setCell] using h1, store_other hg h2 (by simp), store_other hg h3 (by simp), h4.store hg, h5⟩
theorem FV.store {ls : List ML} {v : Value} {W : World} {g : Nat} {y : Value} (h : FV ls v W) (hg : W.heap[g]? = some (.cells #[.nilFunc] 287)) : FV ls v (W.setCell ⟨g, 0, none⟩ y) := by
  obtain ⟨h0, B, u, h1, h2, b, h3, h4, h5⟩ := h
  exact ⟨h0, B, u, h1, store_other hg h2 (by rw [h3]; simp), b, h3, by simpa [World.setCell] using h4, fun j hj => (h5 j hj).store hg⟩
end Go.Proofs.YtfmeajanbmaimaaGreat.Pa
