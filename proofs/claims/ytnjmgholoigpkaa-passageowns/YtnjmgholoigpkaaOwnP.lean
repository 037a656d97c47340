/- What Own of package passage answers. -/
import Derived.Test.YtnjmgholoigpkaaOwn0
namespace Go.Proofs.Ytnjmgholoigpkaa
open Go.RowKit Go.Sort
theorem ent_passage_names : Enters 42 := fun args W => by go_simp
/-- Own's answer: two labels and the error. -/
def ownM (t c : ML) (cat : Int) : ML × ML × Int :=
  if nmB t cat = true then ((0, []), (0, []), 8) else if nmB c cat = true then ((0, []), (0, []), 8)
  else if (wX t cat 0 != 0) = true then ((0, []), (0, []), wX t cat 0)
  else if (wX c cat 4 != 0) = true then ((0, []), (0, []), wX c cat 4) else (wM t cat 0, wM c cat 4, 0)
/-- A label's box whose row lies at B or behind. -/
def RBox (B : Nat) (l : ML) (W : World) (b : Nat) : Prop := ∃ s, b < W.heap.size ∧ W.cell? ⟨b, 0, none⟩ = some (.int .i64 l.1) ∧ W.cell? ⟨b, 1, none⟩ = some s ∧ Rw B W s l.2
theorem RBox.below {B : Nat} {l : ML} {W W' : World} {b : Nat} (h : RBox B l W b) (hb : Below W.heap.size W W') : RBox B l W' b := by
  obtain ⟨s, h1, h2, h3, h4⟩ := h
  exact ⟨s, Nat.lt_of_lt_of_le h1 hb.size, (hb.cell (p := ⟨b, 0, none⟩) h1).trans h2, (hb.cell (p := ⟨b, 1, none⟩) h1).trans h3, h4.below hb⟩
theorem run_loadR {ev : Operand → Value} {W : World} {dst : Option Nat} {ty : TypeId} {pos : String} {af : Array Edge} {gd : Option (Nat × Bool)} {B : Nat} {l : ML} {b : Nat} {x : Operand} (hx : ev x = .pointer (some ⟨b, 0, none⟩)) (h : RBox B l W b) :
    ∃ v, (execOp ev { dst := dst, op := .load 24 x, type := ty, pos := pos, after := af, guard := gd }).run Try.prog W = .ok (.value v) W ∧ RV B l v W := by
  obtain ⟨s, hb, h0, h1, hR⟩ := h
  obtain ⟨p, cap, rfl, _, _⟩ := hR.out
  refine ⟨.agg #[.int .i64 l.1, .slice p l.2.length cap], ?_, _, rfl, hR⟩
  clear hR
  go_simp
/-- A box for an answer, as it was made. -/
structure ZBox (W : World) (b : Nat) : Prop where
  lt : b < W.heap.size
  c0 : W.cell? ⟨b, 0, none⟩ = some (.int .i64 0)
  c1 : W.cell? ⟨b, 1, none⟩ = some (.slice none 0 0)
  fz : ∀ o, W.frozen? ⟨b, o, none⟩ = false
theorem ZBox.below {W W' : World} {b : Nat} (h : ZBox W b) (hb : Below W.heap.size W W') : ZBox W' b :=
  ⟨Nat.lt_of_lt_of_le h.lt hb.size, (hb.cell (p := ⟨b, 0, none⟩) h.lt).trans h.c0, (hb.cell (p := ⟨b, 1, none⟩) h.lt).trans h.c1, fun o => (hb.frozen (p := ⟨b, o, none⟩) h.lt).trans (h.fz o)⟩
theorem RV.ge {B : Nat} {l : ML} {v : Value} {W W' : World} (h : RV B l v W) (hs : ∀ a x, W.cell? a = some x → B ≤ a.block → W'.cell? a = some x) (hz : W.heap.size ≤ W'.heap.size) : RV B l v W' := by
  obtain ⟨s, rfl, hR⟩ := h
  refine ⟨s, rfl, ?_⟩
  rcases hR with ⟨h1, h2⟩ | ⟨b, off, cap, h1, h2, h3, h4⟩
  · exact .inl ⟨h1, h2⟩
  · refine .inr ⟨b, off, cap, h1, h2, ⟨h3.1, Nat.lt_of_lt_of_le h3.2 hz⟩, fun j hj => ?_⟩
    obtain ⟨b', off', e, hb', c0, c1⟩ := h4 j hj
    cases e
    exact ⟨b, off, rfl, Nat.lt_of_lt_of_le hb' hz, hs _ _ c0 h3.1, hs _ _ c1 h3.1⟩
set_option maxRecDepth 100000 in
set_option maxHeartbeats 40000000 in
theorem Own_c {t c : ML} {vt vc : Value} {w : World} {cat : Int} (ht : LV t vt w) (hc : LV c vc w) (rt : rightM t = true) (rc : rightM c = true) :
    Calls Try.prog 19 #[vt, vc, .int .i64 cat] w fun e w' => ∃ x y, e = .returned (.tuple #[x, y, .int .i64 (ownM t c cat).2.2]) ∧ Below w.heap.size w w' ∧ RV w.heap.size (ownM t c cat).1 x w' ∧ RV w.heap.size (ownM t c cat).2.1 y w' := by
  obtain ⟨pt, ct, rfl, ht1, ht2, ht3⟩ := id ht
  obtain ⟨pc, cc, rfl, hc1, hc2, hc3⟩ := id hc
  obtain ⟨W0, hW0⟩ : ∃ W0, W0 = ((((w.alloc (.cells #[.int .i64 t.1, .slice pt t.2.length ct] 24)).alloc (.cells #[.int .i64 c.1, .slice pc c.2.length cc] 24)).alloc (.cells #[.int .i64 0, .slice none 0 0] 24)).alloc (.cells #[.int .i64 0, .slice none 0 0] 24)).alloc (.cells #[.int .i64 0, .slice none 0 0] 24) := ⟨_, rfl⟩
  have hA : Below w.heap.size w W0 := by rw [hW0]; go_grown
  have hs0 : W0.heap.size = w.heap.size + 1 + 1 + 1 + 1 + 1 := by rw [hW0]; simp
  have hbt : LBox t W0 w.heap.size 0 := ⟨pt, ct, by rw [hW0]; simp <;> omega, by rw [hW0]; simp [go_sem], by rw [hW0]; simp [go_sem], ht1.below hA, ht2, ht3⟩
  have hbc : LBox c W0 (w.heap.size + 1) 0 := ⟨pc, cc, by rw [hW0]; simp <;> omega, by rw [hW0]; simp [go_sem], by rw [hW0]; simp [go_sem], hc1.below hA, hc2, hc3⟩
  have hz6 : ZBox W0 (w.heap.size + 1 + 1) := ⟨by rw [hW0]; simp <;> omega, by rw [hW0]; simp [go_sem], by rw [hW0]; simp [go_sem], fun o => by rw [hW0]; simp [go_sem]⟩
  have hz7 : ZBox W0 (w.heap.size + 1 + 1 + 1) := ⟨by rw [hW0]; simp <;> omega, by rw [hW0]; simp [go_sem], by rw [hW0]; simp [go_sem], fun o => by rw [hW0]; simp [go_sem]⟩
  have hn9 : ZBox W0 (w.heap.size + 1 + 1 + 1 + 1) := ⟨by rw [hW0]; simp, by rw [hW0]; simp [go_sem], by rw [hW0]; simp [go_sem], fun o => by rw [hW0]; simp [go_sem]⟩
  have HD : Hid (ownM t c cat = if nmB t cat = true then ((0, []), (0, []), 8) else if nmB c cat = true then ((0, []), (0, []), 8)
    else if (wX t cat 0 != 0) = true then ((0, []), (0, []), wX t cat 0)
    else if (wX c cat 4 != 0) = true then ((0, []), (0, []), wX c cat 4) else (wM t cat 0, wM c cat 4, 0)) := rfl
  clear ht1 hc1
  go_enter Try.func19, Try.ntmps19
  go_upto_region 2 with fail
  rw [← hW0]
  refine wp_region_monoF 8 (fun kq v W => match kq with | 14 => LV t v W | 15 => v = .int .i64 cat | 16 => v = .bool (nmB t cat) | 17 => v = .bool (nmB t cat) | 18 => ((nmB t cat) = false → LV c v W) | 19 => ((nmB t cat) = false → v = .int .i64 cat) | 20 => ((nmB t cat) = false → v = .bool (nmB c cat)) | 21 => v = .bool ((nmB t cat) || (nmB c cat)) | _ => True) (by kernel_rfl) (by kernel_rfl) (by simp) ?_ ?_ ?_
  · intro kq v W W' h hb
    revert h
    try dsimp only
    split
    · intro h; exact LV.below h hb
    · intro h; exact h
    · intro h; exact h
    · intro h; exact h
    · intro h' e; have h := h' e; exact LV.below h hb
    · intro h' e; have h := h' e; exact h
    · intro h' e; have h := h' e; exact h
    · intro h; exact h
    · intro h; trivial
  · intro a' W hB hs hk i o d ho hd hG
    match i, ho with
    | 0, ho =>
      obtain rfl : _ = o := Option.some.inj ho
      obtain rfl : 14 = d := Option.some.inj hd
      obtain ⟨v, hr, hv⟩ := run_loadL (ev := a'.eval) (W := W) (hk 3 (by kernel_rfl)) (hbt.below hB)
      exact .inr ⟨rfl, .inl ⟨v, W, hr, Below.refl _ _, hv⟩⟩
    | 1, ho =>
      obtain rfl : _ = o := Option.some.inj ho
      obtain rfl : 15 = d := Option.some.inj hd
      exact .inr ⟨rfl, .inl ⟨_, W, run_move (hk 2 (by kernel_rfl)), Below.refl _ _, rfl⟩⟩
    | 2, ho =>
      obtain rfl : _ = o := Option.some.inj ho
      obtain rfl : 16 = d := Option.some.inj hd
      have g14 : LV t (a'.eval (.tmp 14)) W := hG ⟨0, .data⟩ (by simp) rfl 14 rfl
      have g15 : (a'.eval (.tmp 15)) = .int .i64 cat := hG ⟨1, .data⟩ (by simp) rfl 15 rfl
      exact .inr ⟨rfl, .inr ⟨_, _, run_call rfl map_2 ent_passage_names, names_c g14 g15⟩⟩
    | 3, ho =>
      obtain rfl : _ = o := Option.some.inj ho
      obtain rfl : 17 = d := Option.some.inj hd
      have g16 : (a'.eval (.tmp 16)) = .bool (nmB t cat) := hG ⟨2, .data⟩ (by simp) rfl 16 rfl
      exact .inr ⟨rfl, .inl ⟨_, W, run_move rfl, Below.refl _ _, g16⟩⟩
    | 4, ho =>
      obtain rfl : _ = o := Option.some.inj ho
      obtain rfl : 18 = d := Option.some.inj hd
      have gg : a'.eval (.tmp 17) = .bool (nmB t cat) := hG ⟨3, .guard⟩ (by simp) rfl 17 rfl
      by_cases hgc_ : (nmB t cat) = false
      · obtain ⟨v, hr, hv⟩ := run_loadL (ev := a'.eval) (W := W) (hk 4 (by kernel_rfl)) (hbc.below hB)
        exact .inr ⟨want_yes (n := 48) (d := 17) rfl hs (by decide) rfl (gg.trans (by rw [hgc_])), .inl ⟨v, W, hr, Below.refl _ _, fun _ => hv⟩⟩
      · exact .inl ⟨want_no (n := 48) (d := 17) rfl hs (by decide) rfl gg hgc_, fun e => absurd e hgc_⟩
    | 5, ho =>
      obtain rfl : _ = o := Option.some.inj ho
      obtain rfl : 19 = d := Option.some.inj hd
      have gg : a'.eval (.tmp 17) = .bool (nmB t cat) := hG ⟨3, .guard⟩ (by simp) rfl 17 rfl
      by_cases hgc_ : (nmB t cat) = false
      · exact .inr ⟨want_yes (n := 48) (d := 17) rfl hs (by decide) rfl (gg.trans (by rw [hgc_])), .inl ⟨_, W, run_move (hk 2 (by kernel_rfl)), Below.refl _ _, fun _ => rfl⟩⟩
      · exact .inl ⟨want_no (n := 48) (d := 17) rfl hs (by decide) rfl gg hgc_, fun e => absurd e hgc_⟩
    | 6, ho =>
      obtain rfl : _ = o := Option.some.inj ho
      obtain rfl : 20 = d := Option.some.inj hd
      have gg : a'.eval (.tmp 17) = .bool (nmB t cat) := hG ⟨3, .guard⟩ (by simp) rfl 17 rfl
      by_cases hgc_ : (nmB t cat) = false
      · have g18 : LV c (a'.eval (.tmp 18)) W := hG ⟨4, .data⟩ (by simp) rfl 18 rfl hgc_
        have g19 : (a'.eval (.tmp 19)) = .int .i64 cat := hG ⟨5, .data⟩ (by simp) rfl 19 rfl hgc_
        exact .inr ⟨want_yes (n := 48) (d := 17) rfl hs (by decide) rfl (gg.trans (by rw [hgc_])), .inr ⟨_, _, run_call rfl map_2 ent_passage_names, (names_c g18 g19).mono (fun e W' ⟨v, he, hb, hv⟩ => ⟨v, he, hb, fun _ => hv⟩)⟩⟩
      · exact .inl ⟨want_no (n := 48) (d := 17) rfl hs (by decide) rfl gg hgc_, fun e => absurd e hgc_⟩
    | 7, ho =>
      obtain rfl : _ = o := Option.some.inj ho
      obtain rfl : 21 = d := Option.some.inj hd
      have g17 : (a'.eval (.tmp 17)) = .bool (nmB t cat) := hG ⟨3, .data⟩ (by simp) rfl 17 rfl
      by_cases hq : (nmB t cat) = true
      · exact .inr ⟨rfl, .inl ⟨_, W, run_pick_yes (g17.trans (by rw [hq])) rfl, Below.refl _ _, by rw [hq]; rfl⟩⟩
      · have hq' : (nmB t cat) = false := by simpa using hq
        exact .inr ⟨rfl, .inl ⟨_, W, run_pick_no (g17.trans (by rw [hq'])) (hG ⟨6, .data⟩ (by simp) rfl 20 rfl hq'), Below.refl _ _, by rw [hq']; rfl⟩⟩
    | j + 8, ho => simp at ho
  · intro a' W hB hs hdf hk hG
    obtain ⟨tm, df⟩ := a'
    obtain rfl : df = [] := hdf
    have e0 : tm.getD 0 undef = .agg #[.int .i64 t.fst, .slice pt t.snd.length ct] := hk 0 (by kernel_rfl)
    have e1 : tm.getD 1 undef = .agg #[.int .i64 c.fst, .slice pc c.snd.length cc] := hk 1 (by kernel_rfl)
    have e2 : tm.getD 2 undef = .int .i64 cat := hk 2 (by kernel_rfl)
    have e3 : tm.getD 3 undef = .pointer (some ⟨w.heap.size, 0, none⟩) := hk 3 (by kernel_rfl)
    have e4 : tm.getD 4 undef = .pointer (some ⟨w.heap.size + 1, 0, none⟩) := hk 4 (by kernel_rfl)
    have e5 : tm.getD 5 undef = undef := hk 5 (by kernel_rfl)
    have e6 : tm.getD 6 undef = .pointer (some ⟨w.heap.size + 1 + 1, 0, none⟩) := hk 6 (by kernel_rfl)
    have e7 : tm.getD 7 undef = .pointer (some ⟨w.heap.size + 1 + 1 + 1, 0, none⟩) := hk 7 (by kernel_rfl)
    have e8 : tm.getD 8 undef = .int .i64 0 := hk 8 (by kernel_rfl)
    have e9 : tm.getD 9 undef = .pointer (some ⟨w.heap.size + 1 + 1 + 1 + 1, 0, none⟩) := hk 9 (by kernel_rfl)
    have e10 : tm.getD 10 undef = undef := hk 10 (by kernel_rfl)
    have e11 : tm.getD 11 undef = undef := hk 11 (by kernel_rfl)
    have e12 : tm.getD 12 undef = undef := hk 12 (by kernel_rfl)
    have e13 : tm.getD 13 undef = .agg #[.int .i64 0, .slice none 0 0] := hk 13 (by kernel_rfl)
    have e22 : tm.getD 22 undef = undef := hk 22 (by kernel_rfl)
    have e23 : tm.getD 23 undef = undef := hk 23 (by kernel_rfl)
    have e24 : tm.getD 24 undef = undef := hk 24 (by kernel_rfl)
    have e25 : tm.getD 25 undef = undef := hk 25 (by kernel_rfl)
    have e26 : tm.getD 26 undef = undef := hk 26 (by kernel_rfl)
    have e27 : tm.getD 27 undef = undef := hk 27 (by kernel_rfl)
    have e28 : tm.getD 28 undef = undef := hk 28 (by kernel_rfl)
    have e29 : tm.getD 29 undef = undef := hk 29 (by kernel_rfl)
    have e30 : tm.getD 30 undef = undef := hk 30 (by kernel_rfl)
    have e31 : tm.getD 31 undef = undef := hk 31 (by kernel_rfl)
    have e32 : tm.getD 32 undef = undef := hk 32 (by kernel_rfl)
    have e33 : tm.getD 33 undef = undef := hk 33 (by kernel_rfl)
    have e34 : tm.getD 34 undef = undef := hk 34 (by kernel_rfl)
    have e35 : tm.getD 35 undef = undef := hk 35 (by kernel_rfl)
    have e36 : tm.getD 36 undef = undef := hk 36 (by kernel_rfl)
    have e37 : tm.getD 37 undef = undef := hk 37 (by kernel_rfl)
    have e38 : tm.getD 38 undef = undef := hk 38 (by kernel_rfl)
    have e39 : tm.getD 39 undef = undef := hk 39 (by kernel_rfl)
    have e40 : tm.getD 40 undef = undef := hk 40 (by kernel_rfl)
    have e41 : tm.getD 41 undef = undef := hk 41 (by kernel_rfl)
    have e42 : tm.getD 42 undef = undef := hk 42 (by kernel_rfl)
    have e43 : tm.getD 43 undef = undef := hk 43 (by kernel_rfl)
    have e44 : tm.getD 44 undef = undef := hk 44 (by kernel_rfl)
    have e45 : tm.getD 45 undef = undef := hk 45 (by kernel_rfl)
    have e46 : tm.getD 46 undef = undef := hk 46 (by kernel_rfl)
    have e47 : tm.getD 47 undef = undef := hk 47 (by kernel_rfl)
    have g14 : LV t (tm.getD 14 undef) W := hG 0 14 (by decide) rfl
    have g15 : (tm.getD 15 undef) = .int .i64 cat := hG 1 15 (by decide) rfl
    have g16 : (tm.getD 16 undef) = .bool (nmB t cat) := hG 2 16 (by decide) rfl
    have g17 : (tm.getD 17 undef) = .bool (nmB t cat) := hG 3 17 (by decide) rfl
    have g18 : (nmB t cat) = false → LV c (tm.getD 18 undef) W := hG 4 18 (by decide) rfl
    have g19 : (nmB t cat) = false → (tm.getD 19 undef) = .int .i64 cat := hG 5 19 (by decide) rfl
    have g20 : (nmB t cat) = false → (tm.getD 20 undef) = .bool (nmB c cat) := hG 6 20 (by decide) rfl
    have g21 : (tm.getD 21 undef) = .bool ((nmB t cat) || (nmB c cat)) := hG 7 21 (by decide) rfl
    have htm := arr_of tm ((.agg #[.int .i64 t.fst, .slice pt t.snd.length ct] : Value) :: (.agg #[.int .i64 c.fst, .slice pc c.snd.length cc] : Value) :: (.int .i64 cat : Value) :: (.pointer (some ⟨w.heap.size, 0, none⟩) : Value) :: (.pointer (some ⟨w.heap.size + 1, 0, none⟩) : Value) :: (undef : Value) :: (.pointer (some ⟨w.heap.size + 1 + 1, 0, none⟩) : Value) :: (.pointer (some ⟨w.heap.size + 1 + 1 + 1, 0, none⟩) : Value) :: (.int .i64 0 : Value) :: (.pointer (some ⟨w.heap.size + 1 + 1 + 1 + 1, 0, none⟩) : Value) :: (undef : Value) :: (undef : Value) :: (undef : Value) :: (.agg #[.int .i64 0, .slice none 0 0] : Value) :: (tm.getD 14 undef : Value) :: (tm.getD 15 undef : Value) :: (tm.getD 16 undef : Value) :: (tm.getD 17 undef : Value) :: (tm.getD 18 undef : Value) :: (tm.getD 19 undef : Value) :: (tm.getD 20 undef : Value) :: (tm.getD 21 undef : Value) :: (undef : Value) :: (undef : Value) :: (undef : Value) :: (undef : Value) :: (undef : Value) :: (undef : Value) :: (undef : Value) :: (undef : Value) :: (undef : Value) :: (undef : Value) :: (undef : Value) :: (undef : Value) :: (undef : Value) :: (undef : Value) :: (undef : Value) :: (undef : Value) :: (undef : Value) :: (undef : Value) :: (undef : Value) :: (undef : Value) :: (undef : Value) :: (undef : Value) :: (undef : Value) :: (undef : Value) :: (undef : Value) :: (undef : Value) :: []) hs (by show (tm.getD 0 undef :: tm.getD 1 undef :: tm.getD 2 undef :: tm.getD 3 undef :: tm.getD 4 undef :: tm.getD 5 undef :: tm.getD 6 undef :: tm.getD 7 undef :: tm.getD 8 undef :: tm.getD 9 undef :: tm.getD 10 undef :: tm.getD 11 undef :: tm.getD 12 undef :: tm.getD 13 undef :: tm.getD 14 undef :: tm.getD 15 undef :: tm.getD 16 undef :: tm.getD 17 undef :: tm.getD 18 undef :: tm.getD 19 undef :: tm.getD 20 undef :: tm.getD 21 undef :: tm.getD 22 undef :: tm.getD 23 undef :: tm.getD 24 undef :: tm.getD 25 undef :: tm.getD 26 undef :: tm.getD 27 undef :: tm.getD 28 undef :: tm.getD 29 undef :: tm.getD 30 undef :: tm.getD 31 undef :: tm.getD 32 undef :: tm.getD 33 undef :: tm.getD 34 undef :: tm.getD 35 undef :: tm.getD 36 undef :: tm.getD 37 undef :: tm.getD 38 undef :: tm.getD 39 undef :: tm.getD 40 undef :: tm.getD 41 undef :: tm.getD 42 undef :: tm.getD 43 undef :: tm.getD 44 undef :: tm.getD 45 undef :: tm.getD 46 undef :: tm.getD 47 undef :: []) = _; rw [e0, e1, e2, e3, e4, e5, e6, e7, e8, e9, e10, e11, e12, e13, e22, e23, e24, e25, e26, e27, e28, e29, e30, e31, e32, e33, e34, e35, e36, e37, e38, e39, e40, e41, e42, e43, e44, e45, e46, e47]; try rfl)
    clear hs hk hG e0 e1 e2 e3 e4 e5 e6 e7 e8 e9 e10 e11 e12 e13 e22 e23 e24 e25 e26 e27 e28 e29 e30 e31 e32 e33 e34 e35 e36 e37 e38 e39 e40 e41 e42 e43 e44 e45 e46 e47
    generalize tm.getD 14 undef = t14 at htm g14
    generalize tm.getD 15 undef = t15 at htm g15
    generalize tm.getD 16 undef = t16 at htm g16
    generalize tm.getD 17 undef = t17 at htm g17
    generalize tm.getD 18 undef = t18 at htm g18
    generalize tm.getD 19 undef = t19 at htm g19
    generalize tm.getD 20 undef = t20 at htm g20
    generalize tm.getD 21 undef = t21 at htm g21
    subst htm
    subst g15
    subst g16
    subst g17
    subst g21
    simp only [List.drop_succ_cons, List.drop_zero]
    have hA1 : Below w.heap.size w W := hA.trans (hB.mono hA.size)
    have hct := hbt.below hB
    have hcc := hbc.below hB
    have hy6 := hz6.below hB
    have hy7 := hz7.below hB
    have hm9 := hn9.below hB
    clear hbt hbc hz6 hz7 hn9 hB g14 g18 g19 g20
    obtain ⟨x0, hx⟩ : ∃ x0, ((nmB t cat) || (nmB c cat)) = x0 := ⟨_, rfl⟩
    simp only [hx]
    cases x0 with
    | true =>
      have HDx : Hid (ownM t c cat = ((0, []), (0, []), 8)) := by
        simp only [Hid]
        rw [HD.out]
        by_cases h1 : nmB t cat = true
        · rw [if_pos h1]
        · have h2 : nmB c cat = true := by
            have h1' : nmB t cat = false := by simpa using h1
            rw [h1'] at hx; simpa using hx
          rw [if_neg h1, if_pos h2]
      clear HD hx
      have HD := HDx
      clear HDx hct hcc
      have HB := Lib.hid hA1
      obtain ⟨z6, z60, z61, z6f⟩ := hy6.below (Below.refl _ _)
      obtain ⟨z7, z70, z71, z7f⟩ := hy7.below (Below.refl _ _)
      obtain ⟨z9, z90, z91, z9f⟩ := hm9.below (Below.refl _ _)
      go_wp2_with fail
      go_region_law (fail)
      all_goals go_wp2
      all_goals (refine bodyPost_ret (by first | (simp [results, Try.results19, go_sem, z60, z61, z70, z71]; rfl) | simp [results, Try.results19, go_sem, z60, z61, z70, z71]) rfl ⟨_, _, by first | (rw [HD.out]; done) | (rw [HD.out]; rfl), ?_, ?_, ?_⟩)
      all_goals first
        | exact (((HB.out.drew.setCell (p := ⟨w.heap.size + 1 + 1, 0, none⟩) (by simp <;> omega) _).setCell (p := ⟨w.heap.size + 1 + 1, 1, none⟩) (by simp <;> omega) _).setCell (p := ⟨w.heap.size + 1 + 1 + 1, 0, none⟩) (by simp <;> omega) _).setCell (p := ⟨w.heap.size + 1 + 1 + 1, 1, none⟩) (by simp <;> omega) _
        | (rw [HD.out]; exact RV.zero _ _)
        | (rw [HD.out]; exact RV.zero _ _)
    | false =>
      have h1 : ¬ nmB t cat = true := by intro h; rw [h] at hx; simp at hx
      have h2 : ¬ nmB c cat = true := by intro h; rw [h] at hx; simp at hx
      rw [if_neg h1, if_neg h2] at HD
      clear h1 h2 hx
      obtain ⟨p1, c1, hl1, bt0, bt1, btc, bt2, bt3⟩ := hct
      have HW := Lib.hid (With_c (l := t) ⟨p1, c1, rfl, btc, bt2, bt3⟩ rt cat 0)
      obtain ⟨e1, he1⟩ : ∃ e1, wX t cat 0 = e1 := ⟨_, rfl⟩
      rw [he1] at HW HD
      clear he1 btc
      have hWs : w.heap.size + 1 + 1 + 1 + 1 < W.heap.size := hm9.lt
      by_cases q1 : e1 = 0
      · have q1' : (e1 != 0) = false := by simp [q1]
        rw [q1'] at HD
        have q1'' : (e1 == 0) = true := by simp [q1]
        subst q1
        have HW2 : Hid (∀ W', Below W.heap.size W W' → ∃ p c', W'.cell? ⟨w.heap.size + 1, 0, none⟩ = some (.int .i64 c.1) ∧ W'.cell? ⟨w.heap.size + 1, 1, none⟩ = some (.slice p c.2.length c') ∧ Calls Try.prog 43 #[.agg #[.int .i64 c.1, .slice p c.2.length c'], .int .i64 cat, .int .i64 4] W' fun e W'' => ∃ x, e = .returned (.tuple #[x, .int .i64 (wX c cat 4)]) ∧ Below W'.heap.size W' W'' ∧ RV W'.heap.size (wM c cat 4) x W'') := fun W' hb => by
          obtain ⟨p, c', h1, h2, h3, h4, h5, h6⟩ := hcc.below hb
          exact ⟨p, c', h2, h3, With_c (l := c) ⟨p, c', rfl, h4, h5, h6⟩ rc cat 4⟩
        obtain ⟨e2, he2⟩ : ∃ e2, wX c cat 4 = e2 := ⟨_, rfl⟩
        rw [he2] at HD
        simp only [he2] at HW2
        clear he2 hcc
        have hz9 := hm9
        by_cases q2 : e2 = 0
        · have q2' : (e2 != 0) = false := by simp [q2]
          rw [q2'] at HD
          have q2'' : (e2 == 0) = true := by simp [q2]
          subst q2
          go_wp2_with (first
            | (go_at_call 43; refine HW.out.mono ?_; rintro e w2 ⟨x, rfl, hb2, hx2⟩; obtain ⟨sx, rfl, hRx⟩ := hx2; obtain ⟨p2, c2, rfl, _, _⟩ := id hRx.out; have hbA : Below W.heap.size W (w2.alloc (.cells #[.int .i64 (wM t cat 0).1, .slice p2 (wM t cat 0).2.length c2] 24)) := hb2.alloc hb2.size _; obtain ⟨p3, c3, bc0, bc1, HW3⟩ := HW2.out _ hbA; have HW3' := Lib.hid HW3; have hRxA := hRx.below (show Below w2.heap.size w2 (w2.alloc (.cells #[.int .i64 (wM t cat 0).1, .slice p2 (wM t cat 0).2.length c2] 24)) from by go_grown); clear HW3 HW HW2)
            | (go_at_call 43; refine HW3'.out.mono ?_; rintro e w3 ⟨y, rfl, hb3, hy3⟩; obtain ⟨sy, rfl, hRy⟩ := hy3; obtain ⟨p4, c4, rfl, _, _⟩ := id hRy.out))
          have hW2s : W.heap.size ≤ w2.heap.size := hb2.size
          have hb03 : Below W.heap.size W w3 := hbA.trans (hb3.mono hbA.size)
          have hW3s : w2.heap.size + 1 ≤ w3.heap.size := by have := hb3.size; simp at this; omega
          have o0 : w3.cell? ⟨w2.heap.size, 0, none⟩ = some (.int .i64 (wM t cat 0).1) := (hb3.cell (p := ⟨w2.heap.size, 0, none⟩) (by simp)).trans (by simp [go_sem])
          have o1 : w3.cell? ⟨w2.heap.size, 1, none⟩ = some (.slice p2 (wM t cat 0).2.length c2) := (hb3.cell (p := ⟨w2.heap.size, 1, none⟩) (by simp)).trans (by simp [go_sem])
          obtain ⟨Wr, hWr⟩ : ∃ Wr, Wr = w3.alloc (.cells #[.int .i64 (wM c cat 4).1, .slice p4 (wM c cat 4).2.length c4] 24) := ⟨_, rfl⟩
          have hb3r : Below w3.heap.size w3 Wr := by rw [hWr]; go_grown
          have hbr : Below W.heap.size W Wr := hb03.trans (hb3r.mono hb03.size)
          have u0 : Wr.cell? ⟨w2.heap.size, 0, none⟩ = some (.int .i64 (wM t cat 0).1) := (hb3r.cell (p := ⟨w2.heap.size, 0, none⟩) (by simp; omega)).trans o0
          have u1 : Wr.cell? ⟨w2.heap.size, 1, none⟩ = some (.slice p2 (wM t cat 0).2.length c2) := (hb3r.cell (p := ⟨w2.heap.size, 1, none⟩) (by simp; omega)).trans o1
          have v0 : Wr.cell? ⟨w3.heap.size, 0, none⟩ = some (.int .i64 (wM c cat 4).1) := by rw [hWr]; simp [go_sem]
          have v1 : Wr.cell? ⟨w3.heap.size, 1, none⟩ = some (.slice p4 (wM c cat 4).2.length c4) := by rw [hWr]; simp [go_sem]
          have hrs : w3.heap.size < Wr.heap.size := by rw [hWr]; simp
          have HRx := Lib.hid ((hRxA.below hb3).below hb3r)
          have HRy := Lib.hid ((hRy.mono (show W.heap.size ≤ _ from hbA.size)).below hb3r)
          rw [← hWr]
          obtain ⟨z6, z60, z61, z6f⟩ := hy6.below hbr
          obtain ⟨z7, z70, z71, z7f⟩ := hy7.below hbr
          obtain ⟨z9, z90, z91, z9f⟩ := hm9.below hbr
          have HB : Hid (Below w.heap.size w Wr) := hA1.trans (hbr.mono hA1.size)
          have n2 : w.heap.size + 1 + 1 + 1 < w2.heap.size := by omega
          have n3 : w2.heap.size < w3.heap.size := by omega
          obtain ⟨b2, hb2e⟩ : ∃ b2, b2 = w2.heap.size := ⟨_, rfl⟩
          obtain ⟨b3, hb3e⟩ : ∃ b3, b3 = w3.heap.size := ⟨_, rfl⟩
          rw [← hb2e] at u0 u1 n2 n3 ⊢
          rw [← hb3e] at v0 v1 n3 hrs ⊢
          clear hb2e hb3e hWr hbr HW3' hRx hRxA hRy hb03 hb3r hb3 hbA hb2 hy6 hy7 hm9 hz9 hA1 bc0 bc1 bt0 bt1 o0 o1 hW2s hW3s
          go_region_law (fail)
          all_goals go_wp2
          all_goals (refine bodyPost_ret (by first | (simp [results, Try.results19, go_sem, z60, z61, z70, z71]; rfl) | simp [results, Try.results19, go_sem, z60, z61, z70, z71]) rfl ⟨_, _, by first | (rw [HD.out]; done) | (rw [HD.out]; rfl), ?_, ?_, ?_⟩)
          all_goals first
            | exact (((HB.out.drew.setCell (p := ⟨w.heap.size + 1 + 1, 0, none⟩) (by simp <;> omega) _).setCell (p := ⟨w.heap.size + 1 + 1, 1, none⟩) (by simp <;> omega) _).setCell (p := ⟨w.heap.size + 1 + 1 + 1, 0, none⟩) (by simp <;> omega) _).setCell (p := ⟨w.heap.size + 1 + 1 + 1, 1, none⟩) (by simp <;> omega) _
            | (rw [HD.out]; exact RV.mono (B := W.heap.size) (RV.set (RV.set (RV.set (RV.set ⟨_, rfl, HRx.out⟩ (by simp; omega) _) (by simp; omega) _) (by simp; omega) _) (by simp; omega) _) (by omega))
            | (rw [HD.out]; exact RV.mono (B := W.heap.size) (RV.set (RV.set (RV.set (RV.set ⟨_, rfl, HRy.out⟩ (by simp; omega) _) (by simp; omega) _) (by simp; omega) _) (by simp; omega) _) (by omega))
        · have q2' : (e2 != 0) = true := by simp [q2]
          rw [if_pos q2'] at HD
          have q2'' : (e2 == 0) = false := by simp [q2]
          go_wp2_with (first
            | (go_at_call 43; refine HW.out.mono ?_; rintro e w2 ⟨x, rfl, hb2, hx2⟩; obtain ⟨sx, rfl, hRx⟩ := hx2; obtain ⟨p2, c2, rfl, _, _⟩ := id hRx.out; have hbA : Below W.heap.size W (w2.alloc (.cells #[.int .i64 (wM t cat 0).1, .slice p2 (wM t cat 0).2.length c2] 24)) := hb2.alloc hb2.size _; obtain ⟨p3, c3, bc0, bc1, HW3⟩ := HW2.out _ hbA; have HW3' := Lib.hid HW3; have hRxA := hRx.below (show Below w2.heap.size w2 (w2.alloc (.cells #[.int .i64 (wM t cat 0).1, .slice p2 (wM t cat 0).2.length c2] 24)) from by go_grown); clear HW3 HW HW2)
            | (go_at_call 43; refine HW3'.out.mono ?_; rintro e w3 ⟨y, rfl, hb3, hy3⟩; obtain ⟨sy, rfl, hRy⟩ := hy3; obtain ⟨p4, c4, rfl, _, _⟩ := id hRy.out))
          have hW2s : W.heap.size ≤ w2.heap.size := hb2.size
          have hb03 : Below W.heap.size W w3 := hbA.trans (hb3.mono hbA.size)
          have hW3s : w2.heap.size + 1 ≤ w3.heap.size := by have := hb3.size; simp at this; omega
          have o0 : w3.cell? ⟨w2.heap.size, 0, none⟩ = some (.int .i64 (wM t cat 0).1) := (hb3.cell (p := ⟨w2.heap.size, 0, none⟩) (by simp)).trans (by simp [go_sem])
          have o1 : w3.cell? ⟨w2.heap.size, 1, none⟩ = some (.slice p2 (wM t cat 0).2.length c2) := (hb3.cell (p := ⟨w2.heap.size, 1, none⟩) (by simp)).trans (by simp [go_sem])
          obtain ⟨Wr, hWr⟩ : ∃ Wr, Wr = w3.alloc (.cells #[.int .i64 (wM c cat 4).1, .slice p4 (wM c cat 4).2.length c4] 24) := ⟨_, rfl⟩
          have hb3r : Below w3.heap.size w3 Wr := by rw [hWr]; go_grown
          have hbr : Below W.heap.size W Wr := hb03.trans (hb3r.mono hb03.size)
          have u0 : Wr.cell? ⟨w2.heap.size, 0, none⟩ = some (.int .i64 (wM t cat 0).1) := (hb3r.cell (p := ⟨w2.heap.size, 0, none⟩) (by simp; omega)).trans o0
          have u1 : Wr.cell? ⟨w2.heap.size, 1, none⟩ = some (.slice p2 (wM t cat 0).2.length c2) := (hb3r.cell (p := ⟨w2.heap.size, 1, none⟩) (by simp; omega)).trans o1
          have v0 : Wr.cell? ⟨w3.heap.size, 0, none⟩ = some (.int .i64 (wM c cat 4).1) := by rw [hWr]; simp [go_sem]
          have v1 : Wr.cell? ⟨w3.heap.size, 1, none⟩ = some (.slice p4 (wM c cat 4).2.length c4) := by rw [hWr]; simp [go_sem]
          have hrs : w3.heap.size < Wr.heap.size := by rw [hWr]; simp
          have HRx := Lib.hid ((hRxA.below hb3).below hb3r)
          have HRy := Lib.hid ((hRy.mono (show W.heap.size ≤ _ from hbA.size)).below hb3r)
          rw [← hWr]
          obtain ⟨z6, z60, z61, z6f⟩ := hy6.below hbr
          obtain ⟨z7, z70, z71, z7f⟩ := hy7.below hbr
          obtain ⟨z9, z90, z91, z9f⟩ := hm9.below hbr
          have HB : Hid (Below w.heap.size w Wr) := hA1.trans (hbr.mono hA1.size)
          have n2 : w.heap.size + 1 + 1 + 1 < w2.heap.size := by omega
          have n3 : w2.heap.size < w3.heap.size := by omega
          obtain ⟨b2, hb2e⟩ : ∃ b2, b2 = w2.heap.size := ⟨_, rfl⟩
          obtain ⟨b3, hb3e⟩ : ∃ b3, b3 = w3.heap.size := ⟨_, rfl⟩
          rw [← hb2e] at u0 u1 n2 n3 ⊢
          rw [← hb3e] at v0 v1 n3 hrs ⊢
          clear hb2e hb3e hWr hbr HW3' hRx hRxA hRy hb03 hb3r hb3 hbA hb2 hy6 hy7 hm9 hz9 hA1 bc0 bc1 bt0 bt1 o0 o1 hW2s hW3s
          go_region_law (fail)
          all_goals go_wp2
          all_goals (refine bodyPost_ret (by first | (simp [results, Try.results19, go_sem, z60, z61, z70, z71]; rfl) | simp [results, Try.results19, go_sem, z60, z61, z70, z71]) rfl ⟨_, _, by first | (rw [HD.out]; done) | (rw [HD.out]; rfl), ?_, ?_, ?_⟩)
          all_goals first
            | exact (((HB.out.drew.setCell (p := ⟨w.heap.size + 1 + 1, 0, none⟩) (by simp <;> omega) _).setCell (p := ⟨w.heap.size + 1 + 1, 1, none⟩) (by simp <;> omega) _).setCell (p := ⟨w.heap.size + 1 + 1 + 1, 0, none⟩) (by simp <;> omega) _).setCell (p := ⟨w.heap.size + 1 + 1 + 1, 1, none⟩) (by simp <;> omega) _
            | (rw [HD.out]; exact RV.zero _ _)
            | (rw [HD.out]; exact RV.zero _ _)
      · have q1' : (e1 != 0) = true := by simp [q1]
        rw [if_pos q1'] at HD
        have q1'' : (e1 == 0) = false := by simp [q1]
        go_wp2_with (go_at_call 43; refine HW.out.mono ?_; rintro e w2 ⟨x, rfl, hb2, hx2⟩; obtain ⟨sx, rfl, hRx⟩ := hx2; obtain ⟨p2, c2, rfl, _, _⟩ := id hRx.out)
        obtain ⟨Wr, hWr⟩ : ∃ Wr, Wr = w2.alloc (.cells #[.int .i64 (wM t cat 0).1, .slice p2 (wM t cat 0).2.length c2] 24) := ⟨_, rfl⟩
        have hbr : Below W.heap.size W Wr := by rw [hWr]; exact hb2.alloc hb2.size _
        rw [← hWr]
        obtain ⟨z6, z60, z61, z6f⟩ := hy6.below hbr
        obtain ⟨z7, z70, z71, z7f⟩ := hy7.below hbr
        obtain ⟨z9, z90, z91, z9f⟩ := hm9.below hbr
        have HB : Hid (Below w.heap.size w Wr) := hA1.trans (hbr.mono hA1.size)
        clear hWr hbr HW hRx hb2 hy6 hy7 hm9 hA1 hcc bt0 bt1 hWs
        go_region_law (fail)
        all_goals go_wp2
        all_goals (refine bodyPost_ret (by first | (simp [results, Try.results19, go_sem, z60, z61, z70, z71]; rfl) | simp [results, Try.results19, go_sem, z60, z61, z70, z71]) rfl ⟨_, _, by first | (rw [HD.out]; done) | (rw [HD.out]; rfl), ?_, ?_, ?_⟩)
        all_goals first
          | exact (((HB.out.drew.setCell (p := ⟨w.heap.size + 1 + 1, 0, none⟩) (by simp <;> omega) _).setCell (p := ⟨w.heap.size + 1 + 1, 1, none⟩) (by simp <;> omega) _).setCell (p := ⟨w.heap.size + 1 + 1 + 1, 0, none⟩) (by simp <;> omega) _).setCell (p := ⟨w.heap.size + 1 + 1 + 1, 1, none⟩) (by simp <;> omega) _
          | (rw [HD.out]; exact RV.zero _ _)
          | (rw [HD.out]; exact RV.zero _ _)
end Go.Proofs.Ytnjmgholoigpkaa
