/- What Floor of the reference answers. -/
import Derived.Test.YtnjmgholoigpkaaFlr
import Derived.Test.YtnjmgholoigpkaaREnt
namespace Go.Proofs.Ytnjmgholoigpkaa
open Go.RowKit Go.Sort
theorem Put_c {B : Nat} {l : ML} {v u z : Value} {W : World} {c x : Int} (h : RV B l v W) (hu : u = .int .i64 c) (hz : z = .int .i64 x) (hB : B ≤ W.heap.size) (hl : l.2.length ≤ 100) : Calls Try.prog 50 #[v, u, z] W fun e W' => ∃ v', e = .returned v' ∧ Below W.heap.size W W' ∧ RV B (l.1, putS l.1 l.2 c x) v' W' := by
  subst hu hz
  obtain ⟨s, rfl, hR⟩ := h
  refine (Put_any B l.1 c x s l.2 W (by omega) hB hR).mono ?_
  rintro e W' ⟨v', rfl, hR', hb⟩
  exact ⟨_, rfl, hb, _, rfl, hR'⟩
/-- A new box for a label, behind w. -/
def NBox (w : World) (v : Value) (W : World) : Prop := ∃ b, v = .pointer (some ⟨b, 0, none⟩) ∧ w.heap.size ≤ b ∧ W.heap[b]? = some (.cells #[.int .i64 0, .slice none 0 0] 24)
theorem NBox.below {w : World} {v : Value} {W W' : World} (h : NBox w v W) (hb : Below W.heap.size W W') : NBox w v W' := by
  obtain ⟨g, h1, h2, h3⟩ := h
  exact ⟨g, h1, h2, (hb.block g (Array.getElem?_eq_some_iff.1 h3).1).trans h3⟩
def fU (t g : ML) (c : Int) : Int := max (aZ (upM t) c) (aZ (upM g) c)
def upR (t g : ML) (cs : List Int) : List (Int × Int) := shortS (fU t g 0) (rowS (fU t g) cs)
def ouR (t g : ML) (cs : List Int) : List (Int × Int) := shortS (flZ t g 0) (rowS (flZ t g) cs)
theorem put_snoc (d : Int) (f : Int → Int) (cs : List Int) (k : Nat) (h : k < cs.length) : shortS d (rowS f (cs.take (k + 1))) = putS d (shortS d (rowS f (cs.take k))) cs[k] (f cs[k]) := by
  unfold rowS
  rw [List.take_succ_eq_append_getElem h, List.map_append]
  unfold shortS putS
  rw [List.filter_append]
  by_cases hd : (f cs[k] != d) = true
  · simp [hd]
  · simp [hd]
theorem ent_gatehouseref01_Put : Enters 50 := fun args W => by go_simp
def rfloM (t g : ML) : ML := if (upR t g (nmM [t, g])).length ≤ 16 then (flZ t g 0, ouR t g (nmM [t, g])) else (0, [])
def rfloE (t g : ML) : Int := if (upR t g (nmM [t, g])).length ≤ 16 then 0 else 7
theorem run_field0 {ev : Operand → Value} {W : World} {dst : Option Nat} {ty : TypeId} {pos : String} {af : Array Edge} {gd : Option (Nat × Bool)} {l : ML} {x : Operand} (h : LV l (ev x) W) :
    (execOp ev { dst := dst, op := .field 24 x 0, type := ty, pos := pos, after := af, guard := gd }).run Try.prog W = .ok (.value (.int .i64 l.1)) W := by
  obtain ⟨p, cap, hx, _, _, _⟩ := h
  have hf : (Instr.field 24 (.agg #[.int .i64 l.1, .slice p l.2.length cap]) 0).run Try.prog W = .ok (.int .i64 l.1) W := by kernel_rfl
  go_simp
theorem run_buildI {ev : Operand → Value} {W : World} {dst : Option Nat} {ty : TypeId} {pos : String} {af : Array Edge} {gd : Option (Nat × Bool)} {c : Int} {x : Operand} (h : ev x = .int .i64 c) :
    (execOp ev { dst := dst, op := .build 24 #[(0, x)], type := ty, pos := pos, after := af, guard := gd }).run Try.prog W = .ok (.value (.agg #[.int .i64 c, .slice none 0 0])) W := by
  go_simp
/-- A label's box that is written again and again; its rows lie at B or behind. -/
def MBox (B : Nat) (l : ML) (W : World) (b : Nat) : Prop := ∃ s, W.heap[b]? = some (.cells #[.int .i64 l.1, s] 24) ∧ Rw B W s l.2
theorem MBox.lt {B : Nat} {l : ML} {W : World} {b : Nat} (h : MBox B l W b) : b < W.heap.size := by
  obtain ⟨s, h1, _⟩ := h
  exact (Array.getElem?_eq_some_iff.1 h1).1
theorem MBox.rbox {B : Nat} {l : ML} {W : World} {b : Nat} (h : MBox B l W b) : RBox B l W b := by
  obtain ⟨s, h1, h2⟩ := id h
  exact ⟨s, h.lt, by simp [World.cell?, h1], by simp [World.cell?, h1], h2⟩
theorem MBox.below {B : Nat} {l : ML} {W W' : World} {b : Nat} (h : MBox B l W b) (hb : Below W.heap.size W W') : MBox B l W' b := by
  obtain ⟨s, h1, h2⟩ := id h
  exact ⟨s, (hb.block b h.lt).trans h1, h2.below hb⟩
theorem MBox.fz {B : Nat} {l : ML} {W : World} {b : Nat} (h : MBox B l W b) : ∀ o, W.frozen? ⟨b, o, none⟩ = false := fun o => by
  obtain ⟨s, h1, h2⟩ := id h
  simp [World.frozen?, h1]
theorem heap_two {W : World} {b : Nat} {x y x' y' : Value} (h : W.heap[b]? = some (.cells #[x, y] 24)) : ((W.setCell ⟨b, 0, none⟩ x').setCell ⟨b, 1, none⟩ y').heap[b]? = some (.cells #[x', y'] 24) := by
  simp [World.setCell, Array.getElem?_modify, h]
theorem heap_twoN {W : World} {b j : Nat} {x' y' : Value} (h : j ≠ b) : ((W.setCell ⟨b, 0, none⟩ x').setCell ⟨b, 1, none⟩ y').heap[j]? = W.heap[j]? := by
  rw [Below.heap_setCell _ _ _ _ h, Below.heap_setCell _ _ _ _ h]
theorem MBox.put {B : Nat} {l l' : ML} {W : World} {b : Nat} {s' : Value} (h : MBox B l W b) (hb : b < B) (hR : Rw B W s' l'.2) : MBox B l' ((W.setCell ⟨b, 0, none⟩ (.int .i64 l'.1)).setCell ⟨b, 1, none⟩ s') b := by
  obtain ⟨s, h1, _⟩ := h
  exact ⟨s', heap_two h1, (hR.set (by simpa using hb) _).set (by simpa using hb) _⟩
theorem MBox.other {B : Nat} {l : ML} {W : World} {b b' : Nat} {x y : Value} (h : MBox B l W b') (hb : b < B) (hne : b' ≠ b) : MBox B l ((W.setCell ⟨b, 0, none⟩ x).setCell ⟨b, 1, none⟩ y) b' := by
  obtain ⟨s, h1, h2⟩ := h
  exact ⟨s, (heap_twoN hne).trans h1, (h2.set (by simpa using hb) _).set (by simpa using hb) _⟩
set_option maxRecDepth 100000 in
set_option maxHeartbeats 8000000 in
theorem rFloor_c {t g : ML} {vt vg : Value} {w : World} (ht : LV t vt w) (hg : LV g vg w) :
    Calls Try.prog 22 #[vt, vg] w fun e w' => ∃ x, e = .returned (.tuple #[x, .int .i64 (rfloE t g)]) ∧ Below w.heap.size w w' ∧ RV w.heap.size (rfloM t g) x w' := by
  obtain ⟨pt, ct, rfl, ht1, ht2, ht3⟩ := id ht
  obtain ⟨pg, cg, rfl, hg1, hg2, hg3⟩ := id hg
  obtain ⟨W0, hW0⟩ : ∃ W0, W0 = ((w.alloc (.cells #[.int .i64 t.1, .slice pt t.2.length ct] 24)).alloc (.cells #[.int .i64 g.1, .slice pg g.2.length cg] 24)).alloc (.cells #[.int .i64 0, .slice none 0 0] 24) := ⟨_, rfl⟩
  have hA : Below w.heap.size w W0 := by rw [hW0]; go_grown
  have hs0 : W0.heap.size = w.heap.size + 1 + 1 + 1 := by rw [hW0]; simp
  have hbt : LBox t W0 w.heap.size 0 := ⟨pt, ct, by rw [hW0]; simp <;> omega, by rw [hW0]; simp [go_sem], by rw [hW0]; simp [go_sem], ht1.below hA, ht2, ht3⟩
  have hbg : LBox g W0 (w.heap.size + 1) 0 := ⟨pg, cg, by rw [hW0]; simp <;> omega, by rw [hW0]; simp [go_sem], by rw [hW0]; simp [go_sem], hg1.below hA, hg2, hg3⟩
  have hz4 : ZBox W0 (w.heap.size + 1 + 1) := ⟨by rw [hW0]; simp, by rw [hW0]; simp [go_sem], by rw [hW0]; simp [go_sem], fun o => by rw [hW0]; simp [go_sem]⟩
  have hlen : (nmM [t, g]).length ≤ 100 := by
    have h1 := named_len [labM t, labM g] 2
    have h2 : namedS ([labM t, labM g].take 2) = nmM [t, g] := rfl
    rw [h2] at h1
    have h3 : total ([labM t, labM g].take 2) = t.2.length + (g.2.length + 0) := rfl
    omega
  clear ht1 hg1
  go_enter Try.func22, Try.ntmps22
  go_upto_region 1 with fail
  rw [← hW0]
  clear hW0
  refine wp_region_mono 9 (fun kq v W => match kq with | 10 => LV t v W | 11 => LV (upM t) v W | 12 => v = .int .i64 (upM t).1 | 13 => LV g v W | 14 => LV (upM g) v W | 15 => v = .int .i64 (upM g).1 | 16 => v = .int .i64 (max (upM t).1 (upM g).1) | 17 => v = .agg #[.int .i64 (max (upM t).1 (upM g).1), .slice none 0 0] | 6 => (NBox W0) v W | _ => True) (by kernel_rfl) (by kernel_rfl) (by kernel_rfl) (by kernel_rfl) (by simp) (by kernel_rfl) ?_ ?_ ?_
  · intro kq v W W' h hb
    revert h
    try dsimp only
    split
    · intro h; exact LV.below h hb
    · intro h; exact LV.below h hb
    · intro h; exact h
    · intro h; exact LV.below h hb
    · intro h; exact LV.below h hb
    · intro h; exact h
    · intro h; exact h
    · intro h; exact h
    · intro h; exact NBox.below h hb
    · intro h; trivial
  · intro a' W hB hs hk i o d ho hd hG
    match i, ho with
    | 0, ho =>
      obtain rfl : _ = o := Option.some.inj ho
      obtain rfl : 10 = d := Option.some.inj hd
      obtain ⟨v, hr, hv⟩ := run_loadL (ev := a'.eval) (W := W) (hk 2 (by kernel_rfl)) (hbt.below hB)
      exact .inr ⟨rfl, .inl ⟨v, W, hr, Below.refl _ _, hv⟩⟩
    | 1, ho =>
      obtain rfl : _ = o := Option.some.inj ho
      obtain rfl : 11 = d := Option.some.inj hd
      have g10 : LV t (a'.eval (.tmp 10)) W := hG ⟨0, .data⟩ (by simp) rfl 10 rfl
      exact .inr ⟨rfl, .inr ⟨_, _, run_call rfl map_1 ent_gatehouseref01_Up, rUp_c g10⟩⟩
    | 2, ho =>
      obtain rfl : _ = o := Option.some.inj ho
      obtain rfl : 12 = d := Option.some.inj hd
      have g11 : LV (upM t) (a'.eval (.tmp 11)) W := hG ⟨1, .data⟩ (by simp) rfl 11 rfl
      exact .inr ⟨rfl, .inl ⟨_, W, run_field0 g11, Below.refl _ _, rfl⟩⟩
    | 3, ho =>
      obtain rfl : _ = o := Option.some.inj ho
      obtain rfl : 13 = d := Option.some.inj hd
      obtain ⟨v, hr, hv⟩ := run_loadL (ev := a'.eval) (W := W) (hk 3 (by kernel_rfl)) (hbg.below hB)
      exact .inr ⟨rfl, .inl ⟨v, W, hr, Below.refl _ _, hv⟩⟩
    | 4, ho =>
      obtain rfl : _ = o := Option.some.inj ho
      obtain rfl : 14 = d := Option.some.inj hd
      have g13 : LV g (a'.eval (.tmp 13)) W := hG ⟨3, .data⟩ (by simp) rfl 13 rfl
      exact .inr ⟨rfl, .inr ⟨_, _, run_call rfl map_1 ent_gatehouseref01_Up, rUp_c g13⟩⟩
    | 5, ho =>
      obtain rfl : _ = o := Option.some.inj ho
      obtain rfl : 15 = d := Option.some.inj hd
      have g14 : LV (upM g) (a'.eval (.tmp 14)) W := hG ⟨4, .data⟩ (by simp) rfl 14 rfl
      exact .inr ⟨rfl, .inl ⟨_, W, run_field0 g14, Below.refl _ _, rfl⟩⟩
    | 6, ho =>
      obtain rfl : _ = o := Option.some.inj ho
      obtain rfl : 16 = d := Option.some.inj hd
      have g12 : (a'.eval (.tmp 12)) = .int .i64 (upM t).1 := hG ⟨2, .data⟩ (by simp) rfl 12 rfl
      have g15 : (a'.eval (.tmp 15)) = .int .i64 (upM g).1 := hG ⟨5, .data⟩ (by simp) rfl 15 rfl
      exact .inr ⟨rfl, .inl ⟨_, W, run_max g12 g15, Below.refl _ _, rfl⟩⟩
    | 7, ho =>
      obtain rfl : _ = o := Option.some.inj ho
      obtain rfl : 17 = d := Option.some.inj hd
      have g16 : (a'.eval (.tmp 16)) = .int .i64 (max (upM t).1 (upM g).1) := hG ⟨6, .data⟩ (by simp) rfl 16 rfl
      exact .inr ⟨rfl, .inl ⟨_, W, run_buildI g16, Below.refl _ _, rfl⟩⟩
    | 8, ho =>
      obtain rfl : _ = o := Option.some.inj ho
      obtain rfl : 6 = d := Option.some.inj hd
      exact .inr ⟨rfl, .inl ⟨.pointer (some ⟨W.heap.size, 0, none⟩), W.alloc (.cells #[.int .i64 0, .slice none 0 0] 24), by go_simp, by go_grown, W.heap.size, rfl, hB.size, World.alloc_heap_new W _⟩⟩
    | j + 9, ho => simp at ho
  · intro a' W hB hs hdf hk hG
    obtain ⟨tm, df⟩ := a'
    obtain rfl : df = [] := hdf
    have e0 : tm.getD 0 undef = .agg #[.int .i64 t.fst, .slice pt t.snd.length ct] := hk 0 (by kernel_rfl)
    have e1 : tm.getD 1 undef = .agg #[.int .i64 g.fst, .slice pg g.snd.length cg] := hk 1 (by kernel_rfl)
    have e2 : tm.getD 2 undef = .pointer (some ⟨w.heap.size, 0, none⟩) := hk 2 (by kernel_rfl)
    have e3 : tm.getD 3 undef = .pointer (some ⟨w.heap.size + 1, 0, none⟩) := hk 3 (by kernel_rfl)
    have e4 : tm.getD 4 undef = .pointer (some ⟨w.heap.size + 1 + 1, 0, none⟩) := hk 4 (by kernel_rfl)
    have e5 : tm.getD 5 undef = .int .i64 0 := hk 5 (by kernel_rfl)
    have e7 : tm.getD 7 undef = undef := hk 7 (by kernel_rfl)
    have e8 : tm.getD 8 undef = undef := hk 8 (by kernel_rfl)
    have e9 : tm.getD 9 undef = undef := hk 9 (by kernel_rfl)
    have e18 : tm.getD 18 undef = undef := hk 18 (by kernel_rfl)
    have e19 : tm.getD 19 undef = undef := hk 19 (by kernel_rfl)
    have e20 : tm.getD 20 undef = undef := hk 20 (by kernel_rfl)
    have e21 : tm.getD 21 undef = undef := hk 21 (by kernel_rfl)
    have e22 : tm.getD 22 undef = undef := hk 22 (by kernel_rfl)
    have e23 : tm.getD 23 undef = undef := hk 23 (by kernel_rfl)
    have e24 : tm.getD 24 undef = undef := hk 24 (by kernel_rfl)
    have e25 : tm.getD 25 undef = undef := hk 25 (by kernel_rfl)
    have e26 : tm.getD 26 undef = undef := hk 26 (by kernel_rfl)
    have e27 : tm.getD 27 undef = undef := hk 27 (by kernel_rfl)
    have e28 : tm.getD 28 undef = undef := hk 28 (by kernel_rfl)
    have e29 : tm.getD 29 undef = undef := hk 29 (by kernel_rfl)
    have e30 : tm.getD 30 undef = undef := hk 30 (by kernel_rfl)
    have e31 : tm.getD 31 undef = undef := hk 31 (by kernel_rfl)
    have e32 : tm.getD 32 undef = undef := hk 32 (by kernel_rfl)
    have e33 : tm.getD 33 undef = undef := hk 33 (by kernel_rfl)
    have e34 : tm.getD 34 undef = undef := hk 34 (by kernel_rfl)
    have e35 : tm.getD 35 undef = undef := hk 35 (by kernel_rfl)
    have e36 : tm.getD 36 undef = undef := hk 36 (by kernel_rfl)
    have e37 : tm.getD 37 undef = undef := hk 37 (by kernel_rfl)
    have e38 : tm.getD 38 undef = undef := hk 38 (by kernel_rfl)
    have e39 : tm.getD 39 undef = undef := hk 39 (by kernel_rfl)
    have e40 : tm.getD 40 undef = undef := hk 40 (by kernel_rfl)
    have e41 : tm.getD 41 undef = undef := hk 41 (by kernel_rfl)
    have e42 : tm.getD 42 undef = undef := hk 42 (by kernel_rfl)
    have e43 : tm.getD 43 undef = undef := hk 43 (by kernel_rfl)
    have e44 : tm.getD 44 undef = undef := hk 44 (by kernel_rfl)
    have e45 : tm.getD 45 undef = undef := hk 45 (by kernel_rfl)
    have e46 : tm.getD 46 undef = undef := hk 46 (by kernel_rfl)
    have e47 : tm.getD 47 undef = undef := hk 47 (by kernel_rfl)
    have e48 : tm.getD 48 undef = undef := hk 48 (by kernel_rfl)
    have e49 : tm.getD 49 undef = undef := hk 49 (by kernel_rfl)
    have e50 : tm.getD 50 undef = undef := hk 50 (by kernel_rfl)
    have e51 : tm.getD 51 undef = undef := hk 51 (by kernel_rfl)
    have e52 : tm.getD 52 undef = undef := hk 52 (by kernel_rfl)
    have e53 : tm.getD 53 undef = undef := hk 53 (by kernel_rfl)
    have e54 : tm.getD 54 undef = undef := hk 54 (by kernel_rfl)
    have e55 : tm.getD 55 undef = undef := hk 55 (by kernel_rfl)
    have e56 : tm.getD 56 undef = undef := hk 56 (by kernel_rfl)
    have g10 : LV t (tm.getD 10 undef) W := hG 0 10 (by decide) rfl
    have g11 : LV (upM t) (tm.getD 11 undef) W := hG 1 11 (by decide) rfl
    have g12 : (tm.getD 12 undef) = .int .i64 (upM t).1 := hG 2 12 (by decide) rfl
    have g13 : LV g (tm.getD 13 undef) W := hG 3 13 (by decide) rfl
    have g14 : LV (upM g) (tm.getD 14 undef) W := hG 4 14 (by decide) rfl
    have g15 : (tm.getD 15 undef) = .int .i64 (upM g).1 := hG 5 15 (by decide) rfl
    have g16 : (tm.getD 16 undef) = .int .i64 (max (upM t).1 (upM g).1) := hG 6 16 (by decide) rfl
    have g17 : (tm.getD 17 undef) = .agg #[.int .i64 (max (upM t).1 (upM g).1), .slice none 0 0] := hG 7 17 (by decide) rfl
    have g6 : (NBox W0) (tm.getD 6 undef) W := hG 8 6 (by decide) rfl
    have htm := arr_of tm ((.agg #[.int .i64 t.fst, .slice pt t.snd.length ct] : Value) :: (.agg #[.int .i64 g.fst, .slice pg g.snd.length cg] : Value) :: (.pointer (some ⟨w.heap.size, 0, none⟩) : Value) :: (.pointer (some ⟨w.heap.size + 1, 0, none⟩) : Value) :: (.pointer (some ⟨w.heap.size + 1 + 1, 0, none⟩) : Value) :: (.int .i64 0 : Value) :: (tm.getD 6 undef : Value) :: (undef : Value) :: (undef : Value) :: (undef : Value) :: (tm.getD 10 undef : Value) :: (tm.getD 11 undef : Value) :: (tm.getD 12 undef : Value) :: (tm.getD 13 undef : Value) :: (tm.getD 14 undef : Value) :: (tm.getD 15 undef : Value) :: (tm.getD 16 undef : Value) :: (tm.getD 17 undef : Value) :: (undef : Value) :: (undef : Value) :: (undef : Value) :: (undef : Value) :: (undef : Value) :: (undef : Value) :: (undef : Value) :: (undef : Value) :: (undef : Value) :: (undef : Value) :: (undef : Value) :: (undef : Value) :: (undef : Value) :: (undef : Value) :: (undef : Value) :: (undef : Value) :: (undef : Value) :: (undef : Value) :: (undef : Value) :: (undef : Value) :: (undef : Value) :: (undef : Value) :: (undef : Value) :: (undef : Value) :: (undef : Value) :: (undef : Value) :: (undef : Value) :: (undef : Value) :: (undef : Value) :: (undef : Value) :: (undef : Value) :: (undef : Value) :: (undef : Value) :: (undef : Value) :: (undef : Value) :: (undef : Value) :: (undef : Value) :: (undef : Value) :: (undef : Value) :: []) hs (by show (tm.getD 0 undef :: tm.getD 1 undef :: tm.getD 2 undef :: tm.getD 3 undef :: tm.getD 4 undef :: tm.getD 5 undef :: tm.getD 6 undef :: tm.getD 7 undef :: tm.getD 8 undef :: tm.getD 9 undef :: tm.getD 10 undef :: tm.getD 11 undef :: tm.getD 12 undef :: tm.getD 13 undef :: tm.getD 14 undef :: tm.getD 15 undef :: tm.getD 16 undef :: tm.getD 17 undef :: tm.getD 18 undef :: tm.getD 19 undef :: tm.getD 20 undef :: tm.getD 21 undef :: tm.getD 22 undef :: tm.getD 23 undef :: tm.getD 24 undef :: tm.getD 25 undef :: tm.getD 26 undef :: tm.getD 27 undef :: tm.getD 28 undef :: tm.getD 29 undef :: tm.getD 30 undef :: tm.getD 31 undef :: tm.getD 32 undef :: tm.getD 33 undef :: tm.getD 34 undef :: tm.getD 35 undef :: tm.getD 36 undef :: tm.getD 37 undef :: tm.getD 38 undef :: tm.getD 39 undef :: tm.getD 40 undef :: tm.getD 41 undef :: tm.getD 42 undef :: tm.getD 43 undef :: tm.getD 44 undef :: tm.getD 45 undef :: tm.getD 46 undef :: tm.getD 47 undef :: tm.getD 48 undef :: tm.getD 49 undef :: tm.getD 50 undef :: tm.getD 51 undef :: tm.getD 52 undef :: tm.getD 53 undef :: tm.getD 54 undef :: tm.getD 55 undef :: tm.getD 56 undef :: []) = _; rw [e0, e1, e2, e3, e4, e5, e7, e8, e9, e18, e19, e20, e21, e22, e23, e24, e25, e26, e27, e28, e29, e30, e31, e32, e33, e34, e35, e36, e37, e38, e39, e40, e41, e42, e43, e44, e45, e46, e47, e48, e49, e50, e51, e52, e53, e54, e55, e56]; try rfl)
    clear hs hk hG e0 e1 e2 e3 e4 e5 e7 e8 e9 e18 e19 e20 e21 e22 e23 e24 e25 e26 e27 e28 e29 e30 e31 e32 e33 e34 e35 e36 e37 e38 e39 e40 e41 e42 e43 e44 e45 e46 e47 e48 e49 e50 e51 e52 e53 e54 e55 e56
    generalize tm.getD 10 undef = t10 at htm g10
    generalize tm.getD 11 undef = t11 at htm g11
    generalize tm.getD 12 undef = t12 at htm g12
    generalize tm.getD 13 undef = t13 at htm g13
    generalize tm.getD 14 undef = t14 at htm g14
    generalize tm.getD 15 undef = t15 at htm g15
    generalize tm.getD 16 undef = t16 at htm g16
    generalize tm.getD 17 undef = t17 at htm g17
    generalize tm.getD 6 undef = t6 at htm g6
    subst htm
    subst g12
    subst g15
    subst g16
    subst g17
    simp only [List.drop_succ_cons, List.drop_zero]
    obtain ⟨b6, rfl, hb6, hb6c⟩ := g6
    have hd0 : max (upM t).1 (upM g).1 = fU t g 0 := rfl
    simp only [hd0]
    have hM6 : MBox W.heap.size (0, []) W b6 := ⟨_, hb6c, .inl ⟨rfl, rfl⟩⟩
    have h6l := hM6.lt
    have x60 : W.cell? ⟨b6, 0, none⟩ = some (.int .i64 0) := by simp [World.cell?, hb6c]
    have x61 : W.cell? ⟨b6, 1, none⟩ = some (.slice none 0 0) := by simp [World.cell?, hb6c]
    have x6f := hM6.fz
    clear hd0 g10 g11 g13 g14 hM6
    go_upto_region 2 with fail
    obtain ⟨W2, hW2⟩ : ∃ W2, W2 = (W.setCell ⟨b6, 0, none⟩ (.int .i64 (fU t g 0))).setCell ⟨b6, 1, none⟩ (.slice none 0 0) := ⟨_, rfl⟩
    have hB2 : Below W0.heap.size W0 W2 := by rw [hW2]; exact (hB.setCell (p := ⟨b6, 0, none⟩) hb6 _).setCell (p := ⟨b6, 1, none⟩) hb6 _
    have h6c : W2.heap[b6]? = some (.cells #[.int .i64 (fU t g 0), .slice none 0 0] 24) := by rw [hW2]; exact heap_two hb6c
    have h6l2 : b6 < W2.heap.size := (Array.getElem?_eq_some_iff.1 h6c).1
    have hct := hbt.below hB2
    have hcg := hbg.below hB2
    rw [← hW2]
    clear hW2 hB x60 x61 x6f hb6c h6l
    refine wp_region_monoF 5 (fun kq v W => match kq with | 18 => LV t v W | 19 => LV g v W | 20 => v = .int .i64 (flZ t g 0) | 21 => v = .agg #[.int .i64 (flZ t g 0), .slice none 0 0] | 7 => (NBox W2) v W | _ => True) (by kernel_rfl) (by kernel_rfl) (by simp) ?_ ?_ ?_
    · intro kq v W W' h hb
      revert h
      try dsimp only
      split
      · intro h; exact LV.below h hb
      · intro h; exact LV.below h hb
      · intro h; exact h
      · intro h; exact h
      · intro h; exact NBox.below h hb
      · intro h; trivial
    · intro a' W hB hs hk i o d ho hd hG
      match i, ho with
      | 0, ho =>
        obtain rfl : _ = o := Option.some.inj ho
        obtain rfl : 18 = d := Option.some.inj hd
        obtain ⟨v, hr, hv⟩ := run_loadL (ev := a'.eval) (W := W) (hk 2 (by kernel_rfl)) (hct.below hB)
        exact .inr ⟨rfl, .inl ⟨v, W, hr, Below.refl _ _, hv⟩⟩
      | 1, ho =>
        obtain rfl : _ = o := Option.some.inj ho
        obtain rfl : 19 = d := Option.some.inj hd
        obtain ⟨v, hr, hv⟩ := run_loadL (ev := a'.eval) (W := W) (hk 3 (by kernel_rfl)) (hcg.below hB)
        exact .inr ⟨rfl, .inl ⟨v, W, hr, Below.refl _ _, hv⟩⟩
      | 2, ho =>
        obtain rfl : _ = o := Option.some.inj ho
        obtain rfl : 20 = d := Option.some.inj hd
        have g18 : LV t (a'.eval (.tmp 18)) W := hG ⟨0, .data⟩ (by simp) rfl 18 rfl
        have g19 : LV g (a'.eval (.tmp 19)) W := hG ⟨1, .data⟩ (by simp) rfl 19 rfl
        exact .inr ⟨rfl, .inr ⟨_, _, run_call rfl map_3 ent_gatehouseref07_floor, rfloor_c' g18 g19 rfl⟩⟩
      | 3, ho =>
        obtain rfl : _ = o := Option.some.inj ho
        obtain rfl : 21 = d := Option.some.inj hd
        have g20 : (a'.eval (.tmp 20)) = .int .i64 (flZ t g 0) := hG ⟨2, .data⟩ (by simp) rfl 20 rfl
        exact .inr ⟨rfl, .inl ⟨_, W, run_buildI g20, Below.refl _ _, rfl⟩⟩
      | 4, ho =>
        obtain rfl : _ = o := Option.some.inj ho
        obtain rfl : 7 = d := Option.some.inj hd
        exact .inr ⟨rfl, .inl ⟨.pointer (some ⟨W.heap.size, 0, none⟩), W.alloc (.cells #[.int .i64 0, .slice none 0 0] 24), by go_simp, by go_grown, W.heap.size, rfl, hB.size, World.alloc_heap_new W _⟩⟩
      | j + 5, ho => simp at ho
    · intro a' W hB hs hdf hk hG
      obtain ⟨tm, df⟩ := a'
      obtain rfl : df = [] := hdf
      have e0 : tm.getD 0 undef = .agg #[.int .i64 t.fst, .slice pt t.snd.length ct] := hk 0 (by kernel_rfl)
      have e1 : tm.getD 1 undef = .agg #[.int .i64 g.fst, .slice pg g.snd.length cg] := hk 1 (by kernel_rfl)
      have e2 : tm.getD 2 undef = .pointer (some ⟨w.heap.size, 0, none⟩) := hk 2 (by kernel_rfl)
      have e3 : tm.getD 3 undef = .pointer (some ⟨w.heap.size + 1, 0, none⟩) := hk 3 (by kernel_rfl)
      have e4 : tm.getD 4 undef = .pointer (some ⟨w.heap.size + 1 + 1, 0, none⟩) := hk 4 (by kernel_rfl)
      have e5 : tm.getD 5 undef = .int .i64 0 := hk 5 (by kernel_rfl)
      have e6 : tm.getD 6 undef = .pointer (some ⟨b6, 0, none⟩) := hk 6 (by kernel_rfl)
      have e8 : tm.getD 8 undef = undef := hk 8 (by kernel_rfl)
      have e9 : tm.getD 9 undef = undef := hk 9 (by kernel_rfl)
      have e10 : tm.getD 10 undef = t10 := hk 10 (by kernel_rfl)
      have e11 : tm.getD 11 undef = t11 := hk 11 (by kernel_rfl)
      have e12 : tm.getD 12 undef = .int .i64 (upM t).fst := hk 12 (by kernel_rfl)
      have e13 : tm.getD 13 undef = t13 := hk 13 (by kernel_rfl)
      have e14 : tm.getD 14 undef = t14 := hk 14 (by kernel_rfl)
      have e15 : tm.getD 15 undef = .int .i64 (upM g).fst := hk 15 (by kernel_rfl)
      have e16 : tm.getD 16 undef = .int .i64 (fU t g 0) := hk 16 (by kernel_rfl)
      have e17 : tm.getD 17 undef = .agg #[.int .i64 (fU t g 0), .slice none 0 0] := hk 17 (by kernel_rfl)
      have e22 : tm.getD 22 undef = undef := hk 22 (by kernel_rfl)
      have e23 : tm.getD 23 undef = undef := hk 23 (by kernel_rfl)
      have e24 : tm.getD 24 undef = undef := hk 24 (by kernel_rfl)
      have e25 : tm.getD 25 undef = undef := hk 25 (by kernel_rfl)
      have e26 : tm.getD 26 undef = undef := hk 26 (by kernel_rfl)
      have e27 : tm.getD 27 undef = undef := hk 27 (by kernel_rfl)
      have e28 : tm.getD 28 undef = undef := hk 28 (by kernel_rfl)
      have e29 : tm.getD 29 undef = undef := hk 29 (by kernel_rfl)
      have e30 : tm.getD 30 undef = undef := hk 30 (by kernel_rfl)
      have e31 : tm.getD 31 undef = undef := hk 31 (by kernel_rfl)
      have e32 : tm.getD 32 undef = undef := hk 32 (by kernel_rfl)
      have e33 : tm.getD 33 undef = undef := hk 33 (by kernel_rfl)
      have e34 : tm.getD 34 undef = undef := hk 34 (by kernel_rfl)
      have e35 : tm.getD 35 undef = undef := hk 35 (by kernel_rfl)
      have e36 : tm.getD 36 undef = undef := hk 36 (by kernel_rfl)
      have e37 : tm.getD 37 undef = undef := hk 37 (by kernel_rfl)
      have e38 : tm.getD 38 undef = undef := hk 38 (by kernel_rfl)
      have e39 : tm.getD 39 undef = undef := hk 39 (by kernel_rfl)
      have e40 : tm.getD 40 undef = undef := hk 40 (by kernel_rfl)
      have e41 : tm.getD 41 undef = undef := hk 41 (by kernel_rfl)
      have e42 : tm.getD 42 undef = undef := hk 42 (by kernel_rfl)
      have e43 : tm.getD 43 undef = undef := hk 43 (by kernel_rfl)
      have e44 : tm.getD 44 undef = undef := hk 44 (by kernel_rfl)
      have e45 : tm.getD 45 undef = undef := hk 45 (by kernel_rfl)
      have e46 : tm.getD 46 undef = undef := hk 46 (by kernel_rfl)
      have e47 : tm.getD 47 undef = undef := hk 47 (by kernel_rfl)
      have e48 : tm.getD 48 undef = undef := hk 48 (by kernel_rfl)
      have e49 : tm.getD 49 undef = undef := hk 49 (by kernel_rfl)
      have e50 : tm.getD 50 undef = undef := hk 50 (by kernel_rfl)
      have e51 : tm.getD 51 undef = undef := hk 51 (by kernel_rfl)
      have e52 : tm.getD 52 undef = undef := hk 52 (by kernel_rfl)
      have e53 : tm.getD 53 undef = undef := hk 53 (by kernel_rfl)
      have e54 : tm.getD 54 undef = undef := hk 54 (by kernel_rfl)
      have e55 : tm.getD 55 undef = undef := hk 55 (by kernel_rfl)
      have e56 : tm.getD 56 undef = undef := hk 56 (by kernel_rfl)
      have g18 : LV t (tm.getD 18 undef) W := hG 0 18 (by decide) rfl
      have g19 : LV g (tm.getD 19 undef) W := hG 1 19 (by decide) rfl
      have g20 : (tm.getD 20 undef) = .int .i64 (flZ t g 0) := hG 2 20 (by decide) rfl
      have g21 : (tm.getD 21 undef) = .agg #[.int .i64 (flZ t g 0), .slice none 0 0] := hG 3 21 (by decide) rfl
      have g7 : (NBox W2) (tm.getD 7 undef) W := hG 4 7 (by decide) rfl
      have htm := arr_of tm ((.agg #[.int .i64 t.fst, .slice pt t.snd.length ct] : Value) :: (.agg #[.int .i64 g.fst, .slice pg g.snd.length cg] : Value) :: (.pointer (some ⟨w.heap.size, 0, none⟩) : Value) :: (.pointer (some ⟨w.heap.size + 1, 0, none⟩) : Value) :: (.pointer (some ⟨w.heap.size + 1 + 1, 0, none⟩) : Value) :: (.int .i64 0 : Value) :: (.pointer (some ⟨b6, 0, none⟩) : Value) :: (tm.getD 7 undef : Value) :: (undef : Value) :: (undef : Value) :: (t10 : Value) :: (t11 : Value) :: (.int .i64 (upM t).fst : Value) :: (t13 : Value) :: (t14 : Value) :: (.int .i64 (upM g).fst : Value) :: (.int .i64 (fU t g 0) : Value) :: (.agg #[.int .i64 (fU t g 0), .slice none 0 0] : Value) :: (tm.getD 18 undef : Value) :: (tm.getD 19 undef : Value) :: (tm.getD 20 undef : Value) :: (tm.getD 21 undef : Value) :: (undef : Value) :: (undef : Value) :: (undef : Value) :: (undef : Value) :: (undef : Value) :: (undef : Value) :: (undef : Value) :: (undef : Value) :: (undef : Value) :: (undef : Value) :: (undef : Value) :: (undef : Value) :: (undef : Value) :: (undef : Value) :: (undef : Value) :: (undef : Value) :: (undef : Value) :: (undef : Value) :: (undef : Value) :: (undef : Value) :: (undef : Value) :: (undef : Value) :: (undef : Value) :: (undef : Value) :: (undef : Value) :: (undef : Value) :: (undef : Value) :: (undef : Value) :: (undef : Value) :: (undef : Value) :: (undef : Value) :: (undef : Value) :: (undef : Value) :: (undef : Value) :: (undef : Value) :: []) hs (by show (tm.getD 0 undef :: tm.getD 1 undef :: tm.getD 2 undef :: tm.getD 3 undef :: tm.getD 4 undef :: tm.getD 5 undef :: tm.getD 6 undef :: tm.getD 7 undef :: tm.getD 8 undef :: tm.getD 9 undef :: tm.getD 10 undef :: tm.getD 11 undef :: tm.getD 12 undef :: tm.getD 13 undef :: tm.getD 14 undef :: tm.getD 15 undef :: tm.getD 16 undef :: tm.getD 17 undef :: tm.getD 18 undef :: tm.getD 19 undef :: tm.getD 20 undef :: tm.getD 21 undef :: tm.getD 22 undef :: tm.getD 23 undef :: tm.getD 24 undef :: tm.getD 25 undef :: tm.getD 26 undef :: tm.getD 27 undef :: tm.getD 28 undef :: tm.getD 29 undef :: tm.getD 30 undef :: tm.getD 31 undef :: tm.getD 32 undef :: tm.getD 33 undef :: tm.getD 34 undef :: tm.getD 35 undef :: tm.getD 36 undef :: tm.getD 37 undef :: tm.getD 38 undef :: tm.getD 39 undef :: tm.getD 40 undef :: tm.getD 41 undef :: tm.getD 42 undef :: tm.getD 43 undef :: tm.getD 44 undef :: tm.getD 45 undef :: tm.getD 46 undef :: tm.getD 47 undef :: tm.getD 48 undef :: tm.getD 49 undef :: tm.getD 50 undef :: tm.getD 51 undef :: tm.getD 52 undef :: tm.getD 53 undef :: tm.getD 54 undef :: tm.getD 55 undef :: tm.getD 56 undef :: []) = _; rw [e0, e1, e2, e3, e4, e5, e6, e8, e9, e10, e11, e12, e13, e14, e15, e16, e17, e22, e23, e24, e25, e26, e27, e28, e29, e30, e31, e32, e33, e34, e35, e36, e37, e38, e39, e40, e41, e42, e43, e44, e45, e46, e47, e48, e49, e50, e51, e52, e53, e54, e55, e56]; try rfl)
      clear hs hk hG e0 e1 e2 e3 e4 e5 e6 e8 e9 e10 e11 e12 e13 e14 e15 e16 e17 e22 e23 e24 e25 e26 e27 e28 e29 e30 e31 e32 e33 e34 e35 e36 e37 e38 e39 e40 e41 e42 e43 e44 e45 e46 e47 e48 e49 e50 e51 e52 e53 e54 e55 e56
      generalize tm.getD 18 undef = t18 at htm g18
      generalize tm.getD 19 undef = t19 at htm g19
      generalize tm.getD 20 undef = t20 at htm g20
      generalize tm.getD 21 undef = t21 at htm g21
      generalize tm.getD 7 undef = t7 at htm g7
      subst htm
      subst g20
      subst g21
      simp only [List.drop_succ_cons, List.drop_zero]
      obtain ⟨b7, rfl, hb7, hb7c⟩ := g7
      have h7l : b7 < W.heap.size := (Array.getElem?_eq_some_iff.1 hb7c).1
      have x70 : W.cell? ⟨b7, 0, none⟩ = some (.int .i64 0) := by simp [World.cell?, hb7c]
      have x71 : W.cell? ⟨b7, 1, none⟩ = some (.slice none 0 0) := by simp [World.cell?, hb7c]
      have x7f : ∀ o, W.frozen? ⟨b7, o, none⟩ = false := fun o => by simp [World.frozen?, hb7c]
      have h67 : b6 ≠ b7 := by omega
      have hc6 := (hB.block b6 h6l2).trans h6c
      have hB3 : Below W0.heap.size W0 W := hB2.trans (hB.mono hB2.size)
      clear g18 g19 hB hct hcg h6c hB2
      go_upto_region 3 with fail
      obtain ⟨W4, hW4⟩ : ∃ W4, W4 = (W.setCell ⟨b7, 0, none⟩ (.int .i64 (flZ t g 0))).setCell ⟨b7, 1, none⟩ (.slice none 0 0) := ⟨_, rfl⟩
      have hb70 : W0.heap.size ≤ b7 := by omega
      have hB4 : Below W0.heap.size W0 W4 := by rw [hW4]; exact (hB3.setCell (p := ⟨b7, 0, none⟩) hb70 _).setCell (p := ⟨b7, 1, none⟩) hb70 _
      have hm6 : MBox W4.heap.size (fU t g 0, []) W4 b6 := ⟨.slice none 0 0, by rw [hW4, heap_twoN h67]; exact hc6, .inl ⟨rfl, rfl⟩⟩
      have hm7 : MBox W4.heap.size (flZ t g 0, []) W4 b7 := ⟨.slice none 0 0, by rw [hW4]; exact heap_two hb7c, .inl ⟨rfl, rfl⟩⟩
      have hct := hbt.below hB4
      have hcg := hbg.below hB4
      rw [← hW4]
      clear hW4 hB3 hc6 hb7c x70 x71 x7f h7l h6l2
      refine wp_region_monoF 6 (fun kq v W => match kq with | 22 => LV t v W | 23 => LV g v W | 24 => LsV [t, g] v W | 25 => (OwnI W4.heap.size (nmM [t, g])) v W | 26 => v = .int .i64 ((nmM [t, g]).length : Nat) | 27 => v = .int .i64 0 | _ => True) (by kernel_rfl) (by kernel_rfl) (by simp) ?_ ?_ ?_
      · intro kq v W W' h hb
        revert h
        try dsimp only
        split
        · intro h; exact LV.below h hb
        · intro h; exact LV.below h hb
        · intro h; exact LsV.below h hb
        · intro h; exact OwnI.below h hb
        · intro h; exact h
        · intro h; exact h
        · intro h; trivial
      · intro a' W hB hs hk i o d ho hd hG
        match i, ho with
        | 0, ho =>
          obtain rfl : _ = o := Option.some.inj ho
          obtain rfl : 22 = d := Option.some.inj hd
          obtain ⟨v, hr, hv⟩ := run_loadL (ev := a'.eval) (W := W) (hk 2 (by kernel_rfl)) (hct.below hB)
          exact .inr ⟨rfl, .inl ⟨v, W, hr, Below.refl _ _, hv⟩⟩
        | 1, ho =>
          obtain rfl : _ = o := Option.some.inj ho
          obtain rfl : 23 = d := Option.some.inj hd
          obtain ⟨v, hr, hv⟩ := run_loadL (ev := a'.eval) (W := W) (hk 3 (by kernel_rfl)) (hcg.below hB)
          exact .inr ⟨rfl, .inl ⟨v, W, hr, Below.refl _ _, hv⟩⟩
        | 2, ho =>
          obtain rfl : _ = o := Option.some.inj ho
          obtain rfl : 24 = d := Option.some.inj hd
          have g22 : LV t (a'.eval (.tmp 22)) W := hG ⟨0, .data⟩ (by simp) rfl 22 rfl
          have g23 : LV g (a'.eval (.tmp 23)) W := hG ⟨1, .data⟩ (by simp) rfl 23 rfl
          obtain ⟨v, W', hr, hb, hv⟩ := run_slice2 (ev := a'.eval) (W := W) rfl rfl g22 g23
          exact .inr ⟨rfl, .inl ⟨v, W', hr, hb, hv⟩⟩
        | 3, ho =>
          obtain rfl : _ = o := Option.some.inj ho
          obtain rfl : 25 = d := Option.some.inj hd
          have g24 : LsV [t, g] (a'.eval (.tmp 24)) W := hG ⟨2, .data⟩ (by simp) rfl 24 rfl
          exact .inr ⟨rfl, .inr ⟨_, _, run_call rfl map_1 ent_gatehouseref01_Named, rNamed_o g24 (by simp) hB.size⟩⟩
        | 4, ho =>
          obtain rfl : _ = o := Option.some.inj ho
          obtain rfl : 26 = d := Option.some.inj hd
          have g25 : (OwnI W4.heap.size (nmM [t, g])) (a'.eval (.tmp 25)) W := hG ⟨3, .data⟩ (by simp) rfl 25 rfl
          obtain ⟨gq_, cq_, hq_, hw_⟩ := g25
          exact .inr ⟨rfl, .inl ⟨_, W, run_len ⟨_, hw_⟩, Below.refl _ _, rfl⟩⟩
        | 5, ho =>
          obtain rfl : _ = o := Option.some.inj ho
          obtain rfl : 27 = d := Option.some.inj hd
          exact .inr ⟨rfl, .inl ⟨_, W, run_move rfl, Below.refl _ _, rfl⟩⟩
        | j + 6, ho => simp at ho
      · intro a' W hB hs hdf hk hG
        obtain ⟨tm, df⟩ := a'
        obtain rfl : df = [] := hdf
        have e0 : tm.getD 0 undef = .agg #[.int .i64 t.fst, .slice pt t.snd.length ct] := hk 0 (by kernel_rfl)
        have e1 : tm.getD 1 undef = .agg #[.int .i64 g.fst, .slice pg g.snd.length cg] := hk 1 (by kernel_rfl)
        have e2 : tm.getD 2 undef = .pointer (some ⟨w.heap.size, 0, none⟩) := hk 2 (by kernel_rfl)
        have e3 : tm.getD 3 undef = .pointer (some ⟨w.heap.size + 1, 0, none⟩) := hk 3 (by kernel_rfl)
        have e4 : tm.getD 4 undef = .pointer (some ⟨w.heap.size + 1 + 1, 0, none⟩) := hk 4 (by kernel_rfl)
        have e5 : tm.getD 5 undef = .int .i64 0 := hk 5 (by kernel_rfl)
        have e6 : tm.getD 6 undef = .pointer (some ⟨b6, 0, none⟩) := hk 6 (by kernel_rfl)
        have e7 : tm.getD 7 undef = .pointer (some ⟨b7, 0, none⟩) := hk 7 (by kernel_rfl)
        have e8 : tm.getD 8 undef = undef := hk 8 (by kernel_rfl)
        have e9 : tm.getD 9 undef = undef := hk 9 (by kernel_rfl)
        have e10 : tm.getD 10 undef = t10 := hk 10 (by kernel_rfl)
        have e11 : tm.getD 11 undef = t11 := hk 11 (by kernel_rfl)
        have e12 : tm.getD 12 undef = .int .i64 (upM t).fst := hk 12 (by kernel_rfl)
        have e13 : tm.getD 13 undef = t13 := hk 13 (by kernel_rfl)
        have e14 : tm.getD 14 undef = t14 := hk 14 (by kernel_rfl)
        have e15 : tm.getD 15 undef = .int .i64 (upM g).fst := hk 15 (by kernel_rfl)
        have e16 : tm.getD 16 undef = .int .i64 (fU t g 0) := hk 16 (by kernel_rfl)
        have e17 : tm.getD 17 undef = .agg #[.int .i64 (fU t g 0), .slice none 0 0] := hk 17 (by kernel_rfl)
        have e18 : tm.getD 18 undef = t18 := hk 18 (by kernel_rfl)
        have e19 : tm.getD 19 undef = t19 := hk 19 (by kernel_rfl)
        have e20 : tm.getD 20 undef = .int .i64 (flZ t g 0) := hk 20 (by kernel_rfl)
        have e21 : tm.getD 21 undef = .agg #[.int .i64 (flZ t g 0), .slice none 0 0] := hk 21 (by kernel_rfl)
        have e28 : tm.getD 28 undef = undef := hk 28 (by kernel_rfl)
        have e29 : tm.getD 29 undef = undef := hk 29 (by kernel_rfl)
        have e30 : tm.getD 30 undef = undef := hk 30 (by kernel_rfl)
        have e31 : tm.getD 31 undef = undef := hk 31 (by kernel_rfl)
        have e32 : tm.getD 32 undef = undef := hk 32 (by kernel_rfl)
        have e33 : tm.getD 33 undef = undef := hk 33 (by kernel_rfl)
        have e34 : tm.getD 34 undef = undef := hk 34 (by kernel_rfl)
        have e35 : tm.getD 35 undef = undef := hk 35 (by kernel_rfl)
        have e36 : tm.getD 36 undef = undef := hk 36 (by kernel_rfl)
        have e37 : tm.getD 37 undef = undef := hk 37 (by kernel_rfl)
        have e38 : tm.getD 38 undef = undef := hk 38 (by kernel_rfl)
        have e39 : tm.getD 39 undef = undef := hk 39 (by kernel_rfl)
        have e40 : tm.getD 40 undef = undef := hk 40 (by kernel_rfl)
        have e41 : tm.getD 41 undef = undef := hk 41 (by kernel_rfl)
        have e42 : tm.getD 42 undef = undef := hk 42 (by kernel_rfl)
        have e43 : tm.getD 43 undef = undef := hk 43 (by kernel_rfl)
        have e44 : tm.getD 44 undef = undef := hk 44 (by kernel_rfl)
        have e45 : tm.getD 45 undef = undef := hk 45 (by kernel_rfl)
        have e46 : tm.getD 46 undef = undef := hk 46 (by kernel_rfl)
        have e47 : tm.getD 47 undef = undef := hk 47 (by kernel_rfl)
        have e48 : tm.getD 48 undef = undef := hk 48 (by kernel_rfl)
        have e49 : tm.getD 49 undef = undef := hk 49 (by kernel_rfl)
        have e50 : tm.getD 50 undef = undef := hk 50 (by kernel_rfl)
        have e51 : tm.getD 51 undef = undef := hk 51 (by kernel_rfl)
        have e52 : tm.getD 52 undef = undef := hk 52 (by kernel_rfl)
        have e53 : tm.getD 53 undef = undef := hk 53 (by kernel_rfl)
        have e54 : tm.getD 54 undef = undef := hk 54 (by kernel_rfl)
        have e55 : tm.getD 55 undef = undef := hk 55 (by kernel_rfl)
        have e56 : tm.getD 56 undef = undef := hk 56 (by kernel_rfl)
        have g22 : LV t (tm.getD 22 undef) W := hG 0 22 (by decide) rfl
        have g23 : LV g (tm.getD 23 undef) W := hG 1 23 (by decide) rfl
        have g24 : LsV [t, g] (tm.getD 24 undef) W := hG 2 24 (by decide) rfl
        have g25 : (OwnI W4.heap.size (nmM [t, g])) (tm.getD 25 undef) W := hG 3 25 (by decide) rfl
        have g26 : (tm.getD 26 undef) = .int .i64 ((nmM [t, g]).length : Nat) := hG 4 26 (by decide) rfl
        have g27 : (tm.getD 27 undef) = .int .i64 0 := hG 5 27 (by decide) rfl
        have htm := arr_of tm ((.agg #[.int .i64 t.fst, .slice pt t.snd.length ct] : Value) :: (.agg #[.int .i64 g.fst, .slice pg g.snd.length cg] : Value) :: (.pointer (some ⟨w.heap.size, 0, none⟩) : Value) :: (.pointer (some ⟨w.heap.size + 1, 0, none⟩) : Value) :: (.pointer (some ⟨w.heap.size + 1 + 1, 0, none⟩) : Value) :: (.int .i64 0 : Value) :: (.pointer (some ⟨b6, 0, none⟩) : Value) :: (.pointer (some ⟨b7, 0, none⟩) : Value) :: (undef : Value) :: (undef : Value) :: (t10 : Value) :: (t11 : Value) :: (.int .i64 (upM t).fst : Value) :: (t13 : Value) :: (t14 : Value) :: (.int .i64 (upM g).fst : Value) :: (.int .i64 (fU t g 0) : Value) :: (.agg #[.int .i64 (fU t g 0), .slice none 0 0] : Value) :: (t18 : Value) :: (t19 : Value) :: (.int .i64 (flZ t g 0) : Value) :: (.agg #[.int .i64 (flZ t g 0), .slice none 0 0] : Value) :: (tm.getD 22 undef : Value) :: (tm.getD 23 undef : Value) :: (tm.getD 24 undef : Value) :: (tm.getD 25 undef : Value) :: (tm.getD 26 undef : Value) :: (tm.getD 27 undef : Value) :: (undef : Value) :: (undef : Value) :: (undef : Value) :: (undef : Value) :: (undef : Value) :: (undef : Value) :: (undef : Value) :: (undef : Value) :: (undef : Value) :: (undef : Value) :: (undef : Value) :: (undef : Value) :: (undef : Value) :: (undef : Value) :: (undef : Value) :: (undef : Value) :: (undef : Value) :: (undef : Value) :: (undef : Value) :: (undef : Value) :: (undef : Value) :: (undef : Value) :: (undef : Value) :: (undef : Value) :: (undef : Value) :: (undef : Value) :: (undef : Value) :: (undef : Value) :: (undef : Value) :: []) hs (by show (tm.getD 0 undef :: tm.getD 1 undef :: tm.getD 2 undef :: tm.getD 3 undef :: tm.getD 4 undef :: tm.getD 5 undef :: tm.getD 6 undef :: tm.getD 7 undef :: tm.getD 8 undef :: tm.getD 9 undef :: tm.getD 10 undef :: tm.getD 11 undef :: tm.getD 12 undef :: tm.getD 13 undef :: tm.getD 14 undef :: tm.getD 15 undef :: tm.getD 16 undef :: tm.getD 17 undef :: tm.getD 18 undef :: tm.getD 19 undef :: tm.getD 20 undef :: tm.getD 21 undef :: tm.getD 22 undef :: tm.getD 23 undef :: tm.getD 24 undef :: tm.getD 25 undef :: tm.getD 26 undef :: tm.getD 27 undef :: tm.getD 28 undef :: tm.getD 29 undef :: tm.getD 30 undef :: tm.getD 31 undef :: tm.getD 32 undef :: tm.getD 33 undef :: tm.getD 34 undef :: tm.getD 35 undef :: tm.getD 36 undef :: tm.getD 37 undef :: tm.getD 38 undef :: tm.getD 39 undef :: tm.getD 40 undef :: tm.getD 41 undef :: tm.getD 42 undef :: tm.getD 43 undef :: tm.getD 44 undef :: tm.getD 45 undef :: tm.getD 46 undef :: tm.getD 47 undef :: tm.getD 48 undef :: tm.getD 49 undef :: tm.getD 50 undef :: tm.getD 51 undef :: tm.getD 52 undef :: tm.getD 53 undef :: tm.getD 54 undef :: tm.getD 55 undef :: tm.getD 56 undef :: []) = _; rw [e0, e1, e2, e3, e4, e5, e6, e7, e8, e9, e10, e11, e12, e13, e14, e15, e16, e17, e18, e19, e20, e21, e28, e29, e30, e31, e32, e33, e34, e35, e36, e37, e38, e39, e40, e41, e42, e43, e44, e45, e46, e47, e48, e49, e50, e51, e52, e53, e54, e55, e56]; try rfl)
        clear hs hk hG e0 e1 e2 e3 e4 e5 e6 e7 e8 e9 e10 e11 e12 e13 e14 e15 e16 e17 e18 e19 e20 e21 e28 e29 e30 e31 e32 e33 e34 e35 e36 e37 e38 e39 e40 e41 e42 e43 e44 e45 e46 e47 e48 e49 e50 e51 e52 e53 e54 e55 e56
        generalize tm.getD 22 undef = t22 at htm g22
        generalize tm.getD 23 undef = t23 at htm g23
        generalize tm.getD 24 undef = t24 at htm g24
        generalize tm.getD 25 undef = t25 at htm g25
        generalize tm.getD 26 undef = t26 at htm g26
        generalize tm.getD 27 undef = t27 at htm g27
        subst htm
        subst g26
        subst g27
        simp only [List.drop_succ_cons, List.drop_zero]
        obtain ⟨cs, hcs⟩ : ∃ cs, nmM [t, g] = cs := ⟨_, rfl⟩
        rw [hcs] at g25 hlen
        simp only [hcs]
        have HCS := Lib.hid hcs
        obtain ⟨gq, cq, rfl, hown⟩ := g25
        have hgq := (hown.lt gq rfl)
        have HI : Hid (∀ k, (h : k < cs.length) → W.cell? ⟨gq, k, none⟩ = some (.int .i64 cs[k])) := fun k h => (hown.cellAt k (by omega)).trans (by unfold icells; simp [h])
        have hm6' := hm6.below hB
        have hm7' := hm7.below hB
        have hB5 : Below W0.heap.size W0 W := hB4.trans (hB.mono hB4.size)
        obtain ⟨B, hBe⟩ : ∃ B, B = W4.heap.size := ⟨_, rfl⟩
        have h6B : b6 < B := by rw [hBe]; exact hm6.lt
        have h7B : b7 < B := by rw [hBe]; exact hm7.lt
        have hBW : B ≤ W.heap.size := by rw [hBe]; exact hB.size
        rw [← hBe] at hm6' hm7' hgq
        have hdis : gq ≠ b6 ∧ gq ≠ b7 := by omega
        have hwc : cs.length ≤ cq := by
          rcases hown.2 with ⟨h, _⟩ | ⟨_, _, _, h, _, _, h3, _⟩
          · cases h
          · cases h; exact h3
        clear hcs hown g22 g23 g24 hB hm6 hm7 hct hcg hBe hB4
        go_wp2_with fail
        go_loopw [27] (fun i wr => ∃ k : Nat, k ≤ cs.length ∧ i = .int .i64 k ∧ MBox B (fU t g 0, upR t g (cs.take k)) wr b6 ∧ MBox B (flZ t g 0, ouR t g (cs.take k)) wr b7 ∧ Below W0.heap.size W0 wr ∧ B ≤ wr.heap.size ∧ wr.heap[gq]? = W.heap[gq]?) (fun i _ => cs.length - (intOf i).toNat)
        case atStart => exact ⟨0, Nat.zero_le _, rfl, hm6', hm7', hB5, hBW, rfl⟩
        case round =>
          obtain ⟨k, hk, rfl, hn6, hn7, hbw, hBw, hgw⟩ := hrel
          by_cases hlt : k < cs.length
          · have c0 : wr.cell? ⟨gq, k, none⟩ = some (.int .i64 cs[k]) := by
              have := HI.out k hlt
              simp only [World.cell?] at this ⊢
              rw [hgw]; exact this
            have hgl : gq < wr.heap.size := World.block_lt_of_cell? wr _ c0
            have hki : (k : Int) < (cs.length : Int) := by omega
            have HS6 := Lib.hid (put_snoc (fU t g 0) (fU t g) cs k hlt)
            have HS7 := Lib.hid (put_snoc (flZ t g 0) (flZ t g) cs k hlt)
            have hct := hbt.below hbw
            have hcg := hbg.below hbw
            have hr6 := hn6.rbox
            have hl6 : (upR t g (cs.take k)).length ≤ 100 := by
              unfold upR rowS
              refine Nat.le_trans (short_le _ _) ?_
              rw [List.length_map, List.length_take]; omega
            have hl7 : (ouR t g (cs.take k)).length ≤ 100 := by
              unfold ouR rowS
              refine Nat.le_trans (short_le _ _) ?_
              rw [List.length_map, List.length_take]; omega
            clear hm6' hm7' hB5 hBW HI
            go_wp2_with fail
            refine wp_region_mono 12 (fun kq v W => match kq with | 31 => (RV B ((fU t g 0, upR t g (cs.take k)) : ML)) v W | 32 => v = .int .i64 cs[k] | 33 => LV t v W | 34 => LV (upM t) v W | 35 => v = .int .i64 cs[k] | 36 => v = .int .i64 (aZ (upM t) cs[k]) | 37 => LV g v W | 38 => LV (upM g) v W | 39 => v = .int .i64 cs[k] | 40 => v = .int .i64 (aZ (upM g) cs[k]) | 41 => v = .int .i64 (max (aZ (upM t) cs[k]) (aZ (upM g) cs[k])) | 42 => (RV B (((fU t g 0, upR t g (cs.take k)) : ML).1, putS ((fU t g 0, upR t g (cs.take k)) : ML).1 ((fU t g 0, upR t g (cs.take k)) : ML).2 cs[k] (max (aZ (upM t) cs[k]) (aZ (upM g) cs[k])))) v W | _ => True) (by kernel_rfl) (by kernel_rfl) (by kernel_rfl) (by kernel_rfl) (by simp) (by kernel_rfl) ?_ ?_ ?_
            · intro kq v W W' h hb
              revert h
              try dsimp only
              split
              · intro h; exact RV.below h hb
              · intro h; exact h
              · intro h; exact LV.below h hb
              · intro h; exact LV.below h hb
              · intro h; exact h
              · intro h; exact h
              · intro h; exact LV.below h hb
              · intro h; exact LV.below h hb
              · intro h; exact h
              · intro h; exact h
              · intro h; exact h
              · intro h; exact RV.below h hb
              · intro h; trivial
            · intro a' W hB hs hk i o d ho hd hG
              match i, ho with
              | 0, ho =>
                obtain rfl : _ = o := Option.some.inj ho
                obtain rfl : 31 = d := Option.some.inj hd
                obtain ⟨v, hr, hv⟩ := run_loadR (ev := a'.eval) (W := W) (hk 6 (by kernel_rfl)) (hr6.below hB)
                exact .inr ⟨rfl, .inl ⟨v, W, hr, Below.refl _ _, hv⟩⟩
              | 1, ho =>
                obtain rfl : _ = o := Option.some.inj ho
                obtain rfl : 32 = d := Option.some.inj hd
                exact .inr ⟨rfl, .inl ⟨_, W, run_move (hk 9 (by kernel_rfl)), Below.refl _ _, rfl⟩⟩
              | 2, ho =>
                obtain rfl : _ = o := Option.some.inj ho
                obtain rfl : 33 = d := Option.some.inj hd
                obtain ⟨v, hr, hv⟩ := run_loadL (ev := a'.eval) (W := W) (hk 2 (by kernel_rfl)) (hct.below hB)
                exact .inr ⟨rfl, .inl ⟨v, W, hr, Below.refl _ _, hv⟩⟩
              | 3, ho =>
                obtain rfl : _ = o := Option.some.inj ho
                obtain rfl : 34 = d := Option.some.inj hd
                have g33 : LV t (a'.eval (.tmp 33)) W := hG ⟨2, .data⟩ (by simp) rfl 33 rfl
                exact .inr ⟨rfl, .inr ⟨_, _, run_call rfl map_1 ent_gatehouseref01_Up, rUp_c g33⟩⟩
              | 4, ho =>
                obtain rfl : _ = o := Option.some.inj ho
                obtain rfl : 35 = d := Option.some.inj hd
                exact .inr ⟨rfl, .inl ⟨_, W, run_move (hk 9 (by kernel_rfl)), Below.refl _ _, rfl⟩⟩
              | 5, ho =>
                obtain rfl : _ = o := Option.some.inj ho
                obtain rfl : 36 = d := Option.some.inj hd
                have g34 : LV (upM t) (a'.eval (.tmp 34)) W := hG ⟨3, .data⟩ (by simp) rfl 34 rfl
                have g35 : (a'.eval (.tmp 35)) = .int .i64 cs[k] := hG ⟨4, .data⟩ (by simp) rfl 35 rfl
                exact .inr ⟨rfl, .inr ⟨_, _, run_call rfl map_2 ent_gatehouseref07_at, at_c' g34 g35⟩⟩
              | 6, ho =>
                obtain rfl : _ = o := Option.some.inj ho
                obtain rfl : 37 = d := Option.some.inj hd
                obtain ⟨v, hr, hv⟩ := run_loadL (ev := a'.eval) (W := W) (hk 3 (by kernel_rfl)) (hcg.below hB)
                exact .inr ⟨rfl, .inl ⟨v, W, hr, Below.refl _ _, hv⟩⟩
              | 7, ho =>
                obtain rfl : _ = o := Option.some.inj ho
                obtain rfl : 38 = d := Option.some.inj hd
                have g37 : LV g (a'.eval (.tmp 37)) W := hG ⟨6, .data⟩ (by simp) rfl 37 rfl
                exact .inr ⟨rfl, .inr ⟨_, _, run_call rfl map_1 ent_gatehouseref01_Up, rUp_c g37⟩⟩
              | 8, ho =>
                obtain rfl : _ = o := Option.some.inj ho
                obtain rfl : 39 = d := Option.some.inj hd
                exact .inr ⟨rfl, .inl ⟨_, W, run_move (hk 9 (by kernel_rfl)), Below.refl _ _, rfl⟩⟩
              | 9, ho =>
                obtain rfl : _ = o := Option.some.inj ho
                obtain rfl : 40 = d := Option.some.inj hd
                have g38 : LV (upM g) (a'.eval (.tmp 38)) W := hG ⟨7, .data⟩ (by simp) rfl 38 rfl
                have g39 : (a'.eval (.tmp 39)) = .int .i64 cs[k] := hG ⟨8, .data⟩ (by simp) rfl 39 rfl
                exact .inr ⟨rfl, .inr ⟨_, _, run_call rfl map_2 ent_gatehouseref07_at, at_c' g38 g39⟩⟩
              | 10, ho =>
                obtain rfl : _ = o := Option.some.inj ho
                obtain rfl : 41 = d := Option.some.inj hd
                have g36 : (a'.eval (.tmp 36)) = .int .i64 (aZ (upM t) cs[k]) := hG ⟨5, .data⟩ (by simp) rfl 36 rfl
                have g40 : (a'.eval (.tmp 40)) = .int .i64 (aZ (upM g) cs[k]) := hG ⟨9, .data⟩ (by simp) rfl 40 rfl
                exact .inr ⟨rfl, .inl ⟨_, W, run_max g36 g40, Below.refl _ _, rfl⟩⟩
              | 11, ho =>
                obtain rfl : _ = o := Option.some.inj ho
                obtain rfl : 42 = d := Option.some.inj hd
                have g31 : (RV B ((fU t g 0, upR t g (cs.take k)) : ML)) (a'.eval (.tmp 31)) W := hG ⟨0, .data⟩ (by simp) rfl 31 rfl
                have g32 : (a'.eval (.tmp 32)) = .int .i64 cs[k] := hG ⟨1, .data⟩ (by simp) rfl 32 rfl
                have g41 : (a'.eval (.tmp 41)) = .int .i64 (max (aZ (upM t) cs[k]) (aZ (upM g) cs[k])) := hG ⟨10, .data⟩ (by simp) rfl 41 rfl
                exact .inr ⟨rfl, .inr ⟨_, _, run_call rfl map_3 ent_gatehouseref01_Put, Put_c g31 g32 g41 (Nat.le_trans hBw hB.size) hl6⟩⟩
              | j + 12, ho => simp at ho
            · intro a' W hB hs hdf hk hG
              obtain ⟨tm, df⟩ := a'
              obtain rfl : df = [] := hdf
              have e0 : tm.getD 0 undef = .agg #[.int .i64 t.fst, .slice pt t.snd.length ct] := hk 0 (by kernel_rfl)
              have e1 : tm.getD 1 undef = .agg #[.int .i64 g.fst, .slice pg g.snd.length cg] := hk 1 (by kernel_rfl)
              have e2 : tm.getD 2 undef = .pointer (some ⟨w.heap.size, 0, none⟩) := hk 2 (by kernel_rfl)
              have e3 : tm.getD 3 undef = .pointer (some ⟨w.heap.size + 1, 0, none⟩) := hk 3 (by kernel_rfl)
              have e4 : tm.getD 4 undef = .pointer (some ⟨w.heap.size + 1 + 1, 0, none⟩) := hk 4 (by kernel_rfl)
              have e5 : tm.getD 5 undef = .int .i64 0 := hk 5 (by kernel_rfl)
              have e6 : tm.getD 6 undef = .pointer (some ⟨b6, 0, none⟩) := hk 6 (by kernel_rfl)
              have e7 : tm.getD 7 undef = .pointer (some ⟨b7, 0, none⟩) := hk 7 (by kernel_rfl)
              have e8 : tm.getD 8 undef = undef := hk 8 (by kernel_rfl)
              have e9 : tm.getD 9 undef = .int .i64 cs[k] := hk 9 (by kernel_rfl)
              have e10 : tm.getD 10 undef = t10 := hk 10 (by kernel_rfl)
              have e11 : tm.getD 11 undef = t11 := hk 11 (by kernel_rfl)
              have e12 : tm.getD 12 undef = .int .i64 (upM t).fst := hk 12 (by kernel_rfl)
              have e13 : tm.getD 13 undef = t13 := hk 13 (by kernel_rfl)
              have e14 : tm.getD 14 undef = t14 := hk 14 (by kernel_rfl)
              have e15 : tm.getD 15 undef = .int .i64 (upM g).fst := hk 15 (by kernel_rfl)
              have e16 : tm.getD 16 undef = .int .i64 (fU t g 0) := hk 16 (by kernel_rfl)
              have e17 : tm.getD 17 undef = .agg #[.int .i64 (fU t g 0), .slice none 0 0] := hk 17 (by kernel_rfl)
              have e18 : tm.getD 18 undef = t18 := hk 18 (by kernel_rfl)
              have e19 : tm.getD 19 undef = t19 := hk 19 (by kernel_rfl)
              have e20 : tm.getD 20 undef = .int .i64 (flZ t g 0) := hk 20 (by kernel_rfl)
              have e21 : tm.getD 21 undef = .agg #[.int .i64 (flZ t g 0), .slice none 0 0] := hk 21 (by kernel_rfl)
              have e22 : tm.getD 22 undef = t22 := hk 22 (by kernel_rfl)
              have e23 : tm.getD 23 undef = t23 := hk 23 (by kernel_rfl)
              have e24 : tm.getD 24 undef = t24 := hk 24 (by kernel_rfl)
              have e25 : tm.getD 25 undef = .slice (some ⟨gq, 0, none⟩) cs.length cq := hk 25 (by kernel_rfl)
              have e26 : tm.getD 26 undef = .int .i64 cs.length := hk 26 (by kernel_rfl)
              have e27 : tm.getD 27 undef = .int .i64 k := hk 27 (by kernel_rfl)
              have e28 : tm.getD 28 undef = .bool true := hk 28 (by kernel_rfl)
              have e29 : tm.getD 29 undef = .pointer (some { block := gq, off := k }) := hk 29 (by kernel_rfl)
              have e30 : tm.getD 30 undef = .int .i64 cs[k] := hk 30 (by kernel_rfl)
              have e43 : tm.getD 43 undef = u43 := hk 43 (by kernel_rfl)
              have e44 : tm.getD 44 undef = u44 := hk 44 (by kernel_rfl)
              have e45 : tm.getD 45 undef = u45 := hk 45 (by kernel_rfl)
              have e46 : tm.getD 46 undef = u46 := hk 46 (by kernel_rfl)
              have e47 : tm.getD 47 undef = u47 := hk 47 (by kernel_rfl)
              have e48 : tm.getD 48 undef = u48 := hk 48 (by kernel_rfl)
              have e49 : tm.getD 49 undef = u49 := hk 49 (by kernel_rfl)
              have e50 : tm.getD 50 undef = u50 := hk 50 (by kernel_rfl)
              have e51 : tm.getD 51 undef = undef := hk 51 (by kernel_rfl)
              have e52 : tm.getD 52 undef = undef := hk 52 (by kernel_rfl)
              have e53 : tm.getD 53 undef = undef := hk 53 (by kernel_rfl)
              have e54 : tm.getD 54 undef = undef := hk 54 (by kernel_rfl)
              have e55 : tm.getD 55 undef = undef := hk 55 (by kernel_rfl)
              have e56 : tm.getD 56 undef = undef := hk 56 (by kernel_rfl)
              have g31 : (RV B ((fU t g 0, upR t g (cs.take k)) : ML)) (tm.getD 31 undef) W := hG 0 31 (by decide) rfl
              have g32 : (tm.getD 32 undef) = .int .i64 cs[k] := hG 1 32 (by decide) rfl
              have g33 : LV t (tm.getD 33 undef) W := hG 2 33 (by decide) rfl
              have g34 : LV (upM t) (tm.getD 34 undef) W := hG 3 34 (by decide) rfl
              have g35 : (tm.getD 35 undef) = .int .i64 cs[k] := hG 4 35 (by decide) rfl
              have g36 : (tm.getD 36 undef) = .int .i64 (aZ (upM t) cs[k]) := hG 5 36 (by decide) rfl
              have g37 : LV g (tm.getD 37 undef) W := hG 6 37 (by decide) rfl
              have g38 : LV (upM g) (tm.getD 38 undef) W := hG 7 38 (by decide) rfl
              have g39 : (tm.getD 39 undef) = .int .i64 cs[k] := hG 8 39 (by decide) rfl
              have g40 : (tm.getD 40 undef) = .int .i64 (aZ (upM g) cs[k]) := hG 9 40 (by decide) rfl
              have g41 : (tm.getD 41 undef) = .int .i64 (max (aZ (upM t) cs[k]) (aZ (upM g) cs[k])) := hG 10 41 (by decide) rfl
              have g42 : (RV B (((fU t g 0, upR t g (cs.take k)) : ML).1, putS ((fU t g 0, upR t g (cs.take k)) : ML).1 ((fU t g 0, upR t g (cs.take k)) : ML).2 cs[k] (max (aZ (upM t) cs[k]) (aZ (upM g) cs[k])))) (tm.getD 42 undef) W := hG 11 42 (by decide) rfl
              have htm := arr_of tm ((.agg #[.int .i64 t.fst, .slice pt t.snd.length ct] : Value) :: (.agg #[.int .i64 g.fst, .slice pg g.snd.length cg] : Value) :: (.pointer (some ⟨w.heap.size, 0, none⟩) : Value) :: (.pointer (some ⟨w.heap.size + 1, 0, none⟩) : Value) :: (.pointer (some ⟨w.heap.size + 1 + 1, 0, none⟩) : Value) :: (.int .i64 0 : Value) :: (.pointer (some ⟨b6, 0, none⟩) : Value) :: (.pointer (some ⟨b7, 0, none⟩) : Value) :: (undef : Value) :: (.int .i64 cs[k] : Value) :: (t10 : Value) :: (t11 : Value) :: (.int .i64 (upM t).fst : Value) :: (t13 : Value) :: (t14 : Value) :: (.int .i64 (upM g).fst : Value) :: (.int .i64 (fU t g 0) : Value) :: (.agg #[.int .i64 (fU t g 0), .slice none 0 0] : Value) :: (t18 : Value) :: (t19 : Value) :: (.int .i64 (flZ t g 0) : Value) :: (.agg #[.int .i64 (flZ t g 0), .slice none 0 0] : Value) :: (t22 : Value) :: (t23 : Value) :: (t24 : Value) :: (.slice (some ⟨gq, 0, none⟩) cs.length cq : Value) :: (.int .i64 cs.length : Value) :: (.int .i64 k : Value) :: (.bool true : Value) :: (.pointer (some { block := gq, off := k }) : Value) :: (.int .i64 cs[k] : Value) :: (tm.getD 31 undef : Value) :: (tm.getD 32 undef : Value) :: (tm.getD 33 undef : Value) :: (tm.getD 34 undef : Value) :: (tm.getD 35 undef : Value) :: (tm.getD 36 undef : Value) :: (tm.getD 37 undef : Value) :: (tm.getD 38 undef : Value) :: (tm.getD 39 undef : Value) :: (tm.getD 40 undef : Value) :: (tm.getD 41 undef : Value) :: (tm.getD 42 undef : Value) :: (u43 : Value) :: (u44 : Value) :: (u45 : Value) :: (u46 : Value) :: (u47 : Value) :: (u48 : Value) :: (u49 : Value) :: (u50 : Value) :: (undef : Value) :: (undef : Value) :: (undef : Value) :: (undef : Value) :: (undef : Value) :: (undef : Value) :: []) hs (by show (tm.getD 0 undef :: tm.getD 1 undef :: tm.getD 2 undef :: tm.getD 3 undef :: tm.getD 4 undef :: tm.getD 5 undef :: tm.getD 6 undef :: tm.getD 7 undef :: tm.getD 8 undef :: tm.getD 9 undef :: tm.getD 10 undef :: tm.getD 11 undef :: tm.getD 12 undef :: tm.getD 13 undef :: tm.getD 14 undef :: tm.getD 15 undef :: tm.getD 16 undef :: tm.getD 17 undef :: tm.getD 18 undef :: tm.getD 19 undef :: tm.getD 20 undef :: tm.getD 21 undef :: tm.getD 22 undef :: tm.getD 23 undef :: tm.getD 24 undef :: tm.getD 25 undef :: tm.getD 26 undef :: tm.getD 27 undef :: tm.getD 28 undef :: tm.getD 29 undef :: tm.getD 30 undef :: tm.getD 31 undef :: tm.getD 32 undef :: tm.getD 33 undef :: tm.getD 34 undef :: tm.getD 35 undef :: tm.getD 36 undef :: tm.getD 37 undef :: tm.getD 38 undef :: tm.getD 39 undef :: tm.getD 40 undef :: tm.getD 41 undef :: tm.getD 42 undef :: tm.getD 43 undef :: tm.getD 44 undef :: tm.getD 45 undef :: tm.getD 46 undef :: tm.getD 47 undef :: tm.getD 48 undef :: tm.getD 49 undef :: tm.getD 50 undef :: tm.getD 51 undef :: tm.getD 52 undef :: tm.getD 53 undef :: tm.getD 54 undef :: tm.getD 55 undef :: tm.getD 56 undef :: []) = _; rw [e0, e1, e2, e3, e4, e5, e6, e7, e8, e9, e10, e11, e12, e13, e14, e15, e16, e17, e18, e19, e20, e21, e22, e23, e24, e25, e26, e27, e28, e29, e30, e43, e44, e45, e46, e47, e48, e49, e50, e51, e52, e53, e54, e55, e56]; try rfl)
              clear hs hk hG e0 e1 e2 e3 e4 e5 e6 e7 e8 e9 e10 e11 e12 e13 e14 e15 e16 e17 e18 e19 e20 e21 e22 e23 e24 e25 e26 e27 e28 e29 e30 e43 e44 e45 e46 e47 e48 e49 e50 e51 e52 e53 e54 e55 e56
              generalize tm.getD 31 undef = t31 at htm g31
              generalize tm.getD 32 undef = t32 at htm g32
              generalize tm.getD 33 undef = t33 at htm g33
              generalize tm.getD 34 undef = t34 at htm g34
              generalize tm.getD 35 undef = t35 at htm g35
              generalize tm.getD 36 undef = t36 at htm g36
              generalize tm.getD 37 undef = t37 at htm g37
              generalize tm.getD 38 undef = t38 at htm g38
              generalize tm.getD 39 undef = t39 at htm g39
              generalize tm.getD 40 undef = t40 at htm g40
              generalize tm.getD 41 undef = t41 at htm g41
              generalize tm.getD 42 undef = t42 at htm g42
              subst htm
              subst g32
              subst g35
              subst g36
              subst g39
              subst g40
              subst g41
              simp only [List.drop_succ_cons, List.drop_zero]
              obtain ⟨s6, rfl, hR6⟩ := g42
              obtain ⟨p6, q6, rfl, _, _⟩ := id hR6.out
              have hw6 := hn6.below hB
              have hw7 := hn7.below hB
              obtain ⟨y6s, y6l, y6c, y6d, y6R⟩ := hw6.rbox
              obtain ⟨y6p, y6q, rfl, _, _⟩ := id y6R.out
              have y6f := hw6.fz
              have hX : Below W0.heap.size W0 W := hbw.trans (hB.mono hbw.size)
              have hgW : W.heap[gq]? = wr.heap[gq]? := hB.block gq hgl
              have hBW : B ≤ W.heap.size := Nat.le_trans hBw hB.size
              clear g31 g33 g34 g37 g38 hr6 hct hcg hB y6R
              go_wp2_with fail
              obtain ⟨X, hXe⟩ : ∃ X, X = (W.setCell ⟨b6, 0, none⟩ (.int .i64 (fU t g 0))).setCell ⟨b6, 1, none⟩ (.slice p6 (putS (fU t g 0) (upR t g (cs.take k)) cs[k] (max (aZ (upM t) cs[k]) (aZ (upM g) cs[k]))).length q6) := ⟨_, rfl⟩
              have hX6 : MBox B (fU t g 0, putS (fU t g 0) (upR t g (cs.take k)) cs[k] (max (aZ (upM t) cs[k]) (aZ (upM g) cs[k]))) X b6 := by rw [hXe]; exact MBox.put (l' := (fU t g 0, putS (fU t g 0) (upR t g (cs.take k)) cs[k] (max (aZ (upM t) cs[k]) (aZ (upM g) cs[k])))) hw6 h6B hR6
              have hX7 : MBox B (flZ t g 0, ouR t g (cs.take k)) X b7 := by rw [hXe]; exact hw7.other h6B (Ne.symm h67)
              have hXB : Below W0.heap.size W0 X := by rw [hXe]; exact (hX.setCell (p := ⟨b6, 0, none⟩) hb6 _).setCell (p := ⟨b6, 1, none⟩) hb6 _
              have hXg : X.heap[gq]? = W.heap[gq]? := by rw [hXe]; exact heap_twoN hdis.1
              have hXs : B ≤ X.heap.size := by rw [hXe]; simpa [World.setCell] using hBW
              have hgX : gq < X.heap.size := by
                have h1 : gq < W.heap.size := by
                  rcases Nat.lt_or_ge gq W.heap.size with h | h
                  · exact h
                  · rw [Array.getElem?_eq_none h] at hgW
                    have := Array.getElem?_eq_getElem hgl
                    rw [← hgW] at this; cases this
                rw [hXe]; simpa [World.setCell] using h1
              rw [← hXe]
              have hct := hbt.below hXB
              have hcg := hbg.below hXB
              have hr7 := hX7.rbox
              rw [show max (aZ (upM t) cs[k]) (aZ (upM g) cs[k]) = fU t g cs[k] from rfl] at hX6
              have hX6' : MBox B (fU t g 0, upR t g (cs.take (k + 1))) X b6 := by
                have e : upR t g (cs.take (k + 1)) = putS (fU t g 0) (upR t g (cs.take k)) cs[k] (fU t g cs[k]) := HS6.out
                rw [e]; exact hX6
              clear hXe hX6 hw6 hw7 hn6 hn7 hR6 HS6 hX y6c y6d y6f y6l hbw hBw
              refine wp_region_mono 7 (fun kq v W => match kq with | 43 => (RV B ((flZ t g 0, ouR t g (cs.take k)) : ML)) v W | 44 => v = .int .i64 cs[k] | 45 => LV t v W | 46 => LV g v W | 47 => v = .int .i64 cs[k] | 48 => v = .int .i64 (flZ t g cs[k]) | 49 => (RV B (((flZ t g 0, ouR t g (cs.take k)) : ML).1, putS ((flZ t g 0, ouR t g (cs.take k)) : ML).1 ((flZ t g 0, ouR t g (cs.take k)) : ML).2 cs[k] (flZ t g cs[k]))) v W | _ => True) (by kernel_rfl) (by kernel_rfl) (by kernel_rfl) (by kernel_rfl) (by simp) (by kernel_rfl) ?_ ?_ ?_
              · intro kq v W W' h hb
                revert h
                try dsimp only
                split
                · intro h; exact RV.below h hb
                · intro h; exact h
                · intro h; exact LV.below h hb
                · intro h; exact LV.below h hb
                · intro h; exact h
                · intro h; exact h
                · intro h; exact RV.below h hb
                · intro h; trivial
              · intro a' W hB hs hk i o d ho hd hG
                match i, ho with
                | 0, ho =>
                  obtain rfl : _ = o := Option.some.inj ho
                  obtain rfl : 43 = d := Option.some.inj hd
                  obtain ⟨v, hr, hv⟩ := run_loadR (ev := a'.eval) (W := W) (hk 7 (by kernel_rfl)) (hr7.below hB)
                  exact .inr ⟨rfl, .inl ⟨v, W, hr, Below.refl _ _, hv⟩⟩
                | 1, ho =>
                  obtain rfl : _ = o := Option.some.inj ho
                  obtain rfl : 44 = d := Option.some.inj hd
                  exact .inr ⟨rfl, .inl ⟨_, W, run_move (hk 9 (by kernel_rfl)), Below.refl _ _, rfl⟩⟩
                | 2, ho =>
                  obtain rfl : _ = o := Option.some.inj ho
                  obtain rfl : 45 = d := Option.some.inj hd
                  obtain ⟨v, hr, hv⟩ := run_loadL (ev := a'.eval) (W := W) (hk 2 (by kernel_rfl)) (hct.below hB)
                  exact .inr ⟨rfl, .inl ⟨v, W, hr, Below.refl _ _, hv⟩⟩
                | 3, ho =>
                  obtain rfl : _ = o := Option.some.inj ho
                  obtain rfl : 46 = d := Option.some.inj hd
                  obtain ⟨v, hr, hv⟩ := run_loadL (ev := a'.eval) (W := W) (hk 3 (by kernel_rfl)) (hcg.below hB)
                  exact .inr ⟨rfl, .inl ⟨v, W, hr, Below.refl _ _, hv⟩⟩
                | 4, ho =>
                  obtain rfl : _ = o := Option.some.inj ho
                  obtain rfl : 47 = d := Option.some.inj hd
                  exact .inr ⟨rfl, .inl ⟨_, W, run_move (hk 9 (by kernel_rfl)), Below.refl _ _, rfl⟩⟩
                | 5, ho =>
                  obtain rfl : _ = o := Option.some.inj ho
                  obtain rfl : 48 = d := Option.some.inj hd
                  have g45 : LV t (a'.eval (.tmp 45)) W := hG ⟨2, .data⟩ (by simp) rfl 45 rfl
                  have g46 : LV g (a'.eval (.tmp 46)) W := hG ⟨3, .data⟩ (by simp) rfl 46 rfl
                  have g47 : (a'.eval (.tmp 47)) = .int .i64 cs[k] := hG ⟨4, .data⟩ (by simp) rfl 47 rfl
                  exact .inr ⟨rfl, .inr ⟨_, _, run_call rfl map_3 ent_gatehouseref07_floor, rfloor_c' g45 g46 g47⟩⟩
                | 6, ho =>
                  obtain rfl : _ = o := Option.some.inj ho
                  obtain rfl : 49 = d := Option.some.inj hd
                  have g43 : (RV B ((flZ t g 0, ouR t g (cs.take k)) : ML)) (a'.eval (.tmp 43)) W := hG ⟨0, .data⟩ (by simp) rfl 43 rfl
                  have g44 : (a'.eval (.tmp 44)) = .int .i64 cs[k] := hG ⟨1, .data⟩ (by simp) rfl 44 rfl
                  have g48 : (a'.eval (.tmp 48)) = .int .i64 (flZ t g cs[k]) := hG ⟨5, .data⟩ (by simp) rfl 48 rfl
                  exact .inr ⟨rfl, .inr ⟨_, _, run_call rfl map_3 ent_gatehouseref01_Put, Put_c g43 g44 g48 (Nat.le_trans hXs hB.size) hl7⟩⟩
                | j + 7, ho => simp at ho
              · intro a' W hB hs hdf hk hG
                obtain ⟨tm, df⟩ := a'
                obtain rfl : df = [] := hdf
                have e0 : tm.getD 0 undef = .agg #[.int .i64 t.fst, .slice pt t.snd.length ct] := hk 0 (by kernel_rfl)
                have e1 : tm.getD 1 undef = .agg #[.int .i64 g.fst, .slice pg g.snd.length cg] := hk 1 (by kernel_rfl)
                have e2 : tm.getD 2 undef = .pointer (some ⟨w.heap.size, 0, none⟩) := hk 2 (by kernel_rfl)
                have e3 : tm.getD 3 undef = .pointer (some ⟨w.heap.size + 1, 0, none⟩) := hk 3 (by kernel_rfl)
                have e4 : tm.getD 4 undef = .pointer (some ⟨w.heap.size + 1 + 1, 0, none⟩) := hk 4 (by kernel_rfl)
                have e5 : tm.getD 5 undef = .int .i64 0 := hk 5 (by kernel_rfl)
                have e6 : tm.getD 6 undef = .pointer (some ⟨b6, 0, none⟩) := hk 6 (by kernel_rfl)
                have e7 : tm.getD 7 undef = .pointer (some ⟨b7, 0, none⟩) := hk 7 (by kernel_rfl)
                have e8 : tm.getD 8 undef = undef := hk 8 (by kernel_rfl)
                have e9 : tm.getD 9 undef = .int .i64 cs[k] := hk 9 (by kernel_rfl)
                have e10 : tm.getD 10 undef = t10 := hk 10 (by kernel_rfl)
                have e11 : tm.getD 11 undef = t11 := hk 11 (by kernel_rfl)
                have e12 : tm.getD 12 undef = .int .i64 (upM t).fst := hk 12 (by kernel_rfl)
                have e13 : tm.getD 13 undef = t13 := hk 13 (by kernel_rfl)
                have e14 : tm.getD 14 undef = t14 := hk 14 (by kernel_rfl)
                have e15 : tm.getD 15 undef = .int .i64 (upM g).fst := hk 15 (by kernel_rfl)
                have e16 : tm.getD 16 undef = .int .i64 (fU t g 0) := hk 16 (by kernel_rfl)
                have e17 : tm.getD 17 undef = .agg #[.int .i64 (fU t g 0), .slice none 0 0] := hk 17 (by kernel_rfl)
                have e18 : tm.getD 18 undef = t18 := hk 18 (by kernel_rfl)
                have e19 : tm.getD 19 undef = t19 := hk 19 (by kernel_rfl)
                have e20 : tm.getD 20 undef = .int .i64 (flZ t g 0) := hk 20 (by kernel_rfl)
                have e21 : tm.getD 21 undef = .agg #[.int .i64 (flZ t g 0), .slice none 0 0] := hk 21 (by kernel_rfl)
                have e22 : tm.getD 22 undef = t22 := hk 22 (by kernel_rfl)
                have e23 : tm.getD 23 undef = t23 := hk 23 (by kernel_rfl)
                have e24 : tm.getD 24 undef = t24 := hk 24 (by kernel_rfl)
                have e25 : tm.getD 25 undef = .slice (some ⟨gq, 0, none⟩) cs.length cq := hk 25 (by kernel_rfl)
                have e26 : tm.getD 26 undef = .int .i64 cs.length := hk 26 (by kernel_rfl)
                have e27 : tm.getD 27 undef = .int .i64 k := hk 27 (by kernel_rfl)
                have e28 : tm.getD 28 undef = .bool true := hk 28 (by kernel_rfl)
                have e29 : tm.getD 29 undef = .pointer (some { block := gq, off := k }) := hk 29 (by kernel_rfl)
                have e30 : tm.getD 30 undef = .int .i64 cs[k] := hk 30 (by kernel_rfl)
                have e31 : tm.getD 31 undef = t31 := hk 31 (by kernel_rfl)
                have e32 : tm.getD 32 undef = .int .i64 cs[k] := hk 32 (by kernel_rfl)
                have e33 : tm.getD 33 undef = t33 := hk 33 (by kernel_rfl)
                have e34 : tm.getD 34 undef = t34 := hk 34 (by kernel_rfl)
                have e35 : tm.getD 35 undef = .int .i64 cs[k] := hk 35 (by kernel_rfl)
                have e36 : tm.getD 36 undef = .int .i64 (aZ (upM t) cs[k]) := hk 36 (by kernel_rfl)
                have e37 : tm.getD 37 undef = t37 := hk 37 (by kernel_rfl)
                have e38 : tm.getD 38 undef = t38 := hk 38 (by kernel_rfl)
                have e39 : tm.getD 39 undef = .int .i64 cs[k] := hk 39 (by kernel_rfl)
                have e40 : tm.getD 40 undef = .int .i64 (aZ (upM g) cs[k]) := hk 40 (by kernel_rfl)
                have e41 : tm.getD 41 undef = .int .i64 (max (aZ (upM t) cs[k]) (aZ (upM g) cs[k])) := hk 41 (by kernel_rfl)
                have e42 : tm.getD 42 undef = .agg #[.int .i64 (fU t g 0), .slice p6 (putS (fU t g 0) (upR t g (List.take k cs)) cs[k] (max (aZ (upM t) cs[k]) (aZ (upM g) cs[k]))).length q6] := hk 42 (by kernel_rfl)
                have e50 : tm.getD 50 undef = u50 := hk 50 (by kernel_rfl)
                have e51 : tm.getD 51 undef = undef := hk 51 (by kernel_rfl)
                have e52 : tm.getD 52 undef = undef := hk 52 (by kernel_rfl)
                have e53 : tm.getD 53 undef = undef := hk 53 (by kernel_rfl)
                have e54 : tm.getD 54 undef = undef := hk 54 (by kernel_rfl)
                have e55 : tm.getD 55 undef = undef := hk 55 (by kernel_rfl)
                have e56 : tm.getD 56 undef = undef := hk 56 (by kernel_rfl)
                have g43 : (RV B ((flZ t g 0, ouR t g (cs.take k)) : ML)) (tm.getD 43 undef) W := hG 0 43 (by decide) rfl
                have g44 : (tm.getD 44 undef) = .int .i64 cs[k] := hG 1 44 (by decide) rfl
                have g45 : LV t (tm.getD 45 undef) W := hG 2 45 (by decide) rfl
                have g46 : LV g (tm.getD 46 undef) W := hG 3 46 (by decide) rfl
                have g47 : (tm.getD 47 undef) = .int .i64 cs[k] := hG 4 47 (by decide) rfl
                have g48 : (tm.getD 48 undef) = .int .i64 (flZ t g cs[k]) := hG 5 48 (by decide) rfl
                have g49 : (RV B (((flZ t g 0, ouR t g (cs.take k)) : ML).1, putS ((flZ t g 0, ouR t g (cs.take k)) : ML).1 ((flZ t g 0, ouR t g (cs.take k)) : ML).2 cs[k] (flZ t g cs[k]))) (tm.getD 49 undef) W := hG 6 49 (by decide) rfl
                have htm := arr_of tm ((.agg #[.int .i64 t.fst, .slice pt t.snd.length ct] : Value) :: (.agg #[.int .i64 g.fst, .slice pg g.snd.length cg] : Value) :: (.pointer (some ⟨w.heap.size, 0, none⟩) : Value) :: (.pointer (some ⟨w.heap.size + 1, 0, none⟩) : Value) :: (.pointer (some ⟨w.heap.size + 1 + 1, 0, none⟩) : Value) :: (.int .i64 0 : Value) :: (.pointer (some ⟨b6, 0, none⟩) : Value) :: (.pointer (some ⟨b7, 0, none⟩) : Value) :: (undef : Value) :: (.int .i64 cs[k] : Value) :: (t10 : Value) :: (t11 : Value) :: (.int .i64 (upM t).fst : Value) :: (t13 : Value) :: (t14 : Value) :: (.int .i64 (upM g).fst : Value) :: (.int .i64 (fU t g 0) : Value) :: (.agg #[.int .i64 (fU t g 0), .slice none 0 0] : Value) :: (t18 : Value) :: (t19 : Value) :: (.int .i64 (flZ t g 0) : Value) :: (.agg #[.int .i64 (flZ t g 0), .slice none 0 0] : Value) :: (t22 : Value) :: (t23 : Value) :: (t24 : Value) :: (.slice (some ⟨gq, 0, none⟩) cs.length cq : Value) :: (.int .i64 cs.length : Value) :: (.int .i64 k : Value) :: (.bool true : Value) :: (.pointer (some { block := gq, off := k }) : Value) :: (.int .i64 cs[k] : Value) :: (t31 : Value) :: (.int .i64 cs[k] : Value) :: (t33 : Value) :: (t34 : Value) :: (.int .i64 cs[k] : Value) :: (.int .i64 (aZ (upM t) cs[k]) : Value) :: (t37 : Value) :: (t38 : Value) :: (.int .i64 cs[k] : Value) :: (.int .i64 (aZ (upM g) cs[k]) : Value) :: (.int .i64 (max (aZ (upM t) cs[k]) (aZ (upM g) cs[k])) : Value) :: (.agg #[.int .i64 (fU t g 0), .slice p6 (putS (fU t g 0) (upR t g (List.take k cs)) cs[k] (max (aZ (upM t) cs[k]) (aZ (upM g) cs[k]))).length q6] : Value) :: (tm.getD 43 undef : Value) :: (tm.getD 44 undef : Value) :: (tm.getD 45 undef : Value) :: (tm.getD 46 undef : Value) :: (tm.getD 47 undef : Value) :: (tm.getD 48 undef : Value) :: (tm.getD 49 undef : Value) :: (u50 : Value) :: (undef : Value) :: (undef : Value) :: (undef : Value) :: (undef : Value) :: (undef : Value) :: (undef : Value) :: []) hs (by show (tm.getD 0 undef :: tm.getD 1 undef :: tm.getD 2 undef :: tm.getD 3 undef :: tm.getD 4 undef :: tm.getD 5 undef :: tm.getD 6 undef :: tm.getD 7 undef :: tm.getD 8 undef :: tm.getD 9 undef :: tm.getD 10 undef :: tm.getD 11 undef :: tm.getD 12 undef :: tm.getD 13 undef :: tm.getD 14 undef :: tm.getD 15 undef :: tm.getD 16 undef :: tm.getD 17 undef :: tm.getD 18 undef :: tm.getD 19 undef :: tm.getD 20 undef :: tm.getD 21 undef :: tm.getD 22 undef :: tm.getD 23 undef :: tm.getD 24 undef :: tm.getD 25 undef :: tm.getD 26 undef :: tm.getD 27 undef :: tm.getD 28 undef :: tm.getD 29 undef :: tm.getD 30 undef :: tm.getD 31 undef :: tm.getD 32 undef :: tm.getD 33 undef :: tm.getD 34 undef :: tm.getD 35 undef :: tm.getD 36 undef :: tm.getD 37 undef :: tm.getD 38 undef :: tm.getD 39 undef :: tm.getD 40 undef :: tm.getD 41 undef :: tm.getD 42 undef :: tm.getD 43 undef :: tm.getD 44 undef :: tm.getD 45 undef :: tm.getD 46 undef :: tm.getD 47 undef :: tm.getD 48 undef :: tm.getD 49 undef :: tm.getD 50 undef :: tm.getD 51 undef :: tm.getD 52 undef :: tm.getD 53 undef :: tm.getD 54 undef :: tm.getD 55 undef :: tm.getD 56 undef :: []) = _; rw [e0, e1, e2, e3, e4, e5, e6, e7, e8, e9, e10, e11, e12, e13, e14, e15, e16, e17, e18, e19, e20, e21, e22, e23, e24, e25, e26, e27, e28, e29, e30, e31, e32, e33, e34, e35, e36, e37, e38, e39, e40, e41, e42, e50, e51, e52, e53, e54, e55, e56]; try rfl)
                clear hs hk hG e0 e1 e2 e3 e4 e5 e6 e7 e8 e9 e10 e11 e12 e13 e14 e15 e16 e17 e18 e19 e20 e21 e22 e23 e24 e25 e26 e27 e28 e29 e30 e31 e32 e33 e34 e35 e36 e37 e38 e39 e40 e41 e42 e50 e51 e52 e53 e54 e55 e56
                generalize tm.getD 43 undef = t43 at htm g43
                generalize tm.getD 44 undef = t44 at htm g44
                generalize tm.getD 45 undef = t45 at htm g45
                generalize tm.getD 46 undef = t46 at htm g46
                generalize tm.getD 47 undef = t47 at htm g47
                generalize tm.getD 48 undef = t48 at htm g48
                generalize tm.getD 49 undef = t49 at htm g49
                subst htm
                subst g44
                subst g47
                subst g48
                simp only [List.drop_succ_cons, List.drop_zero]
                obtain ⟨s7, rfl, hR7⟩ := g49
                obtain ⟨p7, q7, rfl, _, _⟩ := id hR7.out
                have hw6 := hX6'.below hB
                have hw7 := hX7.below hB
                obtain ⟨y7s, y7l, y7c, y7d, y7R⟩ := hw7.rbox
                obtain ⟨y7p, y7q, rfl, _, _⟩ := id y7R.out
                have y7f := hw7.fz
                obtain ⟨V, hV⟩ : ∃ V, V = W := ⟨_, rfl⟩
                rw [← hV] at hB hw6 hw7 hR7 y7l y7c y7d y7f ⊢
                clear hV
                have hVB : Below W0.heap.size W0 V := hXB.trans (hB.mono hXB.size)
                have hVg : V.heap[gq]? = X.heap[gq]? := hB.block gq hgX
                have hVs : B ≤ V.heap.size := Nat.le_trans hXs hB.size
                clear g43 g45 g46 hr7 hct hcg hB y7R
                go_wp2
                go_roundw
                case rel =>
                  refine ⟨k + 1, by omega, by go_num, ?_, ?_, ?_, ?_, ?_⟩
                  · exact hw6.other h7B h67
                  · have e : ouR t g (cs.take (k + 1)) = putS (flZ t g 0) (ouR t g (cs.take k)) cs[k] (flZ t g cs[k]) := HS7.out
                    rw [e]
                    exact MBox.put (l' := (flZ t g 0, putS (flZ t g 0) (ouR t g (cs.take k)) cs[k] (flZ t g cs[k]))) hw7 h7B hR7
                  · exact (hVB.setCell (p := ⟨b7, 0, none⟩) hb70 _).setCell (p := ⟨b7, 1, none⟩) hb70 _
                  · simpa [World.setCell] using hVs
                  · rw [heap_twoN hdis.2, hVg, hXg, hgW, hgw]
                case measure => simp [intOf]; omega
          · obtain rfl : k = cs.length := by omega
            have hkk : ¬ (cs.length : Int) < (cs.length : Int) := by omega
            rw [List.take_length] at hn6 hn7
            obtain ⟨y6s, y6l, y6c, y6d, y6R⟩ := hn6.rbox
            obtain ⟨y6p, y6q, rfl, _, _⟩ := id y6R.out
            obtain ⟨y7s, y7l, y7c, y7d, y7R⟩ := hn7.rbox
            obtain ⟨y7p, y7q, rfl, _, _⟩ := id y7R.out
            obtain ⟨z4, z40, z41, z4f⟩ := hz4.below hbw
            have HB : Hid (Below w.heap.size w wr) := hA.trans (hbw.mono hA.size)
            have HR7 := Lib.hid y7R
            have h4B : w.heap.size + 1 + 1 < B := by omega
            have hDM : Hid (rfloM t g = if (upR t g cs).length ≤ 16 then (flZ t g 0, ouR t g cs) else (0, [])) := by simp only [Hid]; unfold rfloM; rw [HCS.out]
            have hDE : Hid (rfloE t g = if (upR t g cs).length ≤ 16 then 0 else 7) := by simp only [Hid]; unfold rfloE; rw [HCS.out]
            clear hn6 hn7 y6R y7R hm6' hm7' hB5 HI hbw hA hbt hbg hz4 HCS
            by_cases hq : (upR t g cs).length ≤ 16
            · rw [if_pos hq] at hDM hDE
              have hq' : ¬ (16 : Int) < ((upR t g cs).length : Int) := by omega
              go_wp2
              refine bodyPost_ret (by first | (simp [results, Try.results22, go_sem, z40, z41]; rfl) | simp [results, Try.results22, go_sem, z40, z41]) rfl ⟨_, by rw [hDE.out], ?_, ?_⟩
              · exact (HB.out.setCell (p := ⟨w.heap.size + 1 + 1, 0, none⟩) (by simp <;> omega) _).setCell (p := ⟨w.heap.size + 1 + 1, 1, none⟩) (by simp <;> omega) _
              · rw [hDM.out]
                exact RV.mono (RV.set (RV.set ⟨_, rfl, HR7.out⟩ (by simp; omega) _) (by simp; omega) _) (by omega)
            · rw [if_neg hq] at hDM hDE
              have hq' : (16 : Int) < ((upR t g cs).length : Int) := by omega
              go_wp2
              refine bodyPost_ret (by first | (simp [results, Try.results22, go_sem, z40, z41]; rfl) | simp [results, Try.results22, go_sem, z40, z41]) rfl ⟨_, by rw [hDE.out], ?_, ?_⟩
              · exact (HB.out.setCell (p := ⟨w.heap.size + 1 + 1, 0, none⟩) (by simp <;> omega) _).setCell (p := ⟨w.heap.size + 1 + 1, 1, none⟩) (by simp <;> omega) _
              · rw [hDM.out]
                exact RV.zero _ _
end Go.Proofs.Ytnjmgholoigpkaa
