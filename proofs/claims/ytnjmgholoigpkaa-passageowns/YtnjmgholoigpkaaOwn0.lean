/- With of both, names: as they are called. -/
import Derived.Test.YtnjmgholoigpkaaREnt
import Derived.Deep.Cut
import Derived.Test.YtnjmgholoigpkaaWith
import Derived.Test.YtnjmgholoigpkaaMake3
/- Plain facts of Enter. -/
namespace Go.Proofs.Ytnjmgholoigpkaa
open Go.RowKit Go.Sort
theorem flo_eq (x y : Int) (hx : 0 ≤ x ∧ x ≤ 5) (hy : 0 ≤ y ∧ y ≤ 5) : flo (max (ot 0 5 x) (ot 0 5 y)) = if x = 0 then 0 else if y = 0 then 0 else if x = 5 then 0 else if y = 5 then 0 else max x y := by
  have hx' : x = 0 ∨ x = 1 ∨ x = 2 ∨ x = 3 ∨ x = 4 ∨ x = 5 := by omega
  have hy' : y = 0 ∨ y = 1 ∨ y = 2 ∨ y = 3 ∨ y = 4 ∨ y = 5 := by omega
  rcases hx' with rfl | rfl | rfl | rfl | rfl | rfl <;> rcases hy' with rfl | rfl | rfl | rfl | rfl | rfl <;> decide
theorem flZ_eq {t g : ML} (ht : OkL t) (hg : OkL g) (c : Int) : flZ t g c = flo (max (ot 0 5 (aM t c)) (ot 0 5 (aM g c))) := by
  rw [flo_eq _ _ (ht.lo c) (hg.lo c)]
  unfold flZ
  rw [aZ_at ht, aZ_at hg]
theorem ent_iff {t g want : ML} (ht : OkL t) (hg : OkL g) (hw : OkL want) : (nmM [t, g, want] ++ [0]).all (entP t g want) = true ↔ ∀ c, flo (max (ot 0 5 (aM t c)) (ot 0 5 (aM g c))) ≤ aM want c := by
  have e : ∀ c, entP t g want c = decide (flo (max (ot 0 5 (aM t c)) (ot 0 5 (aM g c))) ≤ aM want c) := fun c => by
    unfold entP
    rw [flZ_eq ht hg, aZ_at hw]
  rw [all0_iff (fun c hc => ?_)]
  · constructor
    · intro h c; have := h c; rw [e] at this; simpa using this
    · intro h c; rw [e]; simpa using h c
  · rw [e, e]
    have m1 : t ∈ [t, g, want] := List.mem_cons_self ..
    have m2 : g ∈ [t, g, want] := List.mem_cons_of_mem _ (List.mem_cons_self ..)
    have m3 : want ∈ [t, g, want] := List.mem_cons_of_mem _ (List.mem_cons_of_mem _ (List.mem_cons_self ..))
    rw [ht.out (nm_mem m1 hc), hg.out (nm_mem m2 hc), hw.out (nm_mem m3 hc)]
theorem allow_say4' (a b c d : Bool) : allowI [a, b, c, d] = sayI (((a && c) && d) && b) := by cases a <;> cases b <;> cases c <;> cases d <;> rfl
theorem enter_eq {t c g gc want wc : ML} (ht : OkL t) (hc : OkL c) (hg : OkL g) (hgc : OkL gc) (hw : OkL want) (hwc : OkL wc) : enterI t c g gc want wc = renterI t c g gc want wc := by
  have e : undB (fl t g) (gr [want]) (namL [t, g, want]) = (nmM [t, g, want] ++ [0]).all (entP t g want) := by
    rw [Bool.eq_iff_iff, undF_iff ht hg hw, ent_iff ht hg hw]
  unfold enterI renterI
  rw [allow_say4', e, eq1 ht hgc, eq1 hw hwc, eq2 hwc hc hgc]
end Go.Proofs.Ytnjmgholoigpkaa
/- Rows that a statement makes of its own. -/
namespace Go.Proofs.Ytnjmgholoigpkaa
open Go.RowKit Go.Sort
/-- A row of numbers that lies at B or behind. -/
def OwnI (B : Nat) (cs : List Int) (v : Value) (W : World) : Prop := ∃ g cap, v = .slice (some ⟨g, 0, none⟩) cs.length cap ∧ W.ownsRow B 3 1 v cs.length (icells cs)
theorem OwnI.below {B : Nat} {cs : List Int} {v : Value} {W W' : World} (h : OwnI B cs v W) (hb : Below W.heap.size W W') : OwnI B cs v W' := by
  obtain ⟨g, cap, h1, h2⟩ := h
  exact ⟨g, cap, h1, own_belowN h2 hb (Nat.le_refl _)⟩
theorem rNamed_o {B : Nat} {ls : List ML} {v : Value} {W : World} (h : LsV ls v W) (hn : ls.length ≤ 16) (hB : B ≤ W.heap.size) : Calls Try.prog 27 #[v] W fun e W' => ∃ v', e = .returned v' ∧ Below W.heap.size W W' ∧ OwnI B (nmM ls) v' W' := by
  refine (rNamed_c h hn).mono ?_
  rintro e W' ⟨v', rfl, hb, g, cap, rfl, hown⟩
  exact ⟨_, rfl, hb, g, cap, rfl, Joins.ownsRow_le hown hB⟩
/-- A row of one number. -/
def I1V (x : Int) (v : Value) (W : World) : Prop := ∃ g, v = .slice (some ⟨g, 0, none⟩) 1 1 ∧ g < W.heap.size ∧ W.cell? ⟨g, 0, none⟩ = some (.int .i64 x)
theorem I1V.below {x : Int} {v : Value} {W W' : World} (h : I1V x v W) (hb : Below W.heap.size W W') : I1V x v W' := by
  obtain ⟨g, h1, h2, h3⟩ := h
  exact ⟨g, h1, Nat.lt_of_lt_of_le h2 hb.size, (hb.cell (p := ⟨g, 0, none⟩) h2).trans h3⟩
theorem ent_gatehouseref01_Named : Enters 27 := fun args W => by go_simp
theorem ent_gatehouseref01_At : Enters 28 := fun args W => by go_simp
theorem rAt_c' {l : ML} {v u : Value} {W : World} {c : Int} (h : LV l v W) (hu : u = .int .i64 c) : Calls Try.prog 28 #[v, u] W fun e W' => ∃ v', e = .returned v' ∧ Below W.heap.size W W' ∧ v' = .int .i64 (aM l c) := by
  subst hu
  refine (rAt_c h c).mono ?_
  rintro e W' ⟨rfl, hb⟩
  exact ⟨_, rfl, hb, rfl⟩
section
variable {ev : Operand → Value} {W : World} {dst : Option Nat} {ty : TypeId} {pos : String} {af : Array Edge} {gd : Option (Nat × Bool)}
theorem run_int1 {c : Int} {x : Operand} (hx : ev x = .int .i64 c) :
    ∃ v W', (execOp ev { dst := dst, op := .buildSlice 43 1 #[(0, x)], type := ty, pos := pos, after := af, guard := gd }).run Try.prog W = .ok (.value v) W' ∧ Below W.heap.size W W' ∧ I1V c v W' := by
  refine ⟨.slice (some ⟨W.heap.size, 0, none⟩) 1 1, W.alloc (.cells #[.int .i64 c] 3), ?_, ?_, ?_⟩
  · go_simp
  · go_grown
  · exact ⟨W.heap.size, rfl, by simp, by simp [go_sem]⟩
theorem run_neE {a b : Int} {x y : Operand} {t : TypeId} (hx : ev x = .int .i64 a) (hy : ev y = .int .i64 b) :
    (execOp ev { dst := dst, op := .binOp .neq 29 x y t, type := ty, pos := pos, after := af, guard := gd }).run Try.prog W = .ok (.value (.bool (a != b))) W := by
  go_simp
end
/- What Make and Enter say, where they say yes. -/
theorem allow4_0 {a b c d : Bool} (h : allowI [a, b, c, d] = 0) : a = true ∧ b = true ∧ c = true ∧ d = true := by
  revert h; cases a <;> cases b <;> cases c <;> cases d <;> decide
theorem allow2_0 {a b : Bool} (h : allowI [a, b] = 0) : a = true ∧ b = true := by
  revert h; cases a <;> cases b <;> decide
theorem has_at {l : ML} {v c : Int} (h : hasS l.1 l.2 v = false) : aM l c ≠ v := by
  unfold hasS at h
  rw [Bool.or_eq_false_iff, List.any_eq_false] at h
  unfold aM
  rcases at_or (d := l.1) (c := c) l.2 with e | ⟨x, hx, _, e⟩
  · rw [e]; simpa using h.2
  · rw [e]; have := h.1 x hx; simpa using this
theorem free_no0 {l : ML} (h : freeS l.1 l.2 = true) (c : Int) : aM l c ≠ 0 := by
  unfold freeS at h
  rw [Bool.and_eq_true] at h
  exact has_at (by simpa using h.2)
theorem ot_ne {x : Int} (h : x ≠ 0) : ot 0 5 x = x := by unfold ot; rw [if_neg (by simpa using h)]
/-- P7.2 of Make, category by category. -/
theorem make_keeps {t c box l : ML} (ht : OkL t) (hb : OkL box) (hl : OkL l) (hf : freeS l.1 l.2 = true) (h : makeI t c box l = 0) (k : Int) :
    aM t k ≤ aM l k ∧ (aM box k ≤ aM l k ∨ aM box k ≤ 2) ∧ (aM t k = 0 ∨ aM box k = aM t k) := by
  unfold makeI at h
  obtain ⟨h1, h2, h3, h4⟩ := allow4_0 h
  have e1 := (alt_iff ht hb).1 h1 k
  have e2 := (atM1_iff ht hl).1 h2 k
  have e4 := (atM2_iff hb hl.up (ok_one 2 (by decide) (by decide))).1 h4 k
  rw [aM_up hl, ot_ne (free_no0 hf k)] at e4
  have e5 : aM ((2, []) : ML) k = 2 := rfl
  rw [e5] at e4
  refine ⟨e2, by omega, ?_⟩
  by_cases h0 : aM t k = 0
  · exact .inl h0
  · rw [ot_ne h0] at e1; exact .inr (by omega)
end Go.Proofs.Ytnjmgholoigpkaa
/- What With of the reference answers, for every label, category and level. -/
namespace Go.Proofs.Ytnjmgholoigpkaa
open Go.RowKit Go.Sort

set_option maxRecDepth 100000 in
set_option maxHeartbeats 2000000 in
theorem rWith_bad (A : Lab) (cat level : Int) (w : World) (hok : wOk cat level = false) :
    Calls Try.prog 45 #[.agg #[.int .i64 A.d, .slice A.p A.xs.length A.cap], .int .i64 cat, .int .i64 level] w fun e w' => e = .returned (.tuple #[.agg #[.int .i64 0, .slice none 0 0], .int .i64 1]) ∧ Below w.heap.size w w' := by
  have hok' : (isCt cat && lev level) = false := hok
  by_cases h1 : isCt cat = true
  · have h2 : lev level = false := by simpa [h1] using hok'
    go_enter Try.func45, Try.ntmps45
    go_wp2_with (first
      | (go_at_call 44; refine (Cat_any _ _).mono ?_; rintro e w' ⟨rfl, rfl⟩)
      | (go_at_call 56; refine (Level_any _ _).mono ?_; rintro e w' ⟨rfl, rfl⟩))
    refine bodyPost_ret (by simp [results, Try.results45, go_sem]) rfl ⟨rfl, by go_grown⟩
  · have h1' : isCt cat = false := by simpa using h1
    go_enter Try.func45, Try.ntmps45
    go_wp2_with (first
      | (go_at_call 44; refine (Cat_any _ _).mono ?_; rintro e w' ⟨rfl, rfl⟩)
      | (go_at_call 56; refine (Level_any _ _).mono ?_; rintro e w' ⟨rfl, rfl⟩))
    refine bodyPost_ret (by simp [results, Try.results45, go_sem]) rfl ⟨rfl, by go_grown⟩

set_option maxRecDepth 100000 in
set_option maxHeartbeats 2000000 in
theorem rWith_ok (A : Lab) (cat level : Int) (w : World) (hok : wOk cat level = true) (hm : A.xs.length ≤ 1000000) (ha : CatsAt w A.p A.xs) :
    Calls Try.prog 45 #[.agg #[.int .i64 A.d, .slice A.p A.xs.length A.cap], .int .i64 cat, .int .i64 level] w fun e w' => ∃ v, e = .returned (.tuple #[.agg #[.int .i64 (fitD A.d (rwithS A cat level)), v], .int .i64 (fitE (rwithS A cat level))]) ∧ Rw w.heap.size w' v (fitL (rwithS A cat level)) ∧ Below w.heap.size w w' := by
  have ma : A.xs.length ≤ maxLen := by unfold maxLen; omega
  have hok' : isCt cat = true ∧ lev level = true := by simpa [wOk, can] using hok
  obtain ⟨h1, h2⟩ := hok'
  obtain ⟨W0, hW0⟩ : ∃ W0, W0 = ((((w.alloc (.cells #[.int .i64 A.d, .slice A.p A.xs.length A.cap] 24)).alloc (.cells #[.int .i64 0, .slice none 0 0] 24)).alloc (.cells #[.int .i64 A.d, .slice none 0 0] 24)).alloc (.cells #[.int .i64 cat, .int .i64 level] 50)).alloc (.cells #[.int .i64 0, .slice (some ⟨w.heap.size + 1 + 1 + 1, 0, none⟩) 1 1] 24) := ⟨_, rfl⟩
  have hB0 : Below w.heap.size w W0 := by rw [hW0]; go_grown
  have hs0 : W0.heap.size = w.heap.size + 1 + 1 + 1 + 1 + 1 := by rw [hW0]; simp
  have a0 : W0.cell? ⟨w.heap.size, 0, none⟩ = some (.int .i64 A.d) := by rw [hW0]; simp [go_sem]
  have a1 : W0.cell? ⟨w.heap.size, 1, none⟩ = some (.slice A.p A.xs.length A.cap) := by rw [hW0]; simp [go_sem]
  have c0 : W0.cell? ⟨w.heap.size + 1, 0, none⟩ = some (.int .i64 0) := by rw [hW0]; simp [go_sem]
  have c1 : W0.cell? ⟨w.heap.size + 1, 1, none⟩ = some (.slice none 0 0) := by rw [hW0]; simp [go_sem]
  have o0 : W0.cell? ⟨w.heap.size + 1 + 1, 0, none⟩ = some (.int .i64 A.d) := by rw [hW0]; simp [go_sem]
  have o1 : W0.cell? ⟨w.heap.size + 1 + 1, 1, none⟩ = some (.slice none 0 0) := by rw [hW0]; simp [go_sem]
  have n0 : W0.cell? ⟨w.heap.size + 1 + 1 + 1, 0, none⟩ = some (.int .i64 cat) := by rw [hW0]; simp [go_sem]
  have n1 : W0.cell? ⟨w.heap.size + 1 + 1 + 1, 1, none⟩ = some (.int .i64 level) := by rw [hW0]; simp [go_sem]
  have cf : ∀ o, W0.frozen? ⟨w.heap.size + 1, o, none⟩ = false := fun o => by rw [hW0]; simp [go_sem]
  have of : ∀ o, W0.frozen? ⟨w.heap.size + 1 + 1, o, none⟩ = false := fun o => by rw [hW0]; simp [go_sem]
  have hbA : Below W0.heap.size W0 (W0.alloc (.cells #[.int .i64 A.d, .slice A.p A.xs.length A.cap, .int .i64 0, .slice (some ⟨w.heap.size + 1 + 1 + 1, 0, none⟩) 1 1] 24)) := by go_grown
  have hbA' := hB0.trans (hbA.mono hB0.size)
  have hone : CatsAt W0 (some ⟨w.heap.size + 1 + 1 + 1, 0, none⟩) [(cat, level)] := fun j hj => by
    obtain rfl : j = 0 := by simpa using hj
    exact ⟨_, 0, rfl, by omega, n0, n1⟩
  have hN := Named_any W0.heap.size [A, ⟨0, some ⟨w.heap.size + 1 + 1 + 1, 0, none⟩, 1, [(cat, level)]⟩] _ (by simp) (by simp) (by simp [total]; omega) (labs2 (B := ⟨0, some ⟨w.heap.size + 1 + 1 + 1, 0, none⟩, 1, [(cat, level)]⟩) (World.alloc_heap_new W0 (.cells #[.int .i64 A.d, .slice A.p A.xs.length A.cap, .int .i64 0, .slice (some ⟨w.heap.size + 1 + 1 + 1, 0, none⟩) 1 1] 24)) ⟨ha.below hbA', ma⟩ ⟨hone.below hbA, by simp [maxLen]⟩)
  have hnm : namedS [A, ⟨0, some ⟨w.heap.size + 1 + 1 + 1, 0, none⟩, 1, [(cat, level)]⟩] = namedS [A, oneL cat level] := rfl
  simp only [List.length_cons, List.length_nil, Nat.zero_add, Nat.reduceAdd] at hN
  rw [hnm, hs0, hW0] at hN
  have hlen : (namedS [A, oneL cat level]).length ≤ 1000001 := by
    have := named_len [A, oneL cat level] 2
    simp [total, oneL] at this; simp [oneL]; omega
  have HD : Hid (rwithS A cat level = shortS A.d (rowS (withF A cat level) (namedS [A, oneL cat level]))) := rfl
  obtain ⟨zz, hzz⟩ : ∃ zz, zz = rwithS A cat level := ⟨_, rfl⟩
  rw [← hzz] at HD ⊢
  clear hzz hone
  go_enter Try.func45, Try.ntmps45
  go_wp2_with (first
    | (go_at_call 44; refine (Cat_any _ _).mono ?_; rintro e w' ⟨rfl, rfl⟩)
    | (go_at_call 56; refine (Level_any _ _).mono ?_; rintro e w' ⟨rfl, rfl⟩)
    | (go_at_call 27; refine hN.mono ?_; rintro e w1 ⟨g, cap, rfl, hown, hb1⟩; refine Hid.out ?_))
  refine Lib.hid ?_
  rw [← hW0] at hown hb1
  have hb01 : Below W0.heap.size W0 w1 := hbA.trans (hb1.mono hbA.size)
  have hcell : ∀ k, (h : k < (namedS [A, oneL cat level]).length) → w1.cell? ⟨g, k, none⟩ = some (.int .i64 (namedS [A, oneL cat level])[k]) := fun k h => by
    rw [hown.cellAt k (by omega)]; simp [icells, h]
  have hg := hown.lt g rfl
  have hncap : (namedS [A, oneL cat level]).length ≤ cap := by
    rcases hown.2 with ⟨h, _⟩ | ⟨_, _, _, h, _, _, h3, _⟩
    · cases h
    · cases h; exact h3
  have HCELL : Hid (∀ k, (h : k < (namedS [A, oneL cat level]).length) → w1.cell? ⟨g, k, none⟩ = some (.int .i64 (namedS [A, oneL cat level])[k])) := hcell
  have hg1 : w.heap.size + 1 + 1 + 1 + 1 + 1 ≤ g := by have := hg.1; simp at this; omega
  have hg2 := hg.2
  clear hN hown hb1 hcell hW0 hbA hbA' hg hnm n0 n1
  obtain ⟨cs, hcs⟩ : ∃ cs, cs = namedS [A, oneL cat level] := ⟨_, rfl⟩
  rw [← hcs] at HCELL HD hlen hncap ⊢
  clear hcs
  have hB1 : Below w.heap.size w w1 := hB0.trans (hb01.mono hB0.size)
  have hz1 : w.heap.size + 1 + 1 + 1 + 1 + 1 ≤ w1.heap.size := by have := hb01.size; omega
  have c0' := (hb01.cell (p := ⟨w.heap.size + 1, 0, none⟩) (by simp; omega)).trans c0
  have c1' := (hb01.cell (p := ⟨w.heap.size + 1, 1, none⟩) (by simp; omega)).trans c1
  have o0' := (hb01.cell (p := ⟨w.heap.size + 1 + 1, 0, none⟩) (by simp; omega)).trans o0
  have o1' := (hb01.cell (p := ⟨w.heap.size + 1 + 1, 1, none⟩) (by simp; omega)).trans o1
  have cf' : ∀ o, w1.frozen? ⟨w.heap.size + 1, o, none⟩ = false := fun o => (hb01.frozen (p := ⟨w.heap.size + 1, o, none⟩) (by simp; omega)).trans (cf o)
  have of' : ∀ o, w1.frozen? ⟨w.heap.size + 1 + 1, o, none⟩ = false := fun o => (hb01.frozen (p := ⟨w.heap.size + 1 + 1, o, none⟩) (by simp; omega)).trans (of o)
  have a0' := (hb01.cell (p := ⟨w.heap.size, 0, none⟩) (by simp; omega)).trans a0
  have a1' := (hb01.cell (p := ⟨w.heap.size, 1, none⟩) (by simp; omega)).trans a1
  clear hb01 hB0 hs0 a0 a1 c0 c1 o0 o1 cf of
  go_wp2
  go_loopw [34] (fun i wr => ∃ (k : Nat) (v : Value), k ≤ cs.length ∧ i = .int .i64 k ∧ Rw w1.heap.size wr v (shortS A.d (rowS (withF A cat level) (cs.take k))) ∧ wr.cell? ⟨w.heap.size + 1 + 1, 0, none⟩ = some (.int .i64 A.d) ∧ wr.cell? ⟨w.heap.size + 1 + 1, 1, none⟩ = some v ∧ (∀ o, wr.frozen? ⟨w.heap.size + 1 + 1, o, none⟩ = false) ∧ Kp (w.heap.size + 1 + 1) w1 wr) (fun i _ => cs.length - (intOf i).toNat)
  case atStart => exact ⟨0, .slice none 0 0, Nat.zero_le _, rfl, .inl ⟨rfl, rfl⟩, o0', o1', of', Kp.refl _ _⟩
  case round =>
    obtain ⟨k, v, hk, rfl, hR, r0, r1, rf, hK⟩ := hrel
    have hzw : w.heap.size + 1 + 1 + 1 + 1 + 1 ≤ wr.heap.size := by have := hK.size; omega
    have p0 := (hK.cell (p := ⟨w.heap.size, 0, none⟩) (by simp; omega) (by simp <;> omega)).trans a0'
    have p1 := (hK.cell (p := ⟨w.heap.size, 1, none⟩) (by simp; omega) (by simp <;> omega)).trans a1'
    have hBw : Below w.heap.size w wr := hB1.trans (hK.below (by omega) (by omega))
    by_cases hlt : k < cs.length
    · have hx : wr.cell? ⟨g, k, none⟩ = some (.int .i64 cs[k]) := (hK.cell (p := ⟨g, k, none⟩) hg2 (by simp; omega)).trans (HCELL.out k hlt)
      have HS : Hid (shortS A.d (rowS (withF A cat level) (cs.take (k + 1))) = putS A.d (shortS A.d (rowS (withF A cat level) (cs.take k))) cs[k] (withF A cat level cs[k])) := row_put _ _ cs k hlt
      have hle : (shortS A.d (rowS (withF A cat level) (cs.take k))).length ≤ k := by
        refine Nat.le_trans (short_le _ _) ?_
        rw [row_len]; exact List.length_take_le _ _
      have hki : (k : Int) < (cs.length : Int) := by omega
      have HA : Hid (∀ W, Below wr.heap.size wr W → CatsAt W A.p A.xs) := fun W h => (ha.below hBw).below h
      obtain ⟨pv, cv, rfl, hcv, hlv⟩ := hR.out
      clear ha hcv
      obtain ⟨zs, hzs⟩ : ∃ zs, zs = shortS A.d (rowS (withF A cat level) (cs.take k)) := ⟨_, rfl⟩
      rw [← hzs] at hR HS hle r1 hlv
      have HR : Hid (∀ W, Below wr.heap.size wr W → Rw w1.heap.size W (.slice pv zs.length cv) zs) := fun W h => hR.below h
      have s0 : ∀ n os, (gx wr n os).cell? ⟨w.heap.size, 0, none⟩ = some (.int .i64 A.d) := fun n os => cell_gx (a := ⟨w.heap.size, 0, none⟩) (by simp; omega) p0 n os
      have s1 : ∀ n os, (gx wr n os).cell? ⟨w.heap.size, 1, none⟩ = some (.slice A.p A.xs.length A.cap) := fun n os => cell_gx (a := ⟨w.heap.size, 1, none⟩) (by simp; omega) p1 n os
      have u0 : ∀ n os, (gx wr n os).cell? ⟨w.heap.size + 1 + 1, 0, none⟩ = some (.int .i64 A.d) := fun n os => cell_gx (a := ⟨w.heap.size + 1 + 1, 0, none⟩) (by simp; omega) r0 n os
      have u1 : ∀ n os, (gx wr n os).cell? ⟨w.heap.size + 1 + 1, 1, none⟩ = some (.slice pv zs.length cv) := fun n os => cell_gx (a := ⟨w.heap.size + 1 + 1, 1, none⟩) (by simp; omega) r1 n os
      have HK := Lib.hid hK
      clear hR hzs hK
      by_cases hv : (cs[k] == cat) = true
      · have hmv : withF A cat level cs[k] = level := by unfold withF; rw [if_pos hv]
        rw [hmv] at HS
        have HP : Hid (∀ W, Below wr.heap.size wr W → Calls Try.prog 50 #[.agg #[.int .i64 A.d, .slice pv zs.length cv], .int .i64 cs[k], .int .i64 level] W fun e w' => ∃ v', e = .returned (.agg #[.int .i64 A.d, v']) ∧ Rw w1.heap.size w' v' (putS A.d zs cs[k] level) ∧ Below W.heap.size W w') := fun W h => Put_any w1.heap.size A.d cs[k] level (.slice pv zs.length cv) zs W (by omega) (Nat.le_trans HK.out.size h.size) (HR.out W h)
        clear hmv
        go_wp2_with (go_at_call 50; refine Calls.mono (HP.out _ (Below.refl _ _)) ?_; rintro e w5 ⟨v5, rfl, hR5, hb5⟩; refine Hid.out ?_)
        refine Lib.hid ?_
        obtain ⟨p5, c5, rfl, hc5, hl5⟩ := hR5.out
        have hk5 := HK.out.on hb5
        have y0 := (hb5.cell (p := ⟨w.heap.size + 1 + 1, 0, none⟩) (by simp; omega)).trans r0
        have y1 := (hb5.cell (p := ⟨w.heap.size + 1 + 1, 1, none⟩) (by simp; omega)).trans r1
        have yf : ∀ o, w5.frozen? ⟨w.heap.size + 1 + 1, o, none⟩ = false := fun o => (hb5.frozen (p := ⟨w.heap.size + 1 + 1, o, none⟩) (by simp; omega)).trans (rf o)
        clear hb5 hc5 s0 s1 u0 u1 HR HA HP
        go_wp2
        go_roundw
        case rel =>
          refine ⟨k + 1, _, by omega, by go_num, by rw [HS.out]; exact Rw.set (Rw.set hR5 (by simp; omega) _) (by simp; omega) _, by simp [go_sem, y0], World.cell?_setCell_same' _ _ _ (by simp [go_sem, y1]), fun o => by rw [World.frozen?_setCell, World.frozen?_setCell]; exact yf o, (hk5.set _ _).set _ _⟩
        case measure => simp [intOf]; omega
      · have hv' : (cs[k] == cat) = false := by simpa using hv
        have hmv : withF A cat level cs[k] = atS A.d A.xs cs[k] := by unfold withF; rw [if_neg hv]
        rw [hmv] at HS
        have HP : Hid (∀ W, Below wr.heap.size wr W → Calls Try.prog 50 #[.agg #[.int .i64 A.d, .slice pv zs.length cv], .int .i64 cs[k], .int .i64 (atS A.d A.xs cs[k])] W fun e w' => ∃ v', e = .returned (.agg #[.int .i64 A.d, v']) ∧ Rw w1.heap.size w' v' (putS A.d zs cs[k] (atS A.d A.xs cs[k])) ∧ Below W.heap.size W w') := fun W h => Put_any w1.heap.size A.d cs[k] (atS A.d A.xs cs[k]) (.slice pv zs.length cv) zs W (by omega) (Nat.le_trans HK.out.size h.size) (HR.out W h)
        clear hmv
        go_wp2
        refine wp_region_tail_gx 5 (by kernel_rfl) (by kernel_rfl) ?_
        simp only [List.take_succ_cons, List.take_zero, List.drop_succ_cons, List.drop_zero]
        repeat (quiet_step (first
          | (go_at_call 28; with_reducible exact calls_gx (refAt_any A.d cs[k] A.p A.cap A.xs _ ma (HA.out _ (gx_below _ _ _))))))
        refine wpQuiet_nil ?_
        intro _ hw'
        obtain ⟨⟨nq, osq⟩, hw''⟩ := hw'
        subst hw''
        go_wp2_with (go_at_call 50; refine Calls.mono (HP.out _ (gx_below _ _ _)) ?_; rintro e w5 ⟨v5, rfl, hR5, hb5⟩; refine Hid.out ?_)
        refine Lib.hid ?_
        obtain ⟨p5, c5, rfl, hc5, hl5⟩ := hR5.out
        have hk5 := bel_put HK.out hb5
        obtain ⟨y0, y1, yf⟩ := out_kept (o0 := r0) (o1 := r1) (of := rf) hb5 (by omega)
        clear hb5 hc5 s0 s1 u0 u1 HR HA HP
        go_wp2
        go_roundw
        case rel =>
          refine ⟨k + 1, _, by omega, by go_num, by rw [HS.out]; exact Rw.set (Rw.set hR5 (by simp; omega) _) (by simp; omega) _, by simp [go_sem, y0], World.cell?_setCell_same' _ _ _ (by simp [go_sem, y1]), fun o => by rw [World.frozen?_setCell, World.frozen?_setCell]; exact yf o, (hk5.set _ _).set _ _⟩
        case measure => simp [intOf]; omega
    · have hk' : cs.take k = cs := List.take_of_length_le (by omega)
      rw [hk', ← HD.out] at hR
      have hC := Cut_any w1.heap.size A.d v zz wr hR
      obtain ⟨pv, cv, rfl, hcv, hlv⟩ := hR.out
      clear hk' ha hcv
      have x0 := (hK.cell (p := ⟨w.heap.size + 1, 0, none⟩) (by simp; omega) (by simp)).trans c0'
      have x1 := (hK.cell (p := ⟨w.heap.size + 1, 1, none⟩) (by simp; omega) (by simp)).trans c1'
      have xf : ∀ o, wr.frozen? ⟨w.heap.size + 1, o, none⟩ = false := fun o => (hK.frozen (p := ⟨w.heap.size + 1, o, none⟩) (by simp; omega) (by simp)).trans (cf' o)
      clear p0 p1
      go_wp2_with (go_at_call 67; refine hC.mono ?_; rintro e w5 ⟨v5, rfl, hR5, hb5⟩; refine Hid.out ?_)
      refine Lib.hid ?_
      obtain ⟨p5, c5, rfl, hc5, hl5⟩ := hR5.out
      have y0 := (hb5.cell (p := ⟨w.heap.size + 1, 0, none⟩) (by simp; omega)).trans x0
      have y1 := (hb5.cell (p := ⟨w.heap.size + 1, 1, none⟩) (by simp; omega)).trans x1
      have yf : ∀ o, w5.frozen? ⟨w.heap.size + 1, o, none⟩ = false := fun o => (hb5.frozen (p := ⟨w.heap.size + 1, o, none⟩) (by simp; omega)).trans (xf o)
      clear hC hc5 x0 x1 xf
      go_wp2
      refine bodyPost_ret (by simp [results, Try.results45, go_sem, y0, y1]; rfl) rfl ⟨_, rfl, ?_, ?_⟩
      · exact Rw.mono (Rw.set (Rw.set hR5 (by simp; omega) _) (by simp; omega) _) (by omega)
      · exact ((hBw.trans (hb5.mono hBw.size)).setCell (p := ⟨w.heap.size + 1, 0, none⟩) (by simp) _).setCell (p := ⟨w.heap.size + 1, 1, none⟩) (by simp) _

theorem rWith_any (A : Lab) (cat level : Int) (w : World) (hm : A.xs.length ≤ 1000000) (ha : CatsAt w A.p A.xs) :
    Calls Try.prog 45 #[.agg #[.int .i64 A.d, .slice A.p A.xs.length A.cap], .int .i64 cat, .int .i64 level] w fun e w' => ∃ v, e = .returned (.tuple #[.agg #[.int .i64 (wD A cat level), v], .int .i64 (wE A cat level)]) ∧ Rw w.heap.size w' v (wL A cat level) ∧ Below w.heap.size w w' := by
  by_cases h : wOk cat level = true
  · refine (rWith_ok A cat level w h hm ha).mono ?_
    rintro e w' ⟨v, rfl, hR, hb⟩
    exact ⟨v, by simp [wD, wE, h], by simp only [wL, h, if_true]; exact hR, hb⟩
  · refine (rWith_bad A cat level w (by simpa using h)).mono ?_
    rintro e w' ⟨rfl, hb⟩
    exact ⟨.slice none 0 0, by simp [wD, wE, h], by simp only [wL, h]; exact .inl ⟨rfl, rfl⟩, hb⟩
end Go.Proofs.Ytnjmgholoigpkaa
namespace Go.Proofs.Ytnjmgholoigpkaa
open Go.RowKit Go.Sort
/-- A label whose row lies at B or behind. -/
def RV (B : Nat) (l : ML) (v : Value) (W : World) : Prop := ∃ s, v = .agg #[.int .i64 l.1, s] ∧ Rw B W s l.2
theorem RV.below {B : Nat} {l : ML} {v : Value} {W W' : World} (h : RV B l v W) (hb : Below W.heap.size W W') : RV B l v W' := by
  obtain ⟨s, h1, h2⟩ := h
  exact ⟨s, h1, h2.below hb⟩
theorem RV.set {B : Nat} {l : ML} {v : Value} {W : World} (h : RV B l v W) {a : Addr} (ha : a.block < B) (u : Value) : RV B l v (W.setCell a u) := by
  obtain ⟨s, h1, h2⟩ := h
  exact ⟨s, h1, h2.set ha u⟩
theorem RV.mono {B B' : Nat} {l : ML} {v : Value} {W : World} (h : RV B l v W) (hB : B' ≤ B) : RV B' l v W := by
  obtain ⟨s, h1, h2⟩ := h
  exact ⟨s, h1, h2.mono hB⟩
theorem RV.zero (B : Nat) (W : World) : RV B (0, []) (.agg #[.int .i64 0, .slice none 0 0]) W := ⟨_, rfl, .inl ⟨rfl, rfl⟩⟩
theorem RV.form {B : Nat} {l : ML} {v : Value} {W : World} (h : RV B l v W) : ∃ p cap, v = .agg #[.int .i64 l.1, .slice p l.2.length cap] ∧ CatsAt W p l.2 ∧ l.2.length ≤ cap := by
  obtain ⟨s, rfl, hR⟩ := h
  obtain ⟨p, cap, rfl, h1, h2⟩ := hR.out
  exact ⟨p, cap, rfl, h1, h2⟩
def labM (l : ML) : Lab := ⟨l.1, none, 0, l.2⟩
def wM (l : ML) (cat lv : Int) : ML := (wD (labM l) cat lv, wL (labM l) cat lv)
def wX (l : ML) (cat lv : Int) : Int := wE (labM l) cat lv
theorem rOk_can {d : Int} : ∀ {l : Int} {xs : List (Int × Int)}, rOk d l xs = true → ∀ x ∈ xs, can x = true
  | _, [], _, x, hx => by simp at hx
  | l, y :: xs, h, x, hx => by
    simp only [rOk, Bool.and_eq_true] at h
    rcases List.mem_cons.1 hx with rfl | hx
    · exact h.1.1.1
    · exact rOk_can h.2 x hx
theorem right_can {l : ML} (h : rightM l = true) : ∀ x ∈ l.2, can x = true := by
  unfold rightM rightS at h
  rw [Bool.and_eq_true] at h
  exact rOk_can h.2
theorem With_c {l : ML} {v : Value} {W : World} (h : LV l v W) (hr : rightM l = true) (cat lv : Int) : Calls Try.prog 43 #[v, .int .i64 cat, .int .i64 lv] W fun e W' => ∃ x, e = .returned (.tuple #[x, .int .i64 (wX l cat lv)]) ∧ Below W.heap.size W W' ∧ RV W.heap.size (wM l cat lv) x W' := by
  obtain ⟨p, cap, rfl, h1, h2, h3⟩ := h
  refine (With_any ⟨l.1, p, cap, l.2⟩ cat lv W hr (right_can hr) h1).mono ?_
  rintro e W' ⟨v, rfl, hR, hb⟩
  exact ⟨_, rfl, hb, v, rfl, hR⟩
theorem rWith_c {l : ML} {v : Value} {W : World} (h : LV l v W) (cat lv : Int) : Calls Try.prog 45 #[v, .int .i64 cat, .int .i64 lv] W fun e W' => ∃ x, e = .returned (.tuple #[x, .int .i64 (wX l cat lv)]) ∧ Below W.heap.size W W' ∧ RV W.heap.size (wM l cat lv) x W' := by
  obtain ⟨p, cap, rfl, h1, h2, h3⟩ := h
  refine (rWith_any ⟨l.1, p, cap, l.2⟩ cat lv W (by show l.2.length ≤ _; omega) h1).mono ?_
  rintro e W' ⟨v, rfl, hR, hb⟩
  exact ⟨_, rfl, hb, v, rfl, hR⟩
theorem wM_len (l : ML) (cat lv : Int) : (wM l cat lv).2.length ≤ 16 := by
  show (wL (labM l) cat lv).length ≤ 16
  unfold wL
  split
  · unfold fitL; split <;> simp_all
  · simp
set_option maxRecDepth 100000 in
set_option maxHeartbeats 1000000 in
theorem IndexI_c {cs : List Int} {v : Value} {w : World} (h : IV cs v w) (x : Int) (hn : cs.length < 1000000) :
    Calls Try.prog 89 #[v, .int .i64 x] w fun e w' => e = .returned (.int .i64 (idxP (fun y => x == y) cs 0)) ∧ w' = w := by
  obtain ⟨p, cap, rfl⟩ := h.form
  have HI := Lib.hid h
  clear h
  go_enter Try.func89, Try.ntmps89
  go_wp2_with fail
  go_loopw [8] (fun y wr => ∃ k : Nat, y = .int .i64 k ∧ k ≤ cs.length ∧ idxP (fun y => x == y) cs 0 = idxP (fun y => x == y) (cs.drop k) k ∧ w = wr) (fun y _ => (cs.length - (RowKit.intOf y).toNat))
  case atStart => exact ⟨0, rfl, Nat.zero_le _, by simp, rfl⟩
  case round =>
    obtain ⟨k, rfl, hk, hx, rfl⟩ := hrel
    have HX := Lib.hid hx
    clear hx
    by_cases hlt : k < cs.length
    · have hki : (k : Int) < (cs.length : Int) := by omega
      obtain ⟨g, rfl, hg, c0⟩ := iv_cell HI.out k hlt
      have HST := Lib.hid (idxP_step (fun y => x == y) cs k hlt)
      by_cases he : (x == cs[k]) = true
      · go_wp2
        go_ret
        exact ⟨by rw [HX.out, HST.out, if_pos he]; rfl, rfl⟩
      · have he' : (x == cs[k]) = false := by simpa using he
        go_wp2
        go_roundw
        case rel => exact ⟨k + 1, by go_num, by omega, by rw [HX.out, HST.out, if_neg he], trivial⟩
        case measure => simp [RowKit.intOf]; omega
    · obtain rfl : k = cs.length := by omega
      have hkk : ¬ (cs.length : Int) < (cs.length : Int) := by omega
      go_wp2
      go_ret
      exact ⟨by rw [HX.out, List.drop_length]; rfl, rfl⟩
theorem ContainsI_c {cs : List Int} {v : Value} {w : World} (h : IV cs v w) (x : Int) (hn : cs.length < 1000000) :
    Calls Try.prog 66 #[v, .int .i64 x] w fun e w' => e = .returned (.bool (cs.any fun y => x == y)) ∧ w' = w := by
  have H := Lib.hid (IndexI_c h x hn)
  obtain ⟨p, cap, rfl⟩ := h.form
  have hd := Lib.hid (idxP_any (fun y => x == y) cs 0)
  clear h
  go_enter Try.func66, Try.ntmps66
  go_wp2_with (go_at_call 89; refine H.out.mono ?_; rintro e w1 ⟨rfl, hw1⟩; rw [hw1]; clear hw1 w1)
  go_ret
  exact ⟨by show Ending.returned (Value.bool (decide _)) = _; rw [hd.out], rfl⟩
def nmB (l : ML) (cat : Int) : Bool := (namL [l]).any fun y => cat == y
set_option maxRecDepth 100000 in
theorem names_c {l : ML} {v u : Value} {w : World} {cat : Int} (h : LV l v w) (hu : u = .int .i64 cat) : Calls Try.prog 42 #[v, u] w fun e w' => ∃ v', e = .returned v' ∧ Below w.heap.size w w' ∧ v' = .bool (nmB l cat) := by
  subst hu
  obtain ⟨p, cap, rfl, h1, h2, h3⟩ := id h
  have hA : Below w.heap.size w (w.alloc (.cells #[.int .i64 l.1, .slice p l.2.length cap] 24)) := by go_grown
  have hlen : (namL [l]).length < 1000000 := by
    have := namL_len [l] (fun x hx => by simp at hx; subst hx; exact h3)
    simp at this; omega
  have hL : LsV [l] (.slice (some ⟨w.heap.size + 1, 0, none⟩) 1 1) ((w.alloc (.cells #[.int .i64 l.1, .slice p l.2.length cap] 24)).alloc (.cells #[.int .i64 l.1, .slice p l.2.length cap] 24)) :=
    ⟨_, rfl, by simp, fun j hj => by
      obtain rfl : j = 0 := by simp at hj; omega
      exact ⟨p, cap, by simp, by simp [go_sem], by simp [go_sem], h1.below (by go_grown), h2, h3⟩⟩
  have HN := Lib.hid (named_c hL (by simp))
  have hA2 : Below w.heap.size w ((w.alloc (.cells #[.int .i64 l.1, .slice p l.2.length cap] 24)).alloc (.cells #[.int .i64 l.1, .slice p l.2.length cap] 24)) := by go_grown
  clear hL h1 h
  go_enter Try.func42, Try.ntmps42
  go_wp2_with (first
    | (go_at_call 47; refine HN.out.mono ?_; rintro e w1 ⟨v1, rfl, hb1, hI⟩; have HC := Lib.hid (ContainsI_c hI cat hlen); obtain ⟨p1, c1, rfl⟩ := hI.form; clear hI)
    | (go_at_call 66; refine HC.out.mono ?_; rintro e w2 ⟨rfl, hw2⟩; rw [hw2]; clear hw2 w2))
  go_ret
  exact ⟨_, rfl, hA2.trans (hb1.mono (by simp <;> omega)), rfl⟩
end Go.Proofs.Ytnjmgholoigpkaa
