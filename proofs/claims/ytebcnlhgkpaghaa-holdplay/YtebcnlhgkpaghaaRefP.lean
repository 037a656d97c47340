/- What put of the reference does. -/
import Derived.Test.YtebcnlhgkpaghaaRefW
namespace Go.Proofs.Ytebcnlhgkpaghaa
open Go.RowKit Go.Sort
/-- A row of numbers that the call has made. -/
def OI (B : Nat) (l : List Int) (v : Value) (X : World) : Prop := X.ownsRow B 3 1 v l.length (ivs l)
theorem OI.below {B : Nat} {l : List Int} {v : Value} {X X' : World} (h : OI B l v X) (hb : Below X.heap.size X X') : OI B l v X' := row_same h (fun k hk => hb.block k (h.lt k hk).2)
def One1 (B : Nat) (x : Int) (v : Value) (X : World) : Prop := ∃ b, v = .slice (some ⟨b, 0, none⟩) 1 1 ∧ B ≤ b ∧ X.heap[b]? = some (.cells #[.int .i64 x] 3 (0, 0))
theorem One1.below {B : Nat} {x : Int} {v : Value} {X X' : World} (h : One1 B x v X) (hb : Below X.heap.size X X') : One1 B x v X' := by
  obtain ⟨b, h1, h2, h3⟩ := h
  exact ⟨b, h1, h2, (hb.block b (heap_lt h3)).trans h3⟩
theorem One1.src {B : Nat} {x : Int} {v : Value} {X : World} (h : One1 B x v X) : ∃ q, v = .slice q [x].length 1 ∧ SrcI X q [x] := by
  obtain ⟨b, h1, h2, h3⟩ := h
  refine ⟨_, h1, .inr ⟨_, rfl, fun j u hu => ?_⟩⟩
  have hj : j = 0 := by have := (List.getElem?_eq_some_iff.1 hu).1; simp [ivs] at this; exact this
  subst hj
  simp [ivs] at hu
  subst hu
  simp [World.cell?, Addr.add, h3]
set_option maxRecDepth 100000 in
set_option maxHeartbeats 4000000 in
theorem rput_any {w : World} {rb g cap : Nat} {cs : Array Value} {root : Int} {L : List Th} {F : Nat → Prop} (h : RS w rb g cap cs root L F) (ix : Nat) (hi : ix < L.length) (id : Int) (hle : L[ix].ents.length < 900000) :
    Calls Try.prog 53 #[.pointer (some ⟨rb, 0, none⟩), .int .i64 ix, .int .i64 id] w fun e w' => (∃ v, e = .returned v) ∧ ∃ p c cs', RS w' rb g cap cs' root (L.set ix { L[ix] with lp := p, lc := c, ents := L[ix].ents ++ [id] }) F ∧ Fm w w' (fun k => k = rb ∨ k = g) (fun k => k = rb ∨ k = g) := by
  have cW : ∀ X, Below w.heap.size w X → X.cell? ⟨rb, 1, none⟩ = some (.slice (some ⟨g, 0, none⟩) L.length cap) ∧ X.cell? ⟨g, ix * 6 + 5, none⟩ = some (.slice L[ix].lp L[ix].ents.length L[ix].lc) := fun X hX => ⟨(h.below hX).hd.2, ((h.below hX).six hi).2.2.2.2.2⟩
  have hS : Hid (∀ X, Below w.heap.size w X → SrcI X L[ix].lp L[ix].ents) := fun X hX => SrcI.of ((h.below hX).cat _ (List.getElem_mem hi)).2
  have hl := h.lim.1
  have hle' := h.le
  have hii : (ix : Int) < (L.length : Int) := by omega
  have HH := Lib.hid h
  obtain ⟨tl, htl⟩ : ∃ tl, L[ix].lp = tl := ⟨_, rfl⟩
  obtain ⟨tn, htn⟩ : ∃ tn, L[ix].ents = tn := ⟨_, rfl⟩
  obtain ⟨tc, htc⟩ : ∃ tc, L[ix].lc = tc := ⟨_, rfl⟩
  rw [htl, htn, htc] at cW
  rw [htl, htn] at hS
  rw [htn] at hle
  clear h
  go_enter Try.func53, Try.ntmps53
  refine wp_region_monoC 6 20 17 (fun X => Below w.heap.size w X) (fun bq kq uq Xq => match kq with | 6 => uq = .pointer (some ⟨rb, 0, none⟩) | 7 => uq = .pointer (some ⟨rb, 0, none⟩) | 8 => uq = .pointer (some ⟨rb, 1, none⟩) | 9 => uq = .slice (some ⟨g, 0, none⟩) L.length cap | 10 => uq = .int .i64 ix | 11 => (bq = false → EI w.heap.size (uq) Xq) | 12 => uq = .pointer (some ⟨rb, 0, none⟩) | 13 => uq = .pointer (some ⟨rb, 0, none⟩) | 14 => uq = .pointer (some ⟨rb, 1, none⟩) | 15 => uq = .slice (some ⟨g, 0, none⟩) L.length cap | 16 => uq = .int .i64 ix | 17 => uq = .pointer (some ⟨g, ix * 6, none⟩) | 18 => uq = .pointer (some ⟨g, ix * 6 + 5, none⟩) | 19 => uq = .slice tl tn.length tc | 20 => (bq = false → OI w.heap.size tn (uq) Xq) | 21 => uq = .int .i64 id | 22 => (bq = false → One1 w.heap.size id (uq) Xq) | 23 => OI w.heap.size (tn ++ [id]) (uq) Xq | 24 => uq = .pointer (some ⟨g, ix * 6, none⟩) | 25 => uq = .pointer (some ⟨g, ix * 6 + 5, none⟩) | _ => True) (by kernel_rfl) (by kernel_rfl) (by kernel_rfl) (by kernel_rfl) (by simp) (by kernel_rfl) (by decide) (fun _ _ h k => h.trans (k.mono h.size)) ((Below.refl _ _).drew) ?_ ?_ ?_
  · intro bq kq v W W' h hb
    revert h
    try dsimp only
    split
    · intro h; exact h
    · intro h; exact h
    · intro h; exact h
    · intro h; exact h
    · intro h; exact h
    · intro h; exact fun eb => (fun h => EI.below h hb) (h eb)
    · intro h; exact h
    · intro h; exact h
    · intro h; exact h
    · intro h; exact h
    · intro h; exact h
    · intro h; exact h
    · intro h; exact h
    · intro h; exact h
    · intro h; exact fun eb => (fun h => OI.below h hb) (h eb)
    · intro h; exact h
    · intro h; exact fun eb => (fun h => One1.below h hb) (h eb)
    · intro h; exact OI.below h hb
    · intro h; exact h
    · intro h; exact h
    · intro h; trivial
  · intro a' X b hB hs hk i o d ho hd hbc hG
    match i, ho with
    | 0, ho =>
      obtain rfl : _ = o := Option.some.inj ho
      obtain rfl : 6 = d := Option.some.inj hd
      have g0 : a'.eval (.tmp 0) = .pointer (some ⟨rb, 0, none⟩) := hk 0 (by kernel_rfl)
      obtain ⟨ev, hev⟩ : ∃ ev, a'.eval = ev := ⟨_, rfl⟩
      rw [hev] at g0 ⊢
      clear hev hG hk hbc
      obtain ⟨c1, c2⟩ := cW X hB
      exact .inr ⟨rfl, .inl ⟨.pointer (some ⟨rb, 0, none⟩), X, by clear hs; go_simp, .inl ⟨by decide, Below.refl _ _, rfl⟩⟩⟩
    | 1, ho =>
      obtain rfl : _ = o := Option.some.inj ho
      obtain rfl : 7 = d := Option.some.inj hd
      have g6 : a'.eval (.tmp 6) = .pointer (some ⟨rb, 0, none⟩) := hG ⟨0, .data⟩ (by simp) rfl 6 rfl
      obtain ⟨ev, hev⟩ : ∃ ev, a'.eval = ev := ⟨_, rfl⟩
      rw [hev] at g6 ⊢
      clear hev hG hk hbc
      obtain ⟨c1, c2⟩ := cW X hB
      exact .inr ⟨rfl, .inl ⟨.pointer (some ⟨rb, 0, none⟩), X, by clear hs; go_simp, .inl ⟨by decide, Below.refl _ _, rfl⟩⟩⟩
    | 2, ho =>
      obtain rfl : _ = o := Option.some.inj ho
      obtain rfl : 8 = d := Option.some.inj hd
      have g7 : a'.eval (.tmp 7) = .pointer (some ⟨rb, 0, none⟩) := hG ⟨1, .data⟩ (by simp) rfl 7 rfl
      obtain ⟨ev, hev⟩ : ∃ ev, a'.eval = ev := ⟨_, rfl⟩
      rw [hev] at g7 ⊢
      clear hev hG hk hbc
      obtain ⟨c1, c2⟩ := cW X hB
      exact .inr ⟨rfl, .inl ⟨.pointer (some ⟨rb, 1, none⟩), X, by clear hs; go_simp, .inl ⟨by decide, Below.refl _ _, rfl⟩⟩⟩
    | 3, ho =>
      obtain rfl : _ = o := Option.some.inj ho
      obtain rfl : 9 = d := Option.some.inj hd
      have g8 : a'.eval (.tmp 8) = .pointer (some ⟨rb, 1, none⟩) := hG ⟨2, .data⟩ (by simp) rfl 8 rfl
      obtain ⟨ev, hev⟩ : ∃ ev, a'.eval = ev := ⟨_, rfl⟩
      rw [hev] at g8 ⊢
      clear hev hG hk hbc
      obtain ⟨c1, c2⟩ := cW X hB
      exact .inr ⟨rfl, .inl ⟨.slice (some ⟨g, 0, none⟩) L.length cap, X, by clear hs; go_simp, .inl ⟨by decide, Below.refl _ _, rfl⟩⟩⟩
    | 4, ho =>
      obtain rfl : _ = o := Option.some.inj ho
      obtain rfl : 10 = d := Option.some.inj hd
      have g1 : a'.eval (.tmp 1) = .int .i64 ix := hk 1 (by kernel_rfl)
      obtain ⟨ev, hev⟩ : ∃ ev, a'.eval = ev := ⟨_, rfl⟩
      rw [hev] at g1 ⊢
      clear hev hG hk hbc
      obtain ⟨c1, c2⟩ := cW X hB
      exact .inr ⟨rfl, .inl ⟨.int .i64 ix, X, by clear hs; go_simp, .inl ⟨by decide, Below.refl _ _, rfl⟩⟩⟩
    | 5, ho =>
      obtain rfl : _ = o := Option.some.inj ho
      obtain rfl : 11 = d := Option.some.inj hd
      obtain ⟨ev, hev⟩ : ∃ ev, a'.eval = ev := ⟨_, rfl⟩
      rw [hev]
      clear hev hG hk hbc
      have hr : (execOp ev { dst := some 11, op := .buildSlice 41 0 #[], type := 41, pos := "ref.go:89", after := #[], guard := none }).run Try.prog X = .ok (.value (.slice (some ⟨X.heap.size, 0, none⟩) 0 0)) (X.alloc (.cells #[] 3)) := by clear hs; go_simp
      exact .inr ⟨rfl, .inl ⟨_, _, hr, .inl ⟨by decide, (Below.refl _ _).alloc (Nat.le_refl _) _, fun _ => ⟨X.heap.size, rfl, hB.size, heap_new _ _⟩⟩⟩⟩
    | 6, ho =>
      obtain rfl : _ = o := Option.some.inj ho
      obtain rfl : 12 = d := Option.some.inj hd
      have g0 : a'.eval (.tmp 0) = .pointer (some ⟨rb, 0, none⟩) := hk 0 (by kernel_rfl)
      obtain ⟨ev, hev⟩ : ∃ ev, a'.eval = ev := ⟨_, rfl⟩
      rw [hev] at g0 ⊢
      clear hev hG hk hbc
      obtain ⟨c1, c2⟩ := cW X hB
      exact .inr ⟨rfl, .inl ⟨.pointer (some ⟨rb, 0, none⟩), X, by clear hs; go_simp, .inl ⟨by decide, Below.refl _ _, rfl⟩⟩⟩
    | 7, ho =>
      obtain rfl : _ = o := Option.some.inj ho
      obtain rfl : 13 = d := Option.some.inj hd
      have g12 : a'.eval (.tmp 12) = .pointer (some ⟨rb, 0, none⟩) := hG ⟨6, .data⟩ (by simp) rfl 12 rfl
      obtain ⟨ev, hev⟩ : ∃ ev, a'.eval = ev := ⟨_, rfl⟩
      rw [hev] at g12 ⊢
      clear hev hG hk hbc
      obtain ⟨c1, c2⟩ := cW X hB
      exact .inr ⟨rfl, .inl ⟨.pointer (some ⟨rb, 0, none⟩), X, by clear hs; go_simp, .inl ⟨by decide, Below.refl _ _, rfl⟩⟩⟩
    | 8, ho =>
      obtain rfl : _ = o := Option.some.inj ho
      obtain rfl : 14 = d := Option.some.inj hd
      have g13 : a'.eval (.tmp 13) = .pointer (some ⟨rb, 0, none⟩) := hG ⟨7, .data⟩ (by simp) rfl 13 rfl
      obtain ⟨ev, hev⟩ : ∃ ev, a'.eval = ev := ⟨_, rfl⟩
      rw [hev] at g13 ⊢
      clear hev hG hk hbc
      obtain ⟨c1, c2⟩ := cW X hB
      exact .inr ⟨rfl, .inl ⟨.pointer (some ⟨rb, 1, none⟩), X, by clear hs; go_simp, .inl ⟨by decide, Below.refl _ _, rfl⟩⟩⟩
    | 9, ho =>
      obtain rfl : _ = o := Option.some.inj ho
      obtain rfl : 15 = d := Option.some.inj hd
      have g14 : a'.eval (.tmp 14) = .pointer (some ⟨rb, 1, none⟩) := hG ⟨8, .data⟩ (by simp) rfl 14 rfl
      obtain ⟨ev, hev⟩ : ∃ ev, a'.eval = ev := ⟨_, rfl⟩
      rw [hev] at g14 ⊢
      clear hev hG hk hbc
      obtain ⟨c1, c2⟩ := cW X hB
      exact .inr ⟨rfl, .inl ⟨.slice (some ⟨g, 0, none⟩) L.length cap, X, by clear hs; go_simp, .inl ⟨by decide, Below.refl _ _, rfl⟩⟩⟩
    | 10, ho =>
      obtain rfl : _ = o := Option.some.inj ho
      obtain rfl : 16 = d := Option.some.inj hd
      have g1 : a'.eval (.tmp 1) = .int .i64 ix := hk 1 (by kernel_rfl)
      obtain ⟨ev, hev⟩ : ∃ ev, a'.eval = ev := ⟨_, rfl⟩
      rw [hev] at g1 ⊢
      clear hev hG hk hbc
      obtain ⟨c1, c2⟩ := cW X hB
      exact .inr ⟨rfl, .inl ⟨.int .i64 ix, X, by clear hs; go_simp, .inl ⟨by decide, Below.refl _ _, rfl⟩⟩⟩
    | 11, ho =>
      obtain rfl : _ = o := Option.some.inj ho
      obtain rfl : 17 = d := Option.some.inj hd
      have g15 : a'.eval (.tmp 15) = .slice (some ⟨g, 0, none⟩) L.length cap := hG ⟨9, .data⟩ (by simp) rfl 15 rfl
      have g16 : a'.eval (.tmp 16) = .int .i64 ix := hG ⟨10, .data⟩ (by simp) rfl 16 rfl
      obtain ⟨ev, hev⟩ : ∃ ev, a'.eval = ev := ⟨_, rfl⟩
      rw [hev] at g15 g16 ⊢
      clear hev hG hk hbc
      obtain ⟨c1, c2⟩ := cW X hB
      exact .inr ⟨rfl, .inl ⟨.pointer (some ⟨g, ix * 6, none⟩), X, by clear hs; go_simp, .inl ⟨by decide, Below.refl _ _, rfl⟩⟩⟩
    | 12, ho =>
      obtain rfl : _ = o := Option.some.inj ho
      obtain rfl : 18 = d := Option.some.inj hd
      have g17 : a'.eval (.tmp 17) = .pointer (some ⟨g, ix * 6, none⟩) := hG ⟨11, .data⟩ (by simp) rfl 17 rfl
      obtain ⟨ev, hev⟩ : ∃ ev, a'.eval = ev := ⟨_, rfl⟩
      rw [hev] at g17 ⊢
      clear hev hG hk hbc
      obtain ⟨c1, c2⟩ := cW X hB
      exact .inr ⟨rfl, .inl ⟨.pointer (some ⟨g, ix * 6 + 5, none⟩), X, by clear hs; go_simp, .inl ⟨by decide, Below.refl _ _, rfl⟩⟩⟩
    | 13, ho =>
      obtain rfl : _ = o := Option.some.inj ho
      obtain rfl : 19 = d := Option.some.inj hd
      have g18 : a'.eval (.tmp 18) = .pointer (some ⟨g, ix * 6 + 5, none⟩) := hG ⟨12, .data⟩ (by simp) rfl 18 rfl
      obtain ⟨ev, hev⟩ : ∃ ev, a'.eval = ev := ⟨_, rfl⟩
      rw [hev] at g18 ⊢
      clear hev hG hk hbc
      obtain ⟨c1, c2⟩ := cW X hB
      exact .inr ⟨rfl, .inl ⟨.slice tl tn.length tc, X, by clear hs; go_simp, .inl ⟨by decide, Below.refl _ _, rfl⟩⟩⟩
    | 14, ho =>
      obtain rfl : _ = o := Option.some.inj ho
      obtain rfl : 20 = d := Option.some.inj hd
      obtain rfl : b = false := hbc (.inr (by kernel_rfl))
      have g11 : (false = false → EI w.heap.size (a'.eval (.tmp 11)) X) := hG ⟨5, .data⟩ (by simp) rfl 11 rfl
      have g19 : a'.eval (.tmp 19) = .slice tl tn.length tc := hG ⟨13, .data⟩ (by simp) rfl 19 rfl
      obtain ⟨ev, hev⟩ : ∃ ev, a'.eval = ev := ⟨_, rfl⟩
      rw [hev] at g11 g19 ⊢
      clear hev hG hk hbc
      obtain ⟨v', X', hr, ho, hb⟩ := appI_fresh (c := tc) (g11 rfl) (hS.out X hB) (by omega) 41
      exact .inr ⟨rfl, .inl ⟨v', X', exec_app rfl rfl g19 hr, .inl ⟨by decide, hb, fun _ => ho⟩⟩⟩
    | 15, ho =>
      obtain rfl : _ = o := Option.some.inj ho
      obtain rfl : 21 = d := Option.some.inj hd
      have g2 : a'.eval (.tmp 2) = .int .i64 id := hk 2 (by kernel_rfl)
      obtain ⟨ev, hev⟩ : ∃ ev, a'.eval = ev := ⟨_, rfl⟩
      rw [hev] at g2 ⊢
      clear hev hG hk hbc
      obtain ⟨c1, c2⟩ := cW X hB
      exact .inr ⟨rfl, .inl ⟨.int .i64 id, X, by clear hs; go_simp, .inl ⟨by decide, Below.refl _ _, rfl⟩⟩⟩
    | 16, ho =>
      obtain rfl : _ = o := Option.some.inj ho
      obtain rfl : 22 = d := Option.some.inj hd
      have g21 : a'.eval (.tmp 21) = .int .i64 id := hG ⟨15, .data⟩ (by simp) rfl 21 rfl
      obtain ⟨ev, hev⟩ : ∃ ev, a'.eval = ev := ⟨_, rfl⟩
      rw [hev] at g21 ⊢
      clear hev hG hk hbc
      have hr : (execOp ev { dst := some 22, op := .buildSlice 41 1 #[(0, .tmp 21)], type := 41, pos := "ref.go:89", after := #[⟨15, .data⟩], guard := none }).run Try.prog X = .ok (.value (.slice (some ⟨X.heap.size, 0, none⟩) 1 1)) (X.alloc (.cells #[.int .i64 id] 3)) := by clear hs; go_simp
      exact .inr ⟨rfl, .inl ⟨_, _, hr, .inl ⟨by decide, (Below.refl _ _).alloc (Nat.le_refl _) _, fun _ => ⟨X.heap.size, rfl, hB.size, heap_new _ _⟩⟩⟩⟩
    | 17, ho =>
      obtain rfl : _ = o := Option.some.inj ho
      obtain rfl : 23 = d := Option.some.inj hd
      obtain rfl : b = false := hbc (.inl rfl)
      have g20 : (false = false → OI w.heap.size tn (a'.eval (.tmp 20)) X) := hG ⟨14, .data⟩ (by simp) rfl 20 rfl
      have g22 : (false = false → One1 w.heap.size id (a'.eval (.tmp 22)) X) := hG ⟨16, .data⟩ (by simp) rfl 22 rfl
      obtain ⟨ev, hev⟩ : ∃ ev, a'.eval = ev := ⟨_, rfl⟩
      rw [hev] at g20 g22 ⊢
      clear hev hG hk hbc
      obtain ⟨q, hq, hsq⟩ := (g22 rfl).src
      obtain ⟨v', X', hr, ho, hgw⟩ := appI (c := 1) (g20 rfl) hsq (by simp; omega) hB.size 41
      exact .inr ⟨rfl, .inl ⟨v', X', exec_app rfl rfl hq hr, .inr ⟨rfl, Below.grown hB hgw hB.size (fun k hk => ((g20 rfl).lt k hk).1), ho, fun kq u hne h => by revert h; (try dsimp only); split <;> first | (intro h; exact h) | (intro h e; cases e) | exact absurd rfl hne⟩⟩⟩
    | 18, ho =>
      obtain rfl : _ = o := Option.some.inj ho
      obtain rfl : 24 = d := Option.some.inj hd
      have g9 : a'.eval (.tmp 9) = .slice (some ⟨g, 0, none⟩) L.length cap := hG ⟨3, .data⟩ (by simp) rfl 9 rfl
      have g10 : a'.eval (.tmp 10) = .int .i64 ix := hG ⟨4, .data⟩ (by simp) rfl 10 rfl
      obtain ⟨ev, hev⟩ : ∃ ev, a'.eval = ev := ⟨_, rfl⟩
      rw [hev] at g9 g10 ⊢
      clear hev hG hk hbc
      obtain ⟨c1, c2⟩ := cW X hB
      exact .inr ⟨rfl, .inl ⟨.pointer (some ⟨g, ix * 6, none⟩), X, by clear hs; go_simp, .inl ⟨by decide, Below.refl _ _, rfl⟩⟩⟩
    | 19, ho =>
      obtain rfl : _ = o := Option.some.inj ho
      obtain rfl : 25 = d := Option.some.inj hd
      have g24 : a'.eval (.tmp 24) = .pointer (some ⟨g, ix * 6, none⟩) := hG ⟨18, .data⟩ (by simp) rfl 24 rfl
      obtain ⟨ev, hev⟩ : ∃ ev, a'.eval = ev := ⟨_, rfl⟩
      rw [hev] at g24 ⊢
      clear hev hG hk hbc
      obtain ⟨c1, c2⟩ := cW X hB
      exact .inr ⟨rfl, .inl ⟨.pointer (some ⟨g, ix * 6 + 5, none⟩), X, by clear hs; go_simp, .inl ⟨by decide, Below.refl _ _, rfl⟩⟩⟩
    | j + 20, ho => simp at ho
  · intro a' X hB hs hdf hk hG
    obtain ⟨tm, df⟩ := a'
    obtain rfl : df = [] := hdf
    have e0 : tm.getD 0 undef = .pointer (some ⟨rb, 0, none⟩) := hk 0 (by kernel_rfl)
    have e1 : tm.getD 1 undef = .int .i64 ix := hk 1 (by kernel_rfl)
    have e2 : tm.getD 2 undef = .int .i64 id := hk 2 (by kernel_rfl)
    have e3 : tm.getD 3 undef = undef := hk 3 (by kernel_rfl)
    have e4 : tm.getD 4 undef = undef := hk 4 (by kernel_rfl)
    have e5 : tm.getD 5 undef = undef := hk 5 (by kernel_rfl)
    have g6 : (tm.getD 6 undef) = .pointer (some ⟨rb, 0, none⟩) := hG 0 6 (by decide) rfl
    have g7 : (tm.getD 7 undef) = .pointer (some ⟨rb, 0, none⟩) := hG 1 7 (by decide) rfl
    have g8 : (tm.getD 8 undef) = .pointer (some ⟨rb, 1, none⟩) := hG 2 8 (by decide) rfl
    have g9 : (tm.getD 9 undef) = .slice (some ⟨g, 0, none⟩) L.length cap := hG 3 9 (by decide) rfl
    have g10 : (tm.getD 10 undef) = .int .i64 ix := hG 4 10 (by decide) rfl
    have g11 : (true = false → EI w.heap.size ((tm.getD 11 undef)) X) := hG 5 11 (by decide) rfl
    have g12 : (tm.getD 12 undef) = .pointer (some ⟨rb, 0, none⟩) := hG 6 12 (by decide) rfl
    have g13 : (tm.getD 13 undef) = .pointer (some ⟨rb, 0, none⟩) := hG 7 13 (by decide) rfl
    have g14 : (tm.getD 14 undef) = .pointer (some ⟨rb, 1, none⟩) := hG 8 14 (by decide) rfl
    have g15 : (tm.getD 15 undef) = .slice (some ⟨g, 0, none⟩) L.length cap := hG 9 15 (by decide) rfl
    have g16 : (tm.getD 16 undef) = .int .i64 ix := hG 10 16 (by decide) rfl
    have g17 : (tm.getD 17 undef) = .pointer (some ⟨g, ix * 6, none⟩) := hG 11 17 (by decide) rfl
    have g18 : (tm.getD 18 undef) = .pointer (some ⟨g, ix * 6 + 5, none⟩) := hG 12 18 (by decide) rfl
    have g19 : (tm.getD 19 undef) = .slice tl tn.length tc := hG 13 19 (by decide) rfl
    have g20 : (true = false → OI w.heap.size tn ((tm.getD 20 undef)) X) := hG 14 20 (by decide) rfl
    have g21 : (tm.getD 21 undef) = .int .i64 id := hG 15 21 (by decide) rfl
    have g22 : (true = false → One1 w.heap.size id ((tm.getD 22 undef)) X) := hG 16 22 (by decide) rfl
    have g23 : OI w.heap.size (tn ++ [id]) ((tm.getD 23 undef)) X := hG 17 23 (by decide) rfl
    have g24 : (tm.getD 24 undef) = .pointer (some ⟨g, ix * 6, none⟩) := hG 18 24 (by decide) rfl
    have g25 : (tm.getD 25 undef) = .pointer (some ⟨g, ix * 6 + 5, none⟩) := hG 19 25 (by decide) rfl
    have htm := arr_of tm ((.pointer (some ⟨rb, 0, none⟩) : Value) :: (.int .i64 ix : Value) :: (.int .i64 id : Value) :: (undef : Value) :: (undef : Value) :: (undef : Value) :: (tm.getD 6 undef : Value) :: (tm.getD 7 undef : Value) :: (tm.getD 8 undef : Value) :: (tm.getD 9 undef : Value) :: (tm.getD 10 undef : Value) :: (tm.getD 11 undef : Value) :: (tm.getD 12 undef : Value) :: (tm.getD 13 undef : Value) :: (tm.getD 14 undef : Value) :: (tm.getD 15 undef : Value) :: (tm.getD 16 undef : Value) :: (tm.getD 17 undef : Value) :: (tm.getD 18 undef : Value) :: (tm.getD 19 undef : Value) :: (tm.getD 20 undef : Value) :: (tm.getD 21 undef : Value) :: (tm.getD 22 undef : Value) :: (tm.getD 23 undef : Value) :: (tm.getD 24 undef : Value) :: (tm.getD 25 undef : Value) :: []) hs (by show (tm.getD 0 undef :: tm.getD 1 undef :: tm.getD 2 undef :: tm.getD 3 undef :: tm.getD 4 undef :: tm.getD 5 undef :: tm.getD 6 undef :: tm.getD 7 undef :: tm.getD 8 undef :: tm.getD 9 undef :: tm.getD 10 undef :: tm.getD 11 undef :: tm.getD 12 undef :: tm.getD 13 undef :: tm.getD 14 undef :: tm.getD 15 undef :: tm.getD 16 undef :: tm.getD 17 undef :: tm.getD 18 undef :: tm.getD 19 undef :: tm.getD 20 undef :: tm.getD 21 undef :: tm.getD 22 undef :: tm.getD 23 undef :: tm.getD 24 undef :: tm.getD 25 undef :: []) = _; rw [e0, e1, e2, e3, e4, e5]; try rfl)
    clear hs hk hG e0 e1 e2 e3 e4 e5
    generalize tm.getD 6 undef = t6 at htm g6
    generalize tm.getD 7 undef = t7 at htm g7
    generalize tm.getD 8 undef = t8 at htm g8
    generalize tm.getD 9 undef = t9 at htm g9
    generalize tm.getD 10 undef = t10 at htm g10
    generalize tm.getD 11 undef = t11 at htm g11
    generalize tm.getD 12 undef = t12 at htm g12
    generalize tm.getD 13 undef = t13 at htm g13
    generalize tm.getD 14 undef = t14 at htm g14
    generalize tm.getD 15 undef = t15 at htm g15
    generalize tm.getD 16 undef = t16 at htm g16
    generalize tm.getD 17 undef = t17 at htm g17
    generalize tm.getD 18 undef = t18 at htm g18
    generalize tm.getD 19 undef = t19 at htm g19
    generalize tm.getD 20 undef = t20 at htm g20
    generalize tm.getD 21 undef = t21 at htm g21
    generalize tm.getD 22 undef = t22 at htm g22
    generalize tm.getD 23 undef = t23 at htm g23
    generalize tm.getD 24 undef = t24 at htm g24
    generalize tm.getD 25 undef = t25 at htm g25
    subst htm
    subst g6
    subst g7
    subst g8
    subst g9
    subst g10
    subst g12
    subst g13
    subst g14
    subst g15
    subst g16
    subst g17
    subst g18
    subst g19
    subst g21
    subst g24
    subst g25
    simp only [List.drop_succ_cons, List.drop_zero]
    clear g11 g20 g22
    obtain ⟨sp, cp, rfl⟩ := row_form g23
    have hX := HH.out.below hB
    have y0 := (hX.six hi).2.2.2.2.2
    have y1 : X.frozen? ⟨g, ix * 6 + 5, none⟩ = false := by simp [World.frozen?, hX.blk]
    have HG := Lib.hid g23
    have HB := Lib.hid hB
    clear g23 hX hB
    go_wp2_with fail
    go_end0
    have g23 := HG.out
    have hnew : ∀ a, sp = some a → w.heap.size ≤ a.block := fun a ha => by subst ha; exact (g23.lt a.block rfl).1
    obtain ⟨r1, r2⟩ := HH.out.setE HB.out hi sp cp (tn ++ [id]) (row_ints g23) hnew (by simp; omega)
    subst htn
    rw [show (L[ix].ents ++ [id]).length = L[ix].ents.length + 1 from by simp] at r1 r2
    exact ⟨⟨_, rfl⟩, sp, cp, _, r1, r2⟩
end Go.Proofs.Ytebcnlhgkpaghaa
