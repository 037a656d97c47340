/- What Link of the reference does. -/
import Derived.Test.YtmgfakfiiaeofaaGreatSq
import Derived.Test.YtmgfakfiiaeofaaGreatHoRefW
import Derived.Deep.DeepCutAuto
/- What put of the reference does. -/
namespace Go.Proofs.YtmgfakfiiaeofaaGreat.Ho
open Go.RowKit Go.Sort
def OI (B : Nat) (l : List Int) (v : Value) (X : World) : Prop := X.ownsRow B 3 1 v l.length (ivs l)
theorem OI.below {B : Nat} {l : List Int} {v : Value} {X X' : World} (h : OI B l v X) (hb : Below X.heap.size X X') : OI B l v X' := row_same h (fun k hk => hb.block k (h.lt k hk).2)
def One1 (B : Nat) (x : Int) (v : Value) (X : World) : Prop := ∃ b, v = .slice (some ⟨b, 0, none⟩) 1 1 /\ B <= b /\ X.heap[b]? = some (.cells #[.int .i64 x] 3 (0, 0))
theorem One1.below {B : Nat} {x : Int} {v : Value} {X X' : World} (h : One1 B x v X) (hb : Below X.heap.size X X') : One1 B x v X' := by
 obtain ⟨b, h1, h2, h3⟩ := h
 exact ⟨b, h1, h2, (hb.block b (heap_lt h3)).trans h3⟩
theorem One1.src {B : Nat} {x : Int} {v : Value} {X : World} (h : One1 B x v X) : ∃ q, v = .slice q [x].length 1 /\ SrcI X q [x] := by
 obtain ⟨b, h1, h2, h3⟩ := h
 refine ⟨_, h1, .inr ⟨_, rfl, fun j u hu => ?_⟩⟩
 have hj : j = 0 := by have := (List.getElem?_eq_some_iff.1 hu).1; simp [ivs] at this; exact this
 subst hj
 simp [ivs] at hu
 subst hu
 simp [World.cell?, Addr.add, h3]
set_option maxRecDepth 100000 in
set_option maxHeartbeats 4000000 in
theorem rput_any {w : World} {rb g cap : Nat} {cs : Array Value} {root : Int} {L : List Th} {F : Nat -> Prop} (h : RS w rb g cap cs root L F) (ix : Nat) (hi : ix < L.length) (id : Int) (hle : L[ix].ents.length < 900000) :
 Calls Tryz.prog 46 #[.pointer (some ⟨rb, 0, none⟩), .int .i64 ix, .int .i64 id] w fun e w' => (∃ v, e = .returned v) /\ ∃ p c cs', RS w' rb g cap cs' root (L.set ix { L[ix] with lp := p, lc := c, ents := L[ix].ents ++ [id] }) F /\ Fm w w' (fun k => k = rb ∨ k = g) (fun k => k = rb ∨ k = g) := by
 have cW : ∀ X, Below w.heap.size w X -> X.cell? ⟨rb, 1, none⟩ = some (.slice (some ⟨g, 0, none⟩) L.length cap) /\ X.cell? ⟨g, ix * 6 + 5, none⟩ = some (.slice L[ix].lp L[ix].ents.length L[ix].lc) := fun X hX => ⟨(h.below hX).hd.2, ((h.below hX).six hi).2.2.2.2.2⟩
 have hS : Hid (∀ X, Below w.heap.size w X -> SrcI X L[ix].lp L[ix].ents) := fun X hX => SrcI.of ((h.below hX).cat _ (List.getElem_mem hi)).2
 have hl := h.lim.1
 have hle' := h.le
 have hii : (ix : Int) < (L.length : Int) := by omega
 have HH := Lib.hid h
 obtain ⟨tl, htl⟩ : ∃ tl, L[ix].lp = tl := ⟨_, rfl⟩
 obtain ⟨tn, htn⟩ : ∃ tn, L[ix].ents = tn := ⟨_, rfl⟩
 obtain ⟨tc, htc⟩ : ∃ tc, L[ix].lc = tc := ⟨_, rfl⟩
 rw [htl, htn, htc] at cW
 rw [htl, htn] at hS
 rw [htn] at hle
 clear h
 go_enter Tryz.func46, Tryz.ntmps46
 refine wp_region_monoC 6 20 17 (fun X => Below w.heap.size w X) (fun bq kq uq Xq => match kq with | 6 => uq = .pointer (some ⟨rb, 0, none⟩) | 7 => uq = .pointer (some ⟨rb, 0, none⟩) | 8 => uq = .pointer (some ⟨rb, 1, none⟩) | 9 => uq = .slice (some ⟨g, 0, none⟩) L.length cap | 10 => uq = .int .i64 ix | 11 => (bq = false -> EI w.heap.size (uq) Xq) | 12 => uq = .pointer (some ⟨rb, 0, none⟩) | 13 => uq = .pointer (some ⟨rb, 0, none⟩) | 14 => uq = .pointer (some ⟨rb, 1, none⟩) | 15 => uq = .slice (some ⟨g, 0, none⟩) L.length cap | 16 => uq = .int .i64 ix | 17 => uq = .pointer (some ⟨g, ix * 6, none⟩) | 18 => uq = .pointer (some ⟨g, ix * 6 + 5, none⟩) | 19 => uq = .slice tl tn.length tc | 20 => (bq = false -> OI w.heap.size tn (uq) Xq) | 21 => uq = .int .i64 id | 22 => (bq = false -> One1 w.heap.size id (uq) Xq) | 23 => OI w.heap.size (tn ++ [id]) (uq) Xq | 24 => uq = .pointer (some ⟨g, ix * 6, none⟩) | 25 => uq = .pointer (some ⟨g, ix * 6 + 5, none⟩) | _ => True) (by kernel_rfl) (by kernel_rfl) (by kernel_rfl) (by kernel_rfl) (by simp) (by kernel_rfl) (by decide) (fun _ _ h k => h.trans (k.mono h.size)) ((Below.refl _ _).drew) ?_ ?_ ?_
 · intro bq kq v W W' h hb
   revert h
   try dsimp only
   split
   · intro h; exact h
   · intro h; exact h
   · intro h; exact h
   · intro h; exact h
   · intro h; exact h
   · intro h; exact fun eb => (fun h => EI.below h hb) (h eb)
   · intro h; exact h
   · intro h; exact h
   · intro h; exact h
   · intro h; exact h
   · intro h; exact h
   · intro h; exact h
   · intro h; exact h
   · intro h; exact h
   · intro h; exact fun eb => (fun h => OI.below h hb) (h eb)
   · intro h; exact h
   · intro h; exact fun eb => (fun h => One1.below h hb) (h eb)
   · intro h; exact OI.below h hb
   · intro h; exact h
   · intro h; exact h
   · intro h; trivial
 · intro a' X b hB hs hk i o d ho hd hbc hG
   match i, ho with
   | 0, ho =>
    cases ho
    obtain rfl : 6 = d := Option.some.inj hd
    have g0 : a'.eval (.tmp 0) = .pointer (some ⟨rb, 0, none⟩) := hk 0 (by kernel_rfl)
    generalize a'.eval = ev at g0 |-
    clear hG hk hbc
    obtain ⟨c1, c2⟩ := cW X hB
    exact .inr ⟨rfl, .inl ⟨.pointer (some ⟨rb, 0, none⟩), X, by clear hs; go_simp, .inl ⟨by decide, Below.refl _ _, rfl⟩⟩⟩
   | 1, ho =>
    cases ho
    obtain rfl : 7 = d := Option.some.inj hd
    have g6 : a'.eval (.tmp 6) = .pointer (some ⟨rb, 0, none⟩) := hG ⟨0, .data⟩ (by simp) rfl 6 rfl
    generalize a'.eval = ev at g6 |-
    clear hG hk hbc
    obtain ⟨c1, c2⟩ := cW X hB
    exact .inr ⟨rfl, .inl ⟨.pointer (some ⟨rb, 0, none⟩), X, by clear hs; go_simp, .inl ⟨by decide, Below.refl _ _, rfl⟩⟩⟩
   | 2, ho =>
    cases ho
    obtain rfl : 8 = d := Option.some.inj hd
    have g7 : a'.eval (.tmp 7) = .pointer (some ⟨rb, 0, none⟩) := hG ⟨1, .data⟩ (by simp) rfl 7 rfl
    generalize a'.eval = ev at g7 |-
    clear hG hk hbc
    obtain ⟨c1, c2⟩ := cW X hB
    exact .inr ⟨rfl, .inl ⟨.pointer (some ⟨rb, 1, none⟩), X, by clear hs; go_simp, .inl ⟨by decide, Below.refl _ _, rfl⟩⟩⟩
   | 3, ho =>
    cases ho
    obtain rfl : 9 = d := Option.some.inj hd
    have g8 : a'.eval (.tmp 8) = .pointer (some ⟨rb, 1, none⟩) := hG ⟨2, .data⟩ (by simp) rfl 8 rfl
    generalize a'.eval = ev at g8 |-
    clear hG hk hbc
    obtain ⟨c1, c2⟩ := cW X hB
    exact .inr ⟨rfl, .inl ⟨.slice (some ⟨g, 0, none⟩) L.length cap, X, by clear hs; go_simp, .inl ⟨by decide, Below.refl _ _, rfl⟩⟩⟩
   | 4, ho =>
    cases ho
    obtain rfl : 10 = d := Option.some.inj hd
    have g1 : a'.eval (.tmp 1) = .int .i64 ix := hk 1 (by kernel_rfl)
    generalize a'.eval = ev at g1 |-
    clear hG hk hbc
    obtain ⟨c1, c2⟩ := cW X hB
    exact .inr ⟨rfl, .inl ⟨.int .i64 ix, X, by clear hs; go_simp, .inl ⟨by decide, Below.refl _ _, rfl⟩⟩⟩
   | 5, ho =>
    cases ho
    obtain rfl : 11 = d := Option.some.inj hd
    generalize a'.eval = ev
    clear hG hk hbc
    have hr : (execOp ev { dst := some 11, op := .buildSlice 37 0 #[], type := 37, pos := "ref.go:89", after := #[], guard := none }).run Tryz.prog X = .ok (.value (.slice (some ⟨X.heap.size, 0, none⟩) 0 0)) (X.alloc (.cells #[] 3)) := by clear hs; go_simp
    exact .inr ⟨rfl, .inl ⟨_, _, hr, .inl ⟨by decide, (Below.refl _ _).alloc (Nat.le_refl _) _, fun _ => ⟨X.heap.size, rfl, hB.size, heap_new _ _⟩⟩⟩⟩
   | 6, ho =>
    cases ho
    obtain rfl : 12 = d := Option.some.inj hd
    have g0 : a'.eval (.tmp 0) = .pointer (some ⟨rb, 0, none⟩) := hk 0 (by kernel_rfl)
    generalize a'.eval = ev at g0 |-
    clear hG hk hbc
    obtain ⟨c1, c2⟩ := cW X hB
    exact .inr ⟨rfl, .inl ⟨.pointer (some ⟨rb, 0, none⟩), X, by clear hs; go_simp, .inl ⟨by decide, Below.refl _ _, rfl⟩⟩⟩
   | 7, ho =>
    cases ho
    obtain rfl : 13 = d := Option.some.inj hd
    have g12 : a'.eval (.tmp 12) = .pointer (some ⟨rb, 0, none⟩) := hG ⟨6, .data⟩ (by simp) rfl 12 rfl
    generalize a'.eval = ev at g12 |-
    clear hG hk hbc
    obtain ⟨c1, c2⟩ := cW X hB
    exact .inr ⟨rfl, .inl ⟨.pointer (some ⟨rb, 0, none⟩), X, by clear hs; go_simp, .inl ⟨by decide, Below.refl _ _, rfl⟩⟩⟩
   | 8, ho =>
    cases ho
    obtain rfl : 14 = d := Option.some.inj hd
    have g13 : a'.eval (.tmp 13) = .pointer (some ⟨rb, 0, none⟩) := hG ⟨7, .data⟩ (by simp) rfl 13 rfl
    generalize a'.eval = ev at g13 |-
    clear hG hk hbc
    obtain ⟨c1, c2⟩ := cW X hB
    exact .inr ⟨rfl, .inl ⟨.pointer (some ⟨rb, 1, none⟩), X, by clear hs; go_simp, .inl ⟨by decide, Below.refl _ _, rfl⟩⟩⟩
   | 9, ho =>
    cases ho
    obtain rfl : 15 = d := Option.some.inj hd
    have g14 : a'.eval (.tmp 14) = .pointer (some ⟨rb, 1, none⟩) := hG ⟨8, .data⟩ (by simp) rfl 14 rfl
    generalize a'.eval = ev at g14 |-
    clear hG hk hbc
    obtain ⟨c1, c2⟩ := cW X hB
    exact .inr ⟨rfl, .inl ⟨.slice (some ⟨g, 0, none⟩) L.length cap, X, by clear hs; go_simp, .inl ⟨by decide, Below.refl _ _, rfl⟩⟩⟩
   | 10, ho =>
    cases ho
    obtain rfl : 16 = d := Option.some.inj hd
    have g1 : a'.eval (.tmp 1) = .int .i64 ix := hk 1 (by kernel_rfl)
    generalize a'.eval = ev at g1 |-
    clear hG hk hbc
    obtain ⟨c1, c2⟩ := cW X hB
    exact .inr ⟨rfl, .inl ⟨.int .i64 ix, X, by clear hs; go_simp, .inl ⟨by decide, Below.refl _ _, rfl⟩⟩⟩
   | 11, ho =>
    cases ho
    obtain rfl : 17 = d := Option.some.inj hd
    have g15 : a'.eval (.tmp 15) = .slice (some ⟨g, 0, none⟩) L.length cap := hG ⟨9, .data⟩ (by simp) rfl 15 rfl
    have g16 : a'.eval (.tmp 16) = .int .i64 ix := hG ⟨10, .data⟩ (by simp) rfl 16 rfl
    generalize a'.eval = ev at g15 g16 |-
    clear hG hk hbc
    obtain ⟨c1, c2⟩ := cW X hB
    exact .inr ⟨rfl, .inl ⟨.pointer (some ⟨g, ix * 6, none⟩), X, by clear hs; go_simp, .inl ⟨by decide, Below.refl _ _, rfl⟩⟩⟩
   | 12, ho =>
    cases ho
    obtain rfl : 18 = d := Option.some.inj hd
    have g17 : a'.eval (.tmp 17) = .pointer (some ⟨g, ix * 6, none⟩) := hG ⟨11, .data⟩ (by simp) rfl 17 rfl
    generalize a'.eval = ev at g17 |-
    clear hG hk hbc
    obtain ⟨c1, c2⟩ := cW X hB
    exact .inr ⟨rfl, .inl ⟨.pointer (some ⟨g, ix * 6 + 5, none⟩), X, by clear hs; go_simp, .inl ⟨by decide, Below.refl _ _, rfl⟩⟩⟩
   | 13, ho =>
    cases ho
    obtain rfl : 19 = d := Option.some.inj hd
    have g18 : a'.eval (.tmp 18) = .pointer (some ⟨g, ix * 6 + 5, none⟩) := hG ⟨12, .data⟩ (by simp) rfl 18 rfl
    generalize a'.eval = ev at g18 |-
    clear hG hk hbc
    obtain ⟨c1, c2⟩ := cW X hB
    exact .inr ⟨rfl, .inl ⟨.slice tl tn.length tc, X, by clear hs; go_simp, .inl ⟨by decide, Below.refl _ _, rfl⟩⟩⟩
   | 14, ho =>
    cases ho
    obtain rfl : 20 = d := Option.some.inj hd
    obtain rfl : b = false := hbc (.inr (by kernel_rfl))
    have g11 : (false = false -> EI w.heap.size (a'.eval (.tmp 11)) X) := hG ⟨5, .data⟩ (by simp) rfl 11 rfl
    have g19 : a'.eval (.tmp 19) = .slice tl tn.length tc := hG ⟨13, .data⟩ (by simp) rfl 19 rfl
    generalize a'.eval = ev at g11 g19 |-
    clear hG hk hbc
    obtain ⟨v', X', hr, ho, hb⟩ := appI_fresh (c := tc) (g11 rfl) (hS.out X hB) (by omega) 37
    exact .inr ⟨rfl, .inl ⟨v', X', exec_app rfl rfl g19 hr, .inl ⟨by decide, hb, fun _ => ho⟩⟩⟩
   | 15, ho =>
    cases ho
    obtain rfl : 21 = d := Option.some.inj hd
    have g2 : a'.eval (.tmp 2) = .int .i64 id := hk 2 (by kernel_rfl)
    generalize a'.eval = ev at g2 |-
    clear hG hk hbc
    obtain ⟨c1, c2⟩ := cW X hB
    exact .inr ⟨rfl, .inl ⟨.int .i64 id, X, by clear hs; go_simp, .inl ⟨by decide, Below.refl _ _, rfl⟩⟩⟩
   | 16, ho =>
    cases ho
    obtain rfl : 22 = d := Option.some.inj hd
    have g21 : a'.eval (.tmp 21) = .int .i64 id := hG ⟨15, .data⟩ (by simp) rfl 21 rfl
    generalize a'.eval = ev at g21 |-
    clear hG hk hbc
    have hr : (execOp ev { dst := some 22, op := .buildSlice 37 1 #[(0, .tmp 21)], type := 37, pos := "ref.go:89", after := #[⟨15, .data⟩], guard := none }).run Tryz.prog X = .ok (.value (.slice (some ⟨X.heap.size, 0, none⟩) 1 1)) (X.alloc (.cells #[.int .i64 id] 3)) := by clear hs; go_simp
    exact .inr ⟨rfl, .inl ⟨_, _, hr, .inl ⟨by decide, (Below.refl _ _).alloc (Nat.le_refl _) _, fun _ => ⟨X.heap.size, rfl, hB.size, heap_new _ _⟩⟩⟩⟩
   | 17, ho =>
    cases ho
    obtain rfl : 23 = d := Option.some.inj hd
    obtain rfl : b = false := hbc (.inl rfl)
    have g20 : (false = false -> OI w.heap.size tn (a'.eval (.tmp 20)) X) := hG ⟨14, .data⟩ (by simp) rfl 20 rfl
    have g22 : (false = false -> One1 w.heap.size id (a'.eval (.tmp 22)) X) := hG ⟨16, .data⟩ (by simp) rfl 22 rfl
    generalize a'.eval = ev at g20 g22 |-
    clear hG hk hbc
    obtain ⟨q, hq, hsq⟩ := (g22 rfl).src
    obtain ⟨v', X', hr, ho, hgw⟩ := appI (c := 1) (g20 rfl) hsq (by simp; omega) hB.size 37
    exact .inr ⟨rfl, .inl ⟨v', X', exec_app rfl rfl hq hr, .inr ⟨rfl, Below.grown hB hgw hB.size (fun k hk => ((g20 rfl).lt k hk).1), ho, fun kq u hne h => by revert h; (try dsimp only); split <;> first | (intro h; exact h) | (intro h e; cases e) | exact absurd rfl hne⟩⟩⟩
   | 18, ho =>
    cases ho
    obtain rfl : 24 = d := Option.some.inj hd
    have g9 : a'.eval (.tmp 9) = .slice (some ⟨g, 0, none⟩) L.length cap := hG ⟨3, .data⟩ (by simp) rfl 9 rfl
    have g10 : a'.eval (.tmp 10) = .int .i64 ix := hG ⟨4, .data⟩ (by simp) rfl 10 rfl
    generalize a'.eval = ev at g9 g10 |-
    clear hG hk hbc
    obtain ⟨c1, c2⟩ := cW X hB
    exact .inr ⟨rfl, .inl ⟨.pointer (some ⟨g, ix * 6, none⟩), X, by clear hs; go_simp, .inl ⟨by decide, Below.refl _ _, rfl⟩⟩⟩
   | 19, ho =>
    cases ho
    obtain rfl : 25 = d := Option.some.inj hd
    have g24 : a'.eval (.tmp 24) = .pointer (some ⟨g, ix * 6, none⟩) := hG ⟨18, .data⟩ (by simp) rfl 24 rfl
    generalize a'.eval = ev at g24 |-
    clear hG hk hbc
    obtain ⟨c1, c2⟩ := cW X hB
    exact .inr ⟨rfl, .inl ⟨.pointer (some ⟨g, ix * 6 + 5, none⟩), X, by clear hs; go_simp, .inl ⟨by decide, Below.refl _ _, rfl⟩⟩⟩
   | j + 20, ho => simp at ho
 · intro a' X hB hs hdf hk hG
   obtain ⟨tm, df⟩ := a'
   obtain rfl : df = [] := hdf
   have g6 : (tm.getD 6 undef) = .pointer (some ⟨rb, 0, none⟩) := hG 0 6 (by decide) rfl
   have g7 : (tm.getD 7 undef) = .pointer (some ⟨rb, 0, none⟩) := hG 1 7 (by decide) rfl
   have g8 : (tm.getD 8 undef) = .pointer (some ⟨rb, 1, none⟩) := hG 2 8 (by decide) rfl
   have g9 : (tm.getD 9 undef) = .slice (some ⟨g, 0, none⟩) L.length cap := hG 3 9 (by decide) rfl
   have g10 : (tm.getD 10 undef) = .int .i64 ix := hG 4 10 (by decide) rfl
   have g11 : (true = false -> EI w.heap.size ((tm.getD 11 undef)) X) := hG 5 11 (by decide) rfl
   have g12 : (tm.getD 12 undef) = .pointer (some ⟨rb, 0, none⟩) := hG 6 12 (by decide) rfl
   have g13 : (tm.getD 13 undef) = .pointer (some ⟨rb, 0, none⟩) := hG 7 13 (by decide) rfl
   have g14 : (tm.getD 14 undef) = .pointer (some ⟨rb, 1, none⟩) := hG 8 14 (by decide) rfl
   have g15 : (tm.getD 15 undef) = .slice (some ⟨g, 0, none⟩) L.length cap := hG 9 15 (by decide) rfl
   have g16 : (tm.getD 16 undef) = .int .i64 ix := hG 10 16 (by decide) rfl
   have g17 : (tm.getD 17 undef) = .pointer (some ⟨g, ix * 6, none⟩) := hG 11 17 (by decide) rfl
   have g18 : (tm.getD 18 undef) = .pointer (some ⟨g, ix * 6 + 5, none⟩) := hG 12 18 (by decide) rfl
   have g19 : (tm.getD 19 undef) = .slice tl tn.length tc := hG 13 19 (by decide) rfl
   have g20 : (true = false -> OI w.heap.size tn ((tm.getD 20 undef)) X) := hG 14 20 (by decide) rfl
   have g21 : (tm.getD 21 undef) = .int .i64 id := hG 15 21 (by decide) rfl
   have g22 : (true = false -> One1 w.heap.size id ((tm.getD 22 undef)) X) := hG 16 22 (by decide) rfl
   have g23 : OI w.heap.size (tn ++ [id]) ((tm.getD 23 undef)) X := hG 17 23 (by decide) rfl
   have g24 : (tm.getD 24 undef) = .pointer (some ⟨g, ix * 6, none⟩) := hG 18 24 (by decide) rfl
   have g25 : (tm.getD 25 undef) = .pointer (some ⟨g, ix * 6 + 5, none⟩) := hG 19 25 (by decide) rfl
   have htm := arr3 [.pointer (some ⟨rb, 0, none⟩), .int .i64 ix, .int .i64 id, undef, undef, undef, tm.getD 6 undef, tm.getD 7 undef, tm.getD 8 undef, tm.getD 9 undef, tm.getD 10 undef, tm.getD 11 undef, tm.getD 12 undef, tm.getD 13 undef, tm.getD 14 undef, tm.getD 15 undef, tm.getD 16 undef, tm.getD 17 undef, tm.getD 18 undef, tm.getD 19 undef, tm.getD 20 undef, tm.getD 21 undef, tm.getD 22 undef, tm.getD 23 undef, tm.getD 24 undef, tm.getD 25 undef] hs (ae 1 (by exact hk 0 rfl) (ae 2 (by exact hk 1 rfl) (ae 3 (by exact hk 2 rfl) (ae 4 (by exact hk 3 rfl) (ae 5 (by exact hk 4 rfl) (ae 6 (by exact hk 5 rfl) (ae 7 rfl (ae 8 rfl (ae 9 rfl (ae 10 rfl (ae 11 rfl (ae 12 rfl (ae 13 rfl (ae 14 rfl (ae 15 rfl (ae 16 rfl (ae 17 rfl (ae 18 rfl (ae 19 rfl (ae 20 rfl (ae 21 rfl (ae 22 rfl (ae 23 rfl (ae 24 rfl (ae 25 rfl (ae 26 rfl az))))))))))))))))))))))))))
   clear hs hk hG
   generalize tm.getD 6 undef = t6 at htm g6
   generalize tm.getD 7 undef = t7 at htm g7
   generalize tm.getD 8 undef = t8 at htm g8
   generalize tm.getD 9 undef = t9 at htm g9
   generalize tm.getD 10 undef = t10 at htm g10
   generalize tm.getD 11 undef = t11 at htm g11
   generalize tm.getD 12 undef = t12 at htm g12
   generalize tm.getD 13 undef = t13 at htm g13
   generalize tm.getD 14 undef = t14 at htm g14
   generalize tm.getD 15 undef = t15 at htm g15
   generalize tm.getD 16 undef = t16 at htm g16
   generalize tm.getD 17 undef = t17 at htm g17
   generalize tm.getD 18 undef = t18 at htm g18
   generalize tm.getD 19 undef = t19 at htm g19
   generalize tm.getD 20 undef = t20 at htm g20
   generalize tm.getD 21 undef = t21 at htm g21
   generalize tm.getD 22 undef = t22 at htm g22
   generalize tm.getD 23 undef = t23 at htm g23
   generalize tm.getD 24 undef = t24 at htm g24
   generalize tm.getD 25 undef = t25 at htm g25
   subst htm
   subst g6
   subst g7
   subst g8
   subst g9
   subst g10
   subst g12
   subst g13
   subst g14
   subst g15
   subst g16
   subst g17
   subst g18
   subst g19
   subst g21
   subst g24
   subst g25
   simp only [List.drop_succ_cons, List.drop_zero]
   clear g11 g20 g22
   obtain ⟨sp, cp, rfl⟩ := row_form g23
   have hX := HH.out.below hB
   have y0 := (hX.six hi).2.2.2.2.2
   have y1 : X.frozen? ⟨g, ix * 6 + 5, none⟩ = false := by simp [World.frozen?, hX.blk]
   have HG := Lib.hid g23
   have HB := Lib.hid hB
   clear g23 hX hB
   go_wp2_with fail
   go_end0
   have g23 := HG.out
   have hnew : ∀ a, sp = some a -> w.heap.size <= a.block := fun a ha => by subst ha; exact (g23.lt a.block rfl).1
   obtain ⟨r1, r2⟩ := HH.out.setE HB.out hi sp cp (tn ++ [id]) (row_ints g23) hnew (by simp; omega)
   subst htn
   rw [show (L[ix].ents ++ [id]).length = L[ix].ents.length + 1 from by simp] at r1 r2
   exact ⟨⟨_, rfl⟩, sp, cp, _, r1, r2⟩
theorem tsum_step {f : Int -> Int} {l : List Int} {k : Nat} (hk : k < l.length) : ((l.take (k + 1)).map f).sum = ((l.take k).map f).sum + f l[k] := by
 rw [List.take_succ_eq_append_getElem hk, isum_app]
theorem tsum_le {f : Int -> Int} {l : List Int} (hf : ∀ x, 0 <= f x) (k : Nat) : 0 <= ((l.take k).map f).sum /\ ((l.take k).map f).sum <= (l.map f).sum := by
 refine ⟨isum_nonneg _ (fun x _ => hf x), ?_⟩
 have h1 := isum_nonneg (f := f) (l.drop k) (fun x _ => hf x)
 have h2 : (l.map f).sum = ((l.take k).map f).sum + ((l.drop k).map f).sum := by
  conv => lhs; rw [<- List.take_append_drop k l]
  rw [List.map_append, List.sum_append]
 omega
section
variable {w : World} {rb g cap : Nat} {cs : Array Value} {root : Int} {L : List Th} {F : Nat -> Prop} {S : Abs} {K : List Int} {rt : Int}
set_option maxRecDepth 100000 in
set_option maxHeartbeats 4000000 in
theorem rUsed_any (h : RS w rb g cap cs root L F) (hr : RelD S L []) (hi : Inv rt S K) (ix : Nat) (hix : ix < L.length) {o : Ob} (ho : S L[ix].id = some o) :
 Calls Tryz.prog 101 #[.pointer (some ⟨rb, 0, none⟩), .int .i64 ix] w fun e w' => e = .returned (.int .i64 o.used) /\ Below w.heap.size w w' := by
 obtain ⟨o', ho', hm⟩ := hr.yes _ (List.getElem_mem hix) (by simp)
 obtain rfl : o = o' := Option.some.inj (ho.symm.trans ho')
 have hge := hi.ok _ _ ho
 have hq := hge.q
 have hle := hge.le
 have hus := hge.us
 rw [hm.2.2.2.2] at hus
 obtain ⟨l, hl⟩ : ∃ l, L[ix].ents = l := ⟨_, rfl⟩
 have HT : Hid (∀ k, 0 <= ((l.take k).map (qS S)).sum /\ ((l.take k).map (qS S)).sum <= o.used) := fun k => by rw [hus, hl]; exact tsum_le hi.qpos k
 have HU : Hid (o.used = (l.map (qS S)).sum) := by simp only [Hid]; rw [hus, hl]
 have HE : Hid (∀ k (hk : k < l.length), ∃ j, ∃ hj : j < L.length, L[j].id = l[k] /\ L[j].quota = qS S l[k] /\ 0 <= qS S l[k] /\ qS S l[k] <= 1099511627776) := fun k hk => by
  obtain ⟨p, hp⟩ := hi.ent ho (x := l[k]) (by rw [hm.2.2.2.2, hl]; exact List.getElem_mem hk)
  obtain ⟨j, hj, e1, e2⟩ := hr.pos hp
  have hgp := hi.ok _ _ hp
  have : qS S l[k] = p.quota := by unfold qS; rw [hp]
  exact ⟨j, hj, e1, by rw [this]; exact e2.2.1.symm, by rw [this]; have := hgp.q; omega, by rw [this]; exact hgp.q.2⟩
 have HA : Hid (∀ W, Below w.heap.size w W -> ∀ j (hj : j < L.length), Calls Tryz.prog 44 #[.pointer (some ⟨rb, 0, none⟩), .int .i64 L[j].id] W fun e w' => e = .returned (.int .i64 j) /\ Below W.heap.size W w') := fun W hb j hj => (rAt_any (h.below hb) L[j].id).mono fun e w' ⟨a, b⟩ => ⟨by rw [a, atL_yes 0 hj h.nd rfl]; simp, by rw [b]; exact Below.refl _ _⟩
 have HH := Lib.hid h
 have hln := (h.lim.2 _ (List.getElem_mem hix)).2
 have hLn := h.lim.1
 rw [hl] at hln
 obtain ⟨h0, h1⟩ := h.hd
 obtain ⟨_, _, _, _, _, c5⟩ := h.six hix
 have hii : (ix : Int) < (L.length : Int) := by omega
 rw [hl] at c5
 have HC : Hid (IntsAt w L[ix].lp l) := by have := (h.cat _ (List.getElem_mem hix)).2; rw [hl] at this; exact this
 generalize L[ix].lp = tl at c5 HC
 generalize L[ix].lc = tc at c5
 clear h hr hi ho ho' hm hge hus
 go_enter Tryz.func101, Tryz.ntmps101
 go_wp2_with fail
 go_loopw [5, 17] (fun z y wr => ∃ k : Nat, y = .int .i64 k /\ k <= l.length /\ z = .int .i64 ((l.take k).map (qS S)).sum /\ Below w.heap.size w wr) (fun _ y _ => (l.length - (RowKit.intOf y).toNat))
 case atStart => exact ⟨0, rfl, Nat.zero_le _, rfl, Below.refl _ _⟩
 case round =>
  obtain ⟨k, rfl, hk, rfl, hB⟩ := hrel
  by_cases hlt : k < l.length
  · have hki : (k : Int) < (l.length : Int) := by omega
    obtain ⟨b, off, rfl, hbl, hcl⟩ := (HC.out.below hB) k hlt
    obtain ⟨j, hj, e1, e2, e3, e4⟩ := HE.out k hlt
    have ht := HT.out k
    have ht2 := HT.out (k + 1)
    have hst := tsum_step (f := qS S) hlt
    have HS := Lib.hid hst
    have hA := fun W hb => HA.out W hb j hj
    obtain ⟨s6, _, s8, _⟩ := (HH.out.below hB).six hj
    obtain ⟨_, s1⟩ := (HH.out.below hB).hd
    rw [hst] at ht2
    rw [e2] at s8
    rw [e1] at hA
    have hgl := (HH.out.below hB).rl
    have hji : (j : Int) < (L.length : Int) := by omega
    obtain ⟨W1, rfl⟩ : ∃ W1, W1 = wr := ⟨wr, rfl⟩
    have g1 : ∀ n' os, (gx W1 n' os).cell? ⟨rb, 1, none⟩ = some (.slice (some ⟨g, 0, none⟩) L.length cap) := cell_gx hgl.1 s1
    have g8 : ∀ n' os, (gx W1 n' os).cell? ⟨g, j * 6 + 2, none⟩ = some (.int .i64 (qS S l[k])) := cell_gx hgl.2 s8
    have HAx : Hid (∀ n' os, Calls Tryz.prog 44 #[.pointer (some ⟨rb, 0, none⟩), .int .i64 l[k]] (gx W1 n' os) fun e w' => e = .returned (.int .i64 j) /\ Below (gx W1 n' os).heap.size (gx W1 n' os) w') := fun n' os => hA _ (hB.trans ((gx_below W1 n' os).mono hB.size))
    generalize l[k] = xk at *
    generalize qS S xk = qk at *
    generalize ((l.take k).map (qS S)).sum = sk at *
    clear hA s6 s8 s1 e1 e2 hst
    go_upto_region 5 with fail
    refine wp_region_quiet_gx (by kernel_rfl) (by kernel_rfl) ?_
    repeat (first | go_big_quiet_step (first
     | (go_at_call 44; with_reducible exact calls_gx (HAx.out _ _))) | (refine wpQuiet_step (fun K hK => ?_); go_simp; split <;> first | (exfalso; omega) | (refine hK _ ?_; clear hK K)))
    refine wpQuiet_nil ?_
    intro _ hw'
    obtain ⟨⟨nq, osq⟩, hw''⟩ := hw'
    subst hw''
    go_wp2_with fail
    go_roundw
    case rel => exact ⟨k + 1, by go_num, by omega, by rw [HS.out], hB.trans ((gx_below W1 nq osq).mono hB.size)⟩
    case measure => simp [RowKit.intOf]; omega
  · obtain rfl : k = l.length := by omega
    have hkk : ¬ (l.length : Int) < (l.length : Int) := by omega
    go_wp2_with fail
    go_ret
    exact ⟨by rw [HU.out]; first | rfl | (rw [List.take_length]; rfl), hB⟩
set_option maxRecDepth 100000 in
set_option maxHeartbeats 4000000 in
theorem rRoom_any (h : RS w rb g cap cs root L F) (hr : RelD S L []) (hi : Inv rt S K) (ix : Nat) (hix : ix < L.length) {o : Ob} (ho : S L[ix].id = some o) :
 Calls Tryz.prog 45 #[.pointer (some ⟨rb, 0, none⟩), .int .i64 ix] w fun e w' => e = .returned (.int .i64 (o.quota - o.used)) /\ Below w.heap.size w w' := by
 have hge := hi.ok _ _ ho
 have hq := hge.q
 have hle := hge.le
 have hup := hi.upos ho
 obtain ⟨o', ho', hm⟩ := hr.yes _ (List.getElem_mem hix) (by simp)
 obtain rfl : o = o' := Option.some.inj (ho.symm.trans ho')
 obtain ⟨h0, h1⟩ := h.hd
 obtain ⟨_, _, c2, _⟩ := h.six hix
 rw [<- hm.2.1] at c2
 have hgl := h.rl
 have hLn := h.lim.1
 have hii : (ix : Int) < (L.length : Int) := by omega
 have g1 : ∀ n' os, (gx w n' os).cell? ⟨rb, 1, none⟩ = some (.slice (some ⟨g, 0, none⟩) L.length cap) := cell_gx hgl.1 h1
 have g2 : ∀ n' os, (gx w n' os).cell? ⟨g, ix * 6 + 2, none⟩ = some (.int .i64 o.quota) := cell_gx hgl.2 c2
 have HU : Hid (∀ n' os, Calls Tryz.prog 101 #[.pointer (some ⟨rb, 0, none⟩), .int .i64 ix] (gx w n' os) fun e w' => e = .returned (.int .i64 o.used) /\ Below (gx w n' os).heap.size (gx w n' os) w') := fun n' os => rUsed_any (h.below (gx_below w n' os)) hr hi ix hix ho
 clear h hr hi ho ho' hm hge c2 h0 h1
 go_enter Tryz.func45, Tryz.ntmps45
 go_upto_region 1 with fail
 refine wp_region_quiet_gx (by kernel_rfl) (by kernel_rfl) ?_
 repeat (first | go_big_quiet_step (first
  | (go_at_call 101; with_reducible exact calls_gx (HU.out _ _))) | (refine wpQuiet_step (fun K hK => ?_); go_simp; split <;> first | (exfalso; omega) | (refine hK _ ?_; clear hK K)))
 refine wpQuiet_nil ?_
 intro _ hw'
 obtain ⟨⟨nq, osq⟩, hw''⟩ := hw'
 subst hw''
 go_wp2_with fail
 go_ret
 exact ⟨rfl, gx_below w nq osq⟩
theorem rbox_none (h : RS w rb g cap cs root L F) (id : Int) (hno : ∀ t ∈ L, t.id ≠ id) : Calls Tryz.prog 42 #[.pointer (some ⟨rb, 0, none⟩), .int .i64 id] w fun e w' => e = .returned (.tuple #[.int .i64 (-1), .int .i64 4]) /\ w' = w := by
 have HA := Lib.hid (rAt_any h id)
 rw [atL_no 0 hno] at HA
 clear h hno
 go_enter Tryz.func42, Tryz.ntmps42
 go_wp2_with (go_at_call 44; refine HA.out.mono ?_; rintro e w' ⟨rfl, hw'⟩; rw [hw']; clear hw' w')
 go_ret2
 exact ⟨rfl, rfl⟩
theorem rbox_some (h : RS w rb g cap cs root L F) (id : Int) (k : Nat) (hk : k < L.length) (he : L[k].id = id) : Calls Tryz.prog 42 #[.pointer (some ⟨rb, 0, none⟩), .int .i64 id] w fun e w' => e = .returned (.tuple (if L[k].kind = 1 then #[.int .i64 k, .int .i64 0] else #[.int .i64 (-1), .int .i64 5])) /\ w' = w := by
 have HA := Lib.hid (rAt_any h id)
 rw [atL_yes 0 hk h.nd he, Nat.zero_add] at HA
 obtain ⟨h0, h1⟩ := h.hd
 obtain ⟨_, c1, _⟩ := h.six hk
 have hLn := h.lim.1
 have hii : (k : Int) < (L.length : Int) := by omega
 have hk0 : ¬ (k : Int) < 0 := by omega
 generalize L[k].kind = kd at c1 |-
 clear h he
 by_cases e : kd = 1
 · subst e
   go_enter Tryz.func42, Tryz.ntmps42
   go_wp2_with (go_at_call 44; refine HA.out.mono ?_; rintro e w' ⟨rfl, hw'⟩; rw [hw']; clear hw' w')
   go_ret2
   exact ⟨rfl, rfl⟩
 · have eb : (kd != 1) = true := by simpa using e
   go_enter Tryz.func42, Tryz.ntmps42
   go_wp2_with (go_at_call 44; refine HA.out.mono ?_; rintro e w' ⟨rfl, hw'⟩; rw [hw']; clear hw' w')
   go_ret2
   exact ⟨by first | rfl | (rw [if_neg e]; rfl), rfl⟩
def contS (S : Abs) (i : Int) : Int := match S i with
 | none => 4
 | some o => if o.kind = 1 then 0 else 5
end
def RStep (w w' : World) (rb g : Nat) (root : Int) (F : Nat -> Prop) (S' : Abs) : Prop := ∃ g' cap' cs' L', RS w' rb g' cap' cs' root L' F /\ RelD S' L' [] /\ Fm w w' (fun k => k = rb ∨ k = g) (fun k => k = rb ∨ k = g')
theorem Fm.tr {a b c : World} {F G H : Nat -> Prop} (h : Fm a b F G) (k : Fm b c G H) : Fm a c F H := by
 refine ⟨k.os.trans h.os, k.tape.trans h.tape, k.output.trans h.output, Nat.le_trans h.size k.size, fun j hj hf => ?_, fun j hj => ?_⟩
 · refine (k.same j (Nat.lt_of_lt_of_le hj h.size) (fun hg => ?_)).trans (h.same j hj hf)
   rcases h.new j hg with e | e
   · exact hf e
   · omega
 · rcases k.new j hj with e | e
   · exact h.new j e
   · have := h.size; exact .inr (by omega)
theorem Fm.stay {w w' : World} {F : Nat -> Prop} (hb : Below w.heap.size w w') : Fm w w' F F := ⟨hb.os, hb.tape, hb.output, hb.size, fun k hk _ => hb.block k hk, fun _ h => .inl h⟩
section
variable {w : World} {rb g cap : Nat} {cs : Array Value} {root : Int} {L : List Th} {F : Nat -> Prop} {S : Abs} {K : List Int} {rt : Int}
theorem RelD.ent (hr : RelD S L []) (hnd : (L.map (·.id)).Nodup) {i x : Int} {o : Ob} {k : Nat} (hk : k < L.length) (ei : L[k].id = i) (mi : Mt o L[k]) (q : Int) (p : Option Addr) (c : Nat) : RelD (updS S i { o with used := q, ents := o.ents ++ [x] }) (L.set k { L[k] with lp := p, lc := c, ents := L[k].ents ++ [x] }) [] := by
 refine hr.set hnd hk (t := { L[k] with lp := p, lc := c, ents := L[k].ents ++ [x] }) rfl (fun j hj => updS_ne _ _ (fun e => hj (e.trans ei.symm))) ⟨fun _ => ⟨{ o with used := q, ents := o.ents ++ [x] }, ?_, ?_⟩, (fun hD => by cases hD)⟩
 · show updS S i _ L[k].id = _
   rw [ei]; exact updS_at _ _ _
 · refine ⟨mi.1, mi.2.1, mi.2.2.1, mi.2.2.2.1, ?_⟩
   show o.ents ++ [x] = L[k].ents ++ [x]
   rw [mi.2.2.2.2]
end
end Go.Proofs.YtmgfakfiiaeofaaGreat.Ho
