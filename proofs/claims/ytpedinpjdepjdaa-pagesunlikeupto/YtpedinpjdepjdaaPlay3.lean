/- What PagesPlay holds from round to round. -/
import Derived.Test.YtpedinpjdepjdaaOpen3
namespace Go.Proofs.Ytpedinpjdepjdaa
open Go.RowKit Go.Lib
def kinT (t : TypeId) : Prop := t = 56 ∨ t = 70 ∨ t = 53 ∨ t = 5
/-- Whatever an object or a row of bytes lies in is as it was. -/
structure Kp (w w' : World) : Prop where
  size : w.heap.size ≤ w'.heap.size
  same : ∀ (k : Nat) (c : Array Value) (t : TypeId) (f : Nat × Nat), w.heap[k]? = some (.cells c t f) → kinT t → w'.heap[k]? = some (.cells c t f)
theorem blk_lt {w : World} {k : Nat} {o : Obj} (h : w.heap[k]? = some o) : k < w.heap.size := (Array.getElem?_eq_some_iff.1 h).1
theorem Kp.below {w w' : World} (h : Below w.heap.size w w') : Kp w w' := ⟨h.size, fun k _ _ _ hk _ => (h.block k (blk_lt hk)).trans hk⟩
theorem Kp.upto {w wr w' : World} {b : Nat} (h : Kp w wr) (hb : Below b wr w') (hw : w.heap.size ≤ b) : Kp w w' :=
  ⟨Nat.le_trans h.size hb.size, fun k _ _ _ hk ht => (hb.block k (Nat.lt_of_lt_of_le (blk_lt hk) hw)).trans (h.same k _ _ _ hk ht)⟩
theorem Kp.trans {a b c : World} (h : Kp a b) (k : Kp b c) : Kp a c := ⟨Nat.le_trans h.size k.size, fun i _ _ _ hi ht => k.same i _ _ _ (h.same i _ _ _ hi ht) ht⟩
theorem row_kp {w w' : World} {b e s n : Nat} {v : Value} {xs : List Value} (h : w.ownsRow b e s v n xs) (hk : Kp w w') (he : kinT e) : w'.ownsRow b e s v n xs := by
  refine ⟨h.1, ?_⟩
  rcases h.2 with h | ⟨g, cap, cur, h1, h2, h3, h4⟩
  · exact .inl h
  · exact .inr ⟨g, cap, cur, h1, h2, hk.same g _ _ _ h3 he, h4⟩
theorem BAt.kp {w w' : World} {base Bb : Nat} {d : List UInt8} {ls : List (Nat × Bool)} (h : BAt w base Bb d ls) (hk : Kp w w') : BAt w' base Bb d ls := by
  obtain ⟨⟨v, hv, hr⟩, hp, h4, h5, h6, h7⟩ := h
  exact ⟨⟨v, hk.same _ _ _ _ hv (.inr (.inr (.inl rfl))), row_kp hr hk (.inl rfl)⟩, fun i x hi => ⟨hk.same _ _ _ _ (hp i x hi).1 (.inr (.inl rfl)), (hp i x hi).2⟩, h4, h5, h6, h7⟩
theorem Both.kp {w w' : World} {b0 Bb : Nat} {v : Value} {d : List UInt8} (h : Both w b0 Bb v d) (hk : Kp w w') : Both w' b0 Bb v d := by
  obtain ⟨⟨ls, hA⟩, hr, hl⟩ := h
  exact ⟨⟨ls, hA.kp hk⟩, row_kp hr hk (.inr (.inr (.inr rfl))), hl⟩
/-- One that is no longer written. -/
def Old (b0 : Nat) (wr : World) (Bb : Nat) (v : Value) : Prop := ∃ (wc : World) (bi : Nat) (d : List UInt8), wc.heap.size ≤ b0 ∧ Kp wc wr ∧ Both wc bi Bb v d
theorem Old.kp {b0 Bb : Nat} {wr w' : World} {v : Value} (h : Old b0 wr Bb v) (hk : Kp wr w') : Old b0 w' Bb v := by
  obtain ⟨wc, bi, d, h1, h2, h3⟩ := h
  exact ⟨wc, bi, d, h1, h2.trans hk, h3⟩
theorem Old.upto {b0 b1 Bb : Nat} {wr w' : World} {v : Value} (h : Old b0 wr Bb v) (hb : Below b0 wr w') (hle : b0 ≤ b1) : Old b1 w' Bb v := by
  obtain ⟨wc, bi, d, h1, h2, h3⟩ := h
  exact ⟨wc, bi, d, Nat.le_trans h1 hle, h2.upto hb h1, h3⟩
theorem row_fzT {w w' : World} {b e s n : Nat} {v : Value} {xs : List Value} (h : w.ownsRow b e s v n xs) (hf : Fz w w') (h1 : e ≠ 56) (h2 : e ≠ 70) (h3 : e ≠ 53) : w'.ownsRow b e s v n xs := by
  refine ⟨h.1, ?_⟩
  rcases h.2 with h | ⟨g, cap, cur, q1, q2, q3, q4⟩
  · exact .inl h
  · exact .inr ⟨g, cap, cur, q1, q2, hf.block q3 h1 h2 h3, q4⟩
def ptrs (l : List Nat) : List Value := l.map fun b => .pointer (some ⟨b, 0, none⟩)
/-- The two at hand, and the older ones. -/
structure PP (w0 wr : World) (b0 Bb : Nat) (v : Value) (d : List UInt8) (l8 : List Nat) (l9 : List Value) (v8 v9 : Value) : Prop where
  both : Both wr b0 Bb v d
  bb : b0 ≤ wr.heap.size
  lo : w0.heap.size ≤ b0
  olds : ∀ (i a : Nat) (u : Value), l8[i]? = some a → l9[i]? = some u → Old b0 wr a u
  r8 : wr.ownsRow w0.heap.size 24 1 v8 l8.length (ptrs l8)
  r9 : wr.ownsRow w0.heap.size 29 1 v9 l9.length l9
  bel : Below w0.heap.size w0 wr
section
variable {w0 wr w' : World} {b0 Bb : Nat} {v v8 v9 : Value} {d : List UInt8} {l8 : List Nat} {l9 : List Value}
theorem PP.below (h : PP w0 wr b0 Bb v d l8 l9 v8 v9) (hb : Below wr.heap.size wr w') : PP w0 w' b0 Bb v d l8 l9 v8 v9 :=
  ⟨h.both.kp (.below hb), Nat.le_trans h.bb hb.size, h.lo, fun i a u h1 h2 => (h.olds i a u h1 h2).kp (.below hb), row_below h.r8 hb, row_below h.r9 hb, h.bel.trans (hb.mono h.bel.size)⟩
theorem PP.step (h : PP w0 wr b0 Bb v d l8 l9 v8 v9) {v' : Value} {d' : List UInt8} (h1 : Both w' b0 Bb v' d') (h2 : Below b0 wr w') (h3 : Fz wr w') : PP w0 w' b0 Bb v' d' l8 l9 v8 v9 :=
  ⟨h1, Nat.le_trans h.bb h2.size, h.lo, fun i a u q1 q2 => (h.olds i a u q1 q2).upto h2 (Nat.le_refl _), row_fzT h.r8 h3 (by decide) (by decide) (by decide), row_fzT h.r9 h3 (by decide) (by decide) (by decide), h.bel.trans (h2.mono h.lo)⟩
/-- A copy is made. -/
theorem PP.copy (h : PP w0 wr b0 Bb v d l8 l9 v8 v9) {C : Nat} {w1 : World} {ls : List (Nat × Bool)} (h1 : BAt w1 b0 Bb d ls) (h2 : w1.heap.size = wr.heap.size) (h3 : Below b0 wr w1) (h4 : Below wr.heap.size w1 w') (h5 : BAt w' wr.heap.size C d ls) (h6 : Oth wr w1) : PP w0 w' wr.heap.size C v d l8 l9 v8 v9 ∧ Old wr.heap.size w' Bb v := by
  have hf : Fz wr w1 := h6.fr.fz
  have h4' : Below w1.heap.size w1 w' := by rw [h2]; exact h4
  have hz := h4.size
  have hrow : w1.ownsRow 0 5 1 v d.length (u8s d) := row_fz h.both.row hf
  refine ⟨⟨⟨⟨ls, h5⟩, row_below hrow h4', h.both.len⟩, (by have := h4'.size; omega), Nat.le_trans h.lo h.bb, fun i a u q1 q2 => ((h.olds i a u q1 q2).upto h3 h.bb).kp (.below h4'), row_below (row_fzT h.r8 hf (by decide) (by decide) (by decide)) h4', row_below (row_fzT h.r9 hf (by decide) (by decide) (by decide)) h4', ?_⟩, w1, b0, d, (by rw [h2]; exact Nat.le_refl _), .below h4', ⟨⟨ls, h1⟩, hrow, h.both.len⟩⟩
  have hb := h.bel.trans (h3.mono h.lo)
  exact hb.trans (h4.mono h.bel.size)
theorem kp_grown {t n b : Nat} {x : Value} {xs : List Value} {o : Obj} (h : wr.ownsRow b t 1 x n xs) (ht : ¬ kinT t) (hg : (wr.alloc o).grownBy w' x.ownBlock) : Kp wr w' := by
  refine ⟨Nat.le_trans (by simp) hg.size, fun k c t' f hk hkt => ?_⟩
  have hlt := blk_lt hk
  refine (hg.block k (by simp; omega) (fun e => ?_)).trans ((Below.heap_alloc _ _ _ hlt).trans hk)
  rcases h.2 with ⟨rfl, _⟩ | ⟨g, cap, cur, rfl, _, hgb, _⟩
  · cases e
  · have : k = g := by simpa [Value.ownBlock] using e
    subst this
    rw [hgb] at hk
    cases hk
    exact ht hkt
theorem row_grown {t t' n n' s b b' : Nat} {x y : Value} {xs ys : List Value} {o : Obj} (h : wr.ownsRow b t 1 x n xs) (h' : wr.ownsRow b' t' s y n' ys) (ht : t ≠ t') (hg : (wr.alloc o).grownBy w' x.ownBlock) : w'.ownsRow b' t' s y n' ys := by
  refine ⟨h'.1, ?_⟩
  rcases h'.2 with q | ⟨g, cap, cur, q1, q2, q3, q4⟩
  · exact .inl q
  · refine .inr ⟨g, cap, cur, q1, q2, ?_, q4⟩
    have hlt := blk_lt q3
    refine (hg.block g (by simp; omega) (fun e => ?_)).trans ((Below.heap_alloc _ _ _ hlt).trans q3)
    rcases h.2 with ⟨rfl, _⟩ | ⟨g', cap', cur', rfl, _, hgb, _⟩
    · cases e
    · have : g = g' := by simpa [Value.ownBlock] using e
      subst this
      rw [hgb] at q3
      cases q3
      exact ht rfl
theorem bel_grown {t n : Nat} {x : Value} {xs : List Value} {o : Obj} (h : wr.ownsRow w0.heap.size t 1 x n xs) (hb : Below w0.heap.size w0 wr) (hg : (wr.alloc o).grownBy w' x.ownBlock) : Below w0.heap.size w0 w' :=
  Below.grown (hb.alloc hb.size o) hg (Nat.le_trans hb.size (by simp)) (fun k hk => (h.lt k hk).1)
theorem PP.app8 (h : PP w0 wr b0 Bb v d l8 l9 v8 v9) {v' : Value} {a : Nat} {o : Obj} (hr : w'.ownsRow w0.heap.size 24 1 v' (l8.length + 1) (ptrs l8 ++ [.pointer (some ⟨a, 0, none⟩)])) (hg : (wr.alloc o).grownBy w' v8.ownBlock) (hl : l9.length ≤ l8.length) : PP w0 w' b0 Bb v d (l8 ++ [a]) l9 v' v9 ∧ Kp wr w' := by
  have hk := kp_grown h.r8 (by unfold kinT; decide) hg
  refine ⟨⟨h.both.kp hk, Nat.le_trans h.bb hk.size, h.lo, ?_, ?_, row_grown h.r8 h.r9 (by decide) hg, bel_grown h.r8 h.bel hg⟩, hk⟩
  · intro i x u h1 h2
    have hi : i < l9.length := (List.getElem?_eq_some_iff.1 h2).1
    rw [List.getElem?_append_left (by omega)] at h1
    exact (h.olds i x u h1 h2).kp hk
  · rw [List.length_append, show ptrs (l8 ++ [a]) = ptrs l8 ++ [.pointer (some ⟨a, 0, none⟩)] from by unfold ptrs; rw [List.map_append]; rfl]; exact hr
theorem PP.app9 (h : PP w0 wr b0 Bb v d l8 l9 v8 v9) {v' u : Value} {o : Obj} (hr : w'.ownsRow w0.heap.size 29 1 v' (l9.length + 1) (l9 ++ [u])) (hg : (wr.alloc o).grownBy w' v9.ownBlock) (ho : ∀ a, l8[l9.length]? = some a → Old b0 wr a u) : PP w0 w' b0 Bb v d l8 (l9 ++ [u]) v8 v' := by
  have hk := kp_grown h.r9 (by unfold kinT; decide) hg
  refine ⟨h.both.kp hk, Nat.le_trans h.bb hk.size, h.lo, ?_, row_grown h.r9 h.r8 (by decide) hg, ?_, bel_grown h.r9 h.bel hg⟩
  · intro i x y h1 h2
    by_cases hi : i < l9.length
    · rw [List.getElem?_append_left hi] at h2
      exact (h.olds i x y h1 h2).kp hk
    · have hi2 := (List.getElem?_eq_some_iff.1 h2).1
      rw [List.length_append] at hi2
      simp at hi2
      obtain rfl : i = l9.length := by omega
      rw [List.getElem?_append_right (by omega), Nat.sub_self] at h2
      simp at h2
      subst h2
      exact (ho x h1).kp hk
  · rw [List.length_append]; exact hr
end
end Go.Proofs.Ytpedinpjdepjdaa
