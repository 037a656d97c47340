/- Two memories at once. -/
import Derived.Test.YtblhikmhmnkclaaEqS
namespace Go.Proofs.Ytblhikmhmnkclaa
open Go.RowKit Go.Lib
variable {K K' : Nat → Prop}
/-- What none of its blocks K is has stayed: the object is as it was. -/
theorem BAt.moved {w w' : World} {base Bb : Nat} {d : List UInt8} {ls : List (Nat × Bool)} (h : BAt K w base Bb d ls) (hBb : ¬ K Bb) (hsame : ∀ k, ¬ K k → k < w.heap.size → w'.heap[k]? = w.heap[k]?) (hl : ∀ k, K' k → k < w'.heap.size) (hd : ∀ k, K' k → k < w.heap.size → K k) : BAt K' w' base Bb d ls := by
  obtain ⟨v, hv, hr⟩ := h.blk
  have hsB := hsame Bb hBb (Array.getElem?_eq_some_iff.1 hv).1
  refine ⟨⟨v, hsB.trans hv, hr.1, ?_⟩, fun i x hi => ⟨?_, (h.pgs i x hi).2⟩, h.dis, h.len, h.cnt, h.bb, hl, fun x hx hk => h.foe.pg x hx (hd _ hk (h.lt hx)), fun c t f a n cp e e1 hk => ?_⟩
  · rcases hr.2 with ⟨a, b⟩ | ⟨g, cap, cur, rfl, b, c1, c2, c3, c4, c5⟩
    · exact .inl ⟨a, b⟩
    · exact .inr ⟨g, cap, cur, rfl, b, (hsame g (h.foe.row _ _ _ ⟨g, 0, none⟩ _ _ hv rfl) (Array.getElem?_eq_some_iff.1 c1).1).trans c1, c2, c3, c4, c5⟩
  · have h1 := (h.pgs i x hi).1
    exact (hsame _ (h.foe.pg x (List.mem_of_getElem? hi)) (Array.getElem?_eq_some_iff.1 h1).1).trans h1
  · have e' := hsB.symm.trans e
    exact h.foe.row c t f a n cp e' e1 (hd _ hk (h.row_ge e' e1).2)
/-- The blocks that have come are none of its own. -/
theorem BAt.later {w w' : World} {base Bb : Nat} {d : List UInt8} {ls : List (Nat × Bool)} (h : BAt K w base Bb d ls) (hb : Below w.heap.size w w') (hl : ∀ k, K' k → w.heap.size ≤ k ∧ k < w'.heap.size) : BAt K' w' base Bb d ls := by
  have h' := h.below hb
  obtain ⟨v, hv, hr⟩ := h.blk
  refine ⟨h'.blk, h'.pgs, h'.dis, h'.len, h'.cnt, h'.bb, fun k hk => (hl k hk).2, fun x hx hk => ?_, fun c t f a n cp e e1 hk => ?_⟩
  · have := h.lt hx
    have := (hl _ hk).1
    omega
  · have e' := (hb.block Bb (Array.getElem?_eq_some_iff.1 hv).1).symm.trans e
    have := (h.row_ge e' e1).2
    have := (hl _ hk).1
    omega
/-- The blocks from a up to b. -/
def Mid (a b : Nat) : Nat → Prop := fun k => a ≤ k ∧ k < b
/-- The blocks below c that are none of those from a up to b. -/
def Out (a b c : Nat) : Nat → Prop := fun k => k < c ∧ (k < a ∨ b ≤ k)
theorem overS_add (m : Nat) : ∀ (n : Nat) (r : List Int) (pc : Int) (d : List UInt8), overS (n + m) r pc d = if (overS n r pc d).2.2.2.2 = 0 then plusK (overS n r pc d).2.2.2.1 (overS m (overS n r pc d).1 (overS n r pc d).2.1 (overS n r pc d).2.2.1) else overS n r pc d
  | 0, r, pc, d => by rw [Nat.zero_add]; rfl
  | n + 1, r, pc, d => by
    rw [show n + 1 + m = (n + m) + 1 from by omega]
    obtain ⟨r2, pc2, d2, wh, hs⟩ : ∃ r2 pc2 d2 wh, stepS r pc d = (r2, pc2, d2, wh) := ⟨_, _, _, _, rfl⟩
    by_cases hw : wh = 0
    · subst hw
      rw [overS_ran hs, overS_ran hs, overS_add m n r2 pc2 d2]
      generalize overS n r2 pc2 d2 = x
      have e : (plusK 1 x).2.2.2.2 = x.2.2.2.2 := rfl
      rw [e]
      split
      · rw [plusK_plusK]; rfl
      · rfl
    · rw [overS_stop hs hw, overS_stop hs hw]
      rw [if_neg hw]
theorem below_setRowW {n : Nat} {w w' : World} (h : Below n w w') {g : Nat} (hg : n ≤ g) (cs : Array Value) : Below n w (w'.setRow g cs) :=
  ⟨h.os, h.tape, h.output, by rw [size_setRow]; exact h.size, fun k hk => (heap_setRow_ne _ _ _ (by omega)).trans (h.block k hk)⟩
theorem state_laid (w : World) (cs : Array Value) : ∃ W : World, (w.alloc (.cells #[.int .u64 0, .int .u64 0, .int .u64 0, .int .u64 0, .int .u64 0, .int .u64 0, .int .u64 0, .int .u64 0, .int .u64 0, .int .u64 0, .int .u64 0, .int .u64 0, .int .u64 0, .int .u64 0, .int .u64 0, .int .u64 0, .int .u64 0] 25)).setRow w.heap.size cs = W ∧ W.heap[w.heap.size]? = some (.cells cs 25 (0, 0)) ∧ Below w.heap.size w W :=
  ⟨_, rfl, heap_setRow _ _ _ _ _ (heap_new _ _), below_setRowW ((Below.refl _ _).alloc (Nat.le_refl _) _) (Nat.le_refl _) _⟩
theorem u64_wrapm (n : Int) : IntKind.u64.wrap n = n % 18446744073709551616 := by
  simp [IntKind.wrap, IntKind.bits, IntKind.signed]
theorem mod_num (n : Int) (k : Nat) (h0 : 0 < k) (hk : k ≤ 4097) : ∃ m : Nat, m < k ∧ wrap64 ((IntKind.u64.wrap n).tmod k) = m := by
  have h1 : 0 ≤ IntKind.u64.wrap n := by rw [u64_wrapm]; omega
  refine ⟨((IntKind.u64.wrap n).tmod k).toNat, ?_, ?_⟩
  · rw [Int.tmod_eq_emod_of_nonneg h1]; have := Int.emod_lt_of_pos (IntKind.u64.wrap n) (by omega : (0 : Int) < k); have := Int.emod_nonneg (IntKind.u64.wrap n) (by omega : (k : Int) ≠ 0); omega
  · rw [Int.tmod_eq_emod_of_nonneg h1]
    have := Int.emod_lt_of_pos (IntKind.u64.wrap n) (by omega : (0 : Int) < k); have := Int.emod_nonneg (IntKind.u64.wrap n) (by omega : (k : Int) ≠ 0)
    rw [wrap64_id (by omega) (by omega)]; omega
theorem overS_le : ∀ (n : Nat) (r : List Int) (pc : Int) (d : List UInt8), (overS n r pc d).2.2.2.1 ≤ n
  | 0, _, _, _ => Nat.le_refl _
  | n + 1, r, pc, d => by
    unfold overS
    split
    · exact Nat.succ_le_succ (overS_le n _ _ _)
    · exact Nat.zero_le _
end Go.Proofs.Ytblhikmhmnkclaa
