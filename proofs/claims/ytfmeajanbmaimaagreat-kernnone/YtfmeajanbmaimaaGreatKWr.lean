/- A kernel one of whose segments was written. -/
import Derived.Test.YtfmeajanbmaimaaGreatKLink
import Derived.Test.YtfmeajanbmaimaaGreatPgRead
namespace Go.Proofs.YtfmeajanbmaimaaGreat
open Go.RowKit Go.Sort
/-- What a segment's writing must leave. -/
def Kx (n : Nat) (K : Kn) (id : Int) (k : Nat) : Prop := k < n ∧ K.own k ≠ some (.sg id)
theorem KAt.lo_le {lo : Nat} {W : World} {K : Kn} (h : KAt lo W K) : lo ≤ W.heap.size := Nat.le_of_lt (Nat.lt_of_le_of_lt (h.lt K.kb (by rw [h.okb]; simp)).1 (h.lt K.kb (by rw [h.okb]; simp)).2)
theorem KAt.seg {lo : Nat} {W : World} {K : Kn} (h : KAt lo W K) {id : Int} {B : Nat} (hB : K.fS (Wa.ky id) = some B) : ∃ b ls, lo ≤ b ∧ Pg.BAt (Kx W.heap.size K id) W b B (K.sd id) ls := by
  obtain ⟨b, hb, ls, hA, h1, h2, h3⟩ := h.sgs id B hB
  exact ⟨b, ls, hb, hA.blk, hA.pgs, hA.dis, hA.len, hA.cnt, hA.bb, ⟨fun k hk => hk.1, fun x hx hk => hk.2 (h2 x hx), fun c t f a n cp e1 e2 hk => hk.2 (h3 c t f a n cp e1 e2)⟩⟩
theorem KAt.notX {lo : Nat} {W W' : World} {K : Kn} (h : KAt lo W K) {id : Int} {B b : Nat} (hB : K.fS (Wa.ky id) = some B) {d : List UInt8} {ls : List (Nat × Bool)} (hA : Pg.BAt (Kx W.heap.size K id) W' b B d ls) : ∀ k, segF W' B ls k → ¬ Kx W.heap.size K id k := fun k hs hx => by
  have hoB : K.own B = some (.sg id) := by obtain ⟨b, hb, ls, hA, h1, h2, h3⟩ := h.sgs id B hB; exact h1
  rcases hs with rfl | ⟨x, hx', rfl⟩ | ⟨c, t, f, a, n, cp, e1, e2, rfl⟩
  · exact hx.2 hoB
  · exact hA.foe.pg x hx' hx
  · exact hA.foe.row c t f a n cp e1 e2 hx
theorem KAt.wrote {lo : Nat} {W W' : World} {K : Kn} (h : KAt lo W K) {id : Int} {B b : Nat} (hB : K.fS (Wa.ky id) = some B) (hlo : lo ≤ b) {d : List UInt8} {ls : List (Nat × Bool)} (hA : Pg.BAt (Kx W.heap.size K id) W' b B d ls) (hz : W.heap.size ≤ W'.heap.size) (hk : ∀ k, Kx W.heap.size K id k → W'.heap[k]? = W.heap[k]?) :
    KAt lo W' { K with sd := fun i => if i = id then d else K.sd i, own := ownA (segF W' B ls) (.sg id) K.own } := by
  have hoB : K.own B = some (.sg id) := by obtain ⟨b, hb, ls, hA, h1, h2, h3⟩ := h.sgs id B hB; exact h1
  have kx : ∀ {k g}, K.own k = some g → g ≠ .sg id → Kx W.heap.size K id k := fun {k g} e hg => ⟨(h.lt k (by rw [e]; simp)).2, by rw [e]; exact fun e' => hg (Option.some.inj e')⟩
  have nk : ∀ k, segF W' B ls k → ¬ Kx W.heap.size K id k := fun k hs hx => by
    rcases hs with rfl | ⟨x, hx', rfl⟩ | ⟨c, t, f, a, n, cp, e1, e2, rfl⟩
    · exact hx.2 hoB
    · exact hA.foe.pg x hx' hx
    · exact hA.foe.row c t f a n cp e1 e2 hx
  have ks : ∀ {k g}, K.own k = some g → g ≠ .sg id → W'.heap[k]? = W.heap[k]? := fun e hg => hk _ (kx e hg)
  have ko : ∀ {k g}, K.own k = some g → g ≠ .sg id → ownA (segF W' B ls) (.sg id) K.own k = some g := fun {k g} e hg => (ownA_no (fun hs => nk k hs (kx e hg))).trans e
  refine ⟨(ks h.okb (by simp)).trans h.blk, h.tab.same (fun k hf' => ks (h.ot k hf') (by simp)), h.rms.same hz (fun k _ hf' => ks (h.orm k hf') (by simp)), h.mS.same (ks h.oS (by simp)), h.mT.same (ks h.oT (by simp)), h.mR.same (ks h.oR (by simp)), fun i C hC => ?_, fun i C hC => ?_, ko h.okb (by simp), fun k hf' => ko (h.ot k hf') (by simp), fun k hf' => ko (h.orm k hf') (by simp), ko h.oS (by simp), ko h.oP (by simp), ko h.oT (by simp), ko h.oG (by simp), ko h.oD (by simp), ko h.oR (by simp), fun k hk' => ?_⟩
  · obtain ⟨q1, q2, q3, q4, q5⟩ := h.thr i C hC
    exact ⟨(ks q2 (by simp)).trans q1, ko q2 (by simp), q3, lv_keep q4 hz (fun k e => ks (q5 k e) (by simp)), fun k e => ko (q5 k e) (by simp)⟩
  · by_cases hi : i = id
    · subst hi
      have hCB : C = B := Option.some.inj (hC.symm.trans hB)
      subst hCB
      refine ⟨b, hlo, ?_⟩
      show SegAt W' b C (if i = i then d else K.sd i) _ _
      rw [if_pos rfl]
      exact ⟨ls, ⟨hA.blk, hA.pgs, hA.dis, hA.len, hA.cnt, hA.bb, Pg.foe0 _ _ _⟩, ownA_yes (.inl rfl), fun x hx => ownA_yes (.inr (.inl ⟨x, hx, rfl⟩)), fun c t f a n cp hc hs => ownA_yes (.inr (.inr ⟨c, t, f, a, n, cp, hc, hs, rfl⟩))⟩
    · obtain ⟨b', q1, q2⟩ := h.sgs i C hC
      refine ⟨b', q1, ?_⟩
      show SegAt W' b' C (if i = id then d else K.sd i) _ _
      rw [if_neg hi]
      have hg : (KTag.sg i) ≠ .sg id := fun e => hi (by injection e)
      exact seg_own (seg_keep q2 (fun k e => ks e hg)) (fun k e => ko e hg)
  · by_cases hk'' : segF W' B ls k
    · refine ⟨?_, ?_⟩
      · have := nk k hk''
        unfold Kx at this
        by_cases h5 : k < W.heap.size
        · have h6 : K.own k = some (.sg id) := by
            cases h7 : K.own k with
            | none => exact absurd ⟨h5, by rw [h7]; simp⟩ this
            | some g => by_cases h8 : some g = some (.sg id); exact h8; exact absurd ⟨h5, by rw [h7]; exact h8⟩ this
          exact (h.lt k (by rw [h6]; simp)).1
        · have := h.lo_le; omega
      · rcases hk'' with rfl | ⟨x, hx', rfl⟩ | ⟨c, t, f, a, n, cp, e1, e2, rfl⟩
        · obtain ⟨v, hv, _⟩ := hA.blk; exact (Array.getElem?_eq_some_iff.1 hv).1
        · obtain ⟨i, hi, hix⟩ := List.getElem_of_mem hx'
          exact (Array.getElem?_eq_some_iff.1 (hA.pgs i x (by rw [List.getElem?_eq_getElem hi, hix])).1).1
        · obtain ⟨v, hv, hrow⟩ := hA.blk
          rw [hv] at e1; cases e1
          have e3 : v = .slice (some a) n cp := by simpa using e2
          exact (hrow.lt a.block (by rw [e3]; rfl)).2
    · change ownA (segF W' B ls) (.sg id) K.own k ≠ none at hk'
      rw [ownA_no hk''] at hk'
      exact ⟨(h.lt k hk').1, Nat.lt_of_lt_of_le (h.lt k hk').2 hz⟩
end Go.Proofs.YtfmeajanbmaimaaGreat
