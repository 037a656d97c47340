/- Two memories side by side: whatever is done with one leaves the other. -/
import Derived.Test.YtblhikmhmnkclaaTwo
namespace Go.Proofs.Ytblhikmhmnkclaa
open Go.RowKit Go.Lib
variable {K L : Nat → Prop}
theorem BAt.bbLt {w : World} {base Bb : Nat} {d : List UInt8} {ls : List (Nat × Bool)} (h : BAt K w base Bb d ls) : Bb < w.heap.size := by
  obtain ⟨v, hv, _⟩ := h.blk; exact (Array.getElem?_eq_some_iff.1 hv).1
/-- Two objects: of every block one of them keeps off. -/
structure Pair (K L : Nat → Prop) (w : World) (Ba Bb : Nat) (da db : List UInt8) : Prop where
  a : ∃ ls, BAt K w Ba Ba da ls
  b : ∃ ls, BAt L w Bb Bb db ls
  cov : ∀ k, k < w.heap.size → K k ∨ L k
  nka : ¬ K Ba
  nlb : ¬ L Bb
/-- L, and all that has come since. -/
def Ext (w w' : World) (L : Nat → Prop) : Nat → Prop := fun k => k < w'.heap.size ∧ (w.heap.size ≤ k ∨ L k)
theorem Pair.symm {w : World} {Ba Bb : Nat} {da db : List UInt8} (h : Pair K L w Ba Bb da db) : Pair L K w Bb Ba db da := ⟨h.b, h.a, fun k hk => (h.cov k hk).symm, h.nlb, h.nka⟩
theorem Pair.opA {w w' : World} {Ba Bb : Nat} {da db da' : List UInt8} (h : Pair K L w Ba Bb da db) (ha : ∃ ls, BAt K w' Ba Ba da' ls) (hF : ∀ k, K k → k < w.heap.size → w'.heap[k]? = w.heap[k]?) : Pair K (Ext w w' L) w' Ba Bb da' db := by
  obtain ⟨lb, hb⟩ := h.b
  have hlt := hb.bbLt
  refine ⟨ha, ⟨lb, hb.moved h.nlb (fun k hk hl => hF k ((h.cov k hl).resolve_right hk) hl) (fun k hk => hk.1) (fun k hk hl => hk.2.resolve_left (by omega))⟩, fun k hk => ?_, h.nka, fun hk => h.nlb (hk.2.resolve_left (by omega))⟩
  by_cases hl : k < w.heap.size
  · rcases h.cov k hl with h1 | h1
    · exact .inl h1
    · exact .inr ⟨hk, .inr h1⟩
  · exact .inr ⟨hk, .inl (by omega)⟩
theorem Pair.below {w w' : World} {Ba Bb : Nat} {da db : List UInt8} (h : Pair K L w Ba Bb da db) (hb : Below w.heap.size w w') : Pair K (Ext w w' L) w' Ba Bb da db := by
  obtain ⟨la, ha⟩ := h.a
  exact h.opA ⟨la, ha.below hb⟩ (fun k _ hl => hb.block k hl)
theorem Pair.first {w w' : World} {Ba Bb : Nat} {da db : List UInt8} {la lb : List (Nat × Bool)} (ha : BAt K w Ba Ba da la) (hB : w.heap.size = Bb) (hb : BAt L w' Bb Bb db lb) (hp : ∀ x ∈ lb, Bb ≤ x.1) (hw : Below w.heap.size w w') : Pair (Mid Bb w'.heap.size) (Lo Bb) w' Ba Bb da db := by
  have h1 := ha.bbLt
  have hs := hw.size
  subst hB
  refine ⟨⟨la, ha.later hw (fun k hk => hk)⟩, ⟨lb, hb.toK (fun k hk => Nat.lt_of_lt_of_le hk hs) (fun x hx hk => ?_) (fun k hk h2 _ => ?_)⟩, fun k hk => ?_, fun hk => ?_, fun hk => Nat.lt_irrefl _ hk⟩
  · have := hp x hx; unfold Lo at hk; omega
  · unfold Lo at hk; omega
  · unfold Mid Lo; omega
  · have := hk.1; omega
theorem over_named {K : Nat → Prop} {base Bb : Nat} {n : Int} {r : List Int} {pc : Int} {d : List UInt8} {ls : List (Nat × Bool)} {w : World} (hn : n ≤ 9223372036854775807) (hk : okR r pc) (h : BAt K w base Bb d ls) {cs cs2 : Array Value} (hcs : (stC r pc).toArray = cs)
    {r2 : List Int} {pc2 : Int} {d2 : List UInt8} {k2 : Nat} {wh2 : Int} (hx : overS n.toNat r pc d = (r2, pc2, d2, k2, wh2)) (hcs2 : (stC r2 pc2).toArray = cs2) :
    Calls Try.prog 9 #[.pointer (some ⟨Bb, 0, none⟩), .agg cs, .int .i64 n] w fun e w' => e = .returned (.tuple #[.agg cs2, .int .i64 k2, .int .i64 wh2]) ∧ (∃ ls', BAt K w' base Bb d2 ls') ∧ Below base w w' ∧ Fr K w w' := by
  have := Over_any base Bb n r pc d ls w hn hk h
  rw [hx] at this
  unfold OverP stV at this
  simp only at this
  rw [hcs, hcs2] at this
  exact this
end Go.Proofs.Ytblhikmhmnkclaa
