/- Two rows of numbers that grow side by side; what List answers. -/
import Derived.Test.YtlblfelfaopjiaaSumsM
import Derived.Test.YtlblfelfaopjiaaLinkR
namespace Go.Proofs.Ytlblfelfaopjiaa
open Go.RowKit Go.Sort
structure RP (w : World) (B br cr bl cl : Nat) (R Lk : List Int) : Prop where
  r : w.ownsRow B 3 1 (.slice (some ⟨br, 0, none⟩) R.length cr) R.length (ivs R)
  l : w.ownsRow B 3 1 (.slice (some ⟨bl, 0, none⟩) Lk.length cl) Lk.length (ivs Lk)
  ap : br ≠ bl
def FF (br bl : Nat) : Nat → Prop := fun k => k = br ∨ k = bl
theorem RP.lt {w : World} {B br cr bl cl : Nat} {R Lk : List Int} (h : RP w B br cr bl cl R Lk) : B ≤ br ∧ br < w.heap.size ∧ B ≤ bl ∧ bl < w.heap.size :=
  ⟨(h.r.lt br rfl).1, (h.r.lt br rfl).2, (h.l.lt bl rfl).1, (h.l.lt bl rfl).2⟩
theorem RP.same {w w' : World} {B br cr bl cl : Nat} {R Lk : List Int} (h : RP w B br cr bl cl R Lk) (hs : ∀ k, FF br bl k → w'.heap[k]? = w.heap[k]?) : RP w' B br cr bl cl R Lk :=
  ⟨row_same h.r (fun k hk => hs k (.inl (by simpa [Value.ownBlock] using hk.symm))), row_same h.l (fun k hk => hs k (.inr (by simpa [Value.ownBlock] using hk.symm))), h.ap⟩
theorem RP.below {w w' : World} {B br cr bl cl : Nat} {R Lk : List Int} (h : RP w B br cr bl cl R Lk) (hb : Below w.heap.size w w') : RP w' B br cr bl cl R Lk :=
  h.same (fun k hk => hb.block k (by
    rcases hk with e | e
    · rw [e]; exact h.lt.2.1
    · rw [e]; exact h.lt.2.2.2))
theorem Fm.tr {a b c : World} {F G H : Nat → Prop} (h : Fm a b F G) (k : Fm b c G H) : Fm a c F H := by
  refine ⟨k.os.trans h.os, k.tape.trans h.tape, k.output.trans h.output, Nat.le_trans h.size k.size, fun j hj hf => ?_, fun j hj => ?_⟩
  · refine (k.same j (Nat.lt_of_lt_of_le hj h.size) (fun hg => ?_)).trans (h.same j hj hf)
    rcases h.new j hg with e | e
    · exact hf e
    · omega
  · rcases k.new j hj with e | e
    · exact h.new j e
    · have := h.size; exact .inr (by omega)
theorem own_some {w : World} {B : Nat} {v : Value} {l : List Int} (h : w.ownsRow B 3 1 v l.length (ivs l)) (hn : 0 < l.length) : ∃ b c, v = .slice (some ⟨b, 0, none⟩) l.length c := by
  rcases h.2 with ⟨_, h0⟩ | ⟨g, cap', cur, hv, _⟩
  · omega
  · exact ⟨g, cap', hv⟩
theorem RP.addR {w w' : World} {B br cr bl cl : Nat} {R Lk : List Int} {x : Int} {v' : Value} (h : RP w B br cr bl cl R Lk) (ho : w'.ownsRow B 3 1 v' (R ++ [x]).length (ivs (R ++ [x]))) (hg : w.grownBy w' (some br)) (hn : ∀ k, v'.ownBlock = some k → some br = some k ∨ w.heap.size ≤ k) :
    ∃ br' cr', v' = .slice (some ⟨br', 0, none⟩) (R ++ [x]).length cr' ∧ RP w' B br' cr' bl cl (R ++ [x]) Lk ∧ Fm w w' (FF br bl) (FF br' bl) := by
  obtain ⟨b, c, rfl⟩ := own_some ho (by simp)
  have hb := hn b rfl
  have hl := h.lt
  have hbl : bl ≠ b := fun e => by
    rcases hb with e2 | e2
    · have := h.ap; simp at e2; omega
    · omega
  refine ⟨b, c, rfl, ⟨ho, row_same h.l (fun k hk => hg.block k ?_ ?_), Ne.symm hbl⟩, ⟨hg.os, hg.tape, hg.output, hg.size, fun k hk hf => hg.block k hk (fun e => hf (.inl (by simpa using e))), fun k hk => ?_⟩⟩
  · have : bl = k := by simpa [Value.ownBlock] using hk
    omega
  · have : bl = k := by simpa [Value.ownBlock] using hk
    intro e; have := h.ap; simp at e; omega
  · rcases hk with e | e
    · subst e
      rcases hb with e2 | e2
      · exact .inl (.inl (by simpa using e2.symm))
      · exact .inr e2
    · exact .inl (.inr e)
theorem RP.symm {w : World} {B br cr bl cl : Nat} {R Lk : List Int} (h : RP w B br cr bl cl R Lk) : RP w B bl cl br cr Lk R := ⟨h.l, h.r, h.ap.symm⟩
theorem FF.symm {a b : Nat} : FF a b = FF b a := by funext k; unfold FF; exact propext Or.comm
theorem RP.addL {w w' : World} {B br cr bl cl : Nat} {R Lk : List Int} {x : Int} {v' : Value} (h : RP w B br cr bl cl R Lk) (ho : w'.ownsRow B 3 1 v' (Lk ++ [x]).length (ivs (Lk ++ [x]))) (hg : w.grownBy w' (some bl)) (hn : ∀ k, v'.ownBlock = some k → some bl = some k ∨ w.heap.size ≤ k) :
    ∃ bl' cl', v' = .slice (some ⟨bl', 0, none⟩) (Lk ++ [x]).length cl' ∧ RP w' B br cr bl' cl' R (Lk ++ [x]) ∧ Fm w w' (FF br bl) (FF br bl') := by
  obtain ⟨b, c, e, h1, h2⟩ := h.symm.addR ho hg hn
  exact ⟨b, c, e, h1.symm, by rw [FF.symm (a := br), FF.symm (a := br)]; exact h2⟩
theorem RP.set {w : World} {B br cr bl cl : Nat} {R Lk : List Int} (h : RP w B br cr bl cl R Lk) (a : Nat) (v : Int) : RP (w.setCell ⟨bl, a, none⟩ (.int .i64 v)) B br cr bl cl R (Lk.set a v) ∧ Fm w (w.setCell ⟨bl, a, none⟩ (.int .i64 v)) (FF br bl) (FF br bl) := by
  obtain ⟨h1, hg⟩ := h.l.stored a (.int .i64 v)
  refine ⟨⟨row_same h.r (fun k hk => hg.block k ?_ ?_), ?_, h.ap⟩, ⟨hg.os, hg.tape, hg.output, hg.size, fun k hk hf => hg.block k hk (fun e => hf (.inr (by simpa using e))), fun k hk => .inl hk⟩⟩
  · have : br = k := by simpa [Value.ownBlock] using hk
    have := h.lt; omega
  · have : br = k := by simpa [Value.ownBlock] using hk
    intro e; have := h.ap; simp at e; omega
  · rw [List.length_set, show ivs (Lk.set a v) = (ivs Lk).set a (.int .i64 v) from by unfold ivs; rw [List.map_set]]
    exact h1
theorem list_hi {w : World} {base tb mb : Nat} {F : Nat → Prop} {S : Abs} (h : HI w base tb mb F S) (x : Int) (o : Ob) (ho : S x = some o) :
    Calls Try.prog 15 #[.pointer (some ⟨tb, 0, none⟩), .int .i64 x] w fun e w' => ∃ p cap c, e = .returned (.tuple #[.slice p o.ents.length cap, .int .i64 c]) ∧ w'.ownsRow w.heap.size 3 1 (.slice p o.ents.length cap) o.ents.length (ivs o.ents) ∧ Below w.heap.size w w' ∧ ((c = 0 ∧ o.kind = 1) ∨ (c ≠ 0 ∧ o.kind ≠ 1 ∧ o.used = 0 ∧ o.ents = [])) := by
  obtain ⟨K, D, T, h1, h2, _, h4⟩ := h
  obtain ⟨r, hr, rfl⟩ := h2.some ho
  have g := h4.ok x r.ob ho
  have hel := h4.elen ho
  have hlen := h4.len
  by_cases hk : r.ob.kind = 1
  · refine (List_ok h1 x (ct_i64 g.ct) r hr hk (by omega)).mono ?_
    rintro e w' ⟨v, rfl, hrow, hb⟩
    obtain ⟨sp, cp, rfl⟩ := row_form hrow
    exact ⟨sp, cp, 0, rfl, hrow, hb, .inl ⟨rfl, hk⟩⟩
  · have he := g.non hk
    have hc5 : contE T x = 5 := by unfold contE; rw [hr]; simp only [if_neg hk]
    refine (List_no h1 x (ct_i64 g.ct) (by rw [hc5]; decide)).mono ?_
    rintro e w' ⟨rfl, rfl⟩
    refine ⟨none, 0, 5, by rw [he, hc5]; rfl, by rw [he]; exact World.ownsRow_nil _ _ _ _, Below.refl _ _, .inr ⟨by decide, hk, by rw [g.us, he]; rfl, he⟩⟩
end Go.Proofs.Ytlblfelfaopjiaa
