/- What Make of the reference does where nothing is against it. -/
import Derived.Test.YtebcnlhgkpaghaaRefN
import Derived.Test.YtebcnlhgkpaghaaMonoD
namespace Go.Proofs.Ytebcnlhgkpaghaa
open Go.RowKit Go.Sort
section
variable {w : World} {rb g cap : Nat} {cs : Array Value} {root : Int} {L : List Th} {F : Nat → Prop} {S : Abs} {K : List Int} {rt : Int}
/-- Nothing but the things' own block has turned; ahead of the append not that either. -/
def RB (w : World) (g : Nat) (b : Bool) (X : World) : Prop := X.os = w.os ∧ X.tape = w.tape ∧ X.output = w.output ∧ w.heap.size ≤ X.heap.size ∧ ∀ k, k < w.heap.size → (k ≠ g ∨ b = false) → X.heap[k]? = w.heap[k]?
theorem RB.below {w X Y : World} {g : Nat} {b : Bool} (h : RB w g b X) (hb : Below X.heap.size X Y) : RB w g b Y :=
  ⟨hb.os.trans h.1, hb.tape.trans h.2.1, hb.output.trans h.2.2.1, Nat.le_trans h.2.2.2.1 hb.size, fun k hk hn => (hb.block k (Nat.lt_of_lt_of_le hk h.2.2.2.1)).trans (h.2.2.2.2 k hk hn)⟩
def nTh (id kind quota d : Int) (p : Option Addr) (cc : Nat) (xs : List (Int × Int)) : Th := ⟨id, kind, quota, d, p, cc, xs, none, 0, []⟩
def OneT (w : World) (t : Th) (v : Value) (X : World) : Prop := ∃ b, v = .slice (some ⟨b, 0, none⟩) 1 1 ∧ w.heap.size ≤ b ∧ X.heap[b]? = some (.cells (thC t).toArray 60 (0, 0))
theorem OneT.below {w : World} {t : Th} {v : Value} {X X' : World} (h : OneT w t v X) (hb : Below X.heap.size X X') : OneT w t v X' := by
  obtain ⟨b, h1, h2, h3⟩ := h
  exact ⟨b, h1, h2, (hb.block b (heap_lt h3)).trans h3⟩
theorem OneT.src {w : World} {t : Th} {v : Value} {X : World} (h : OneT w t v X) : ∃ q, v = .slice q [t].length 1 ∧ SrcT X q [t] := by
  obtain ⟨b, h1, h2, h3⟩ := h
  refine ⟨_, h1, .inr ⟨_, rfl, fun j u hu => ?_⟩⟩
  rw [thsC_one] at hu
  have : (⟨b, 0, none⟩ : Addr).add j = ⟨b, j, none⟩ := by rw [addr_plus]; simp
  rw [this]
  simp only [World.cell?, h3]
  simpa using hu
/-- The row of things with one more. -/
def AllT (w : World) (g : Nat) (l : List Th) (v : Value) (X : World) : Prop := ∃ g' c', v = .slice (some ⟨g', 0, none⟩) l.length c' ∧ (g' = g ∨ w.heap.size ≤ g') ∧ X.ownsRow 0 60 6 v l.length (thsC l)
theorem AllT.below {w : World} {g : Nat} {l : List Th} {v : Value} {X X' : World} (h : AllT w g l v X) (hb : Below X.heap.size X X') : AllT w g l v X' := by
  obtain ⟨g', c', h1, h2, h3⟩ := h
  exact ⟨g', c', h1, h2, row_same h3 (fun k hk => hb.block k (h3.lt k hk).2)⟩
theorem appT_at {X : World} {v : Value} {l l' : List Th} {q : Option Addr} {c : Nat} (hown : X.ownsRow 0 60 6 v l.length (thsC l)) (hs : SrcT X q l') (hl : l.length + l'.length < 1000000) (ty : TypeId) :
    ∃ v' X', (Builtin.append_ #[61, 61] ty #[v, .slice q l'.length c]).run Try.prog X = .ok v' X' ∧ X'.ownsRow 0 60 6 v' (l ++ l').length (thsC (l ++ l')) ∧ X.grownBy X' v.ownBlock ∧ (v'.ownBlock = v.ownBlock ∨ v'.ownBlock = some X.heap.size) := by
  obtain ⟨i0, hi, hz0, hz1, hz2⟩ := info_parts thInfo
  have hT : Try.prog.underlying 61 = some (.slice 60) := by kernel_rfl
  rcases hs with ⟨rfl, rfl⟩ | ⟨a, rfl, hc⟩
  · rw [List.append_nil]
    exact ⟨_, X, run_append_owned_none (P := Try.prog) X 0 61 ty 60 i0 6 hT hi _ _ _ hown, hown, ⟨rfl, rfl, rfl, Nat.le_refl _, fun _ _ _ => rfl⟩, .inl rfl⟩
  · obtain ⟨v', w', hr, ho', hgw, _, hat⟩ := run_append_own_at (P := Try.prog) X 0 61 ty 60 i0 (.agg #[.int .i64 0, .int .i64 0, .int .i64 0, .int .i64 0, .slice none 0 0, .slice none 0 0]) 6 80 hT hi hz0 hz1 hz2 rfl (by decide) v l.length (thsC l) hown a l'.length c (thsC l') (thsC_len _) hc (thsC_cell _) (by unfold maxLen; omega) (by omega) (Nat.zero_le _)
    exact ⟨v', w', hr, by rw [List.length_append, thsC_app]; exact ho', hgw, hat⟩
/-- The table with one thing more, and its container's entry still to come. -/
theorem RS.grow {W X : World} {rb g cap : Nat} {cs : Array Value} {root : Int} {L : List Th} {F : Nat → Prop} (h : RS W rb g cap cs root L F) {t : Th} {g' c' : Nat} (hX : RB W g true X) (hA : X.ownsRow 0 60 6 (.slice (some ⟨g', 0, none⟩) (L.length + 1) c') (L.length + 1) (thsC (L ++ [t]))) (hg' : g' = g ∨ W.heap.size ≤ g')
    (hno : ∀ u ∈ L, u.id ≠ t.id) (hl : L.length < 4096) (hc : CatsAt W t.cp t.cats) (ho : Off (fun b => b = rb ∨ b = g ∨ F b) t.cp t.cats.length) (hlc : t.cats.length < 1000000) (hle : t.ents = []) :
    ∃ cs', RS (X.setCell ⟨rb, 1, none⟩ (.slice (some ⟨g', 0, none⟩) (L.length + 1) c')) rb g' c' cs' root (L ++ [t]) F ∧ Fm W (X.setCell ⟨rb, 1, none⟩ (.slice (some ⟨g', 0, none⟩) (L.length + 1) c')) (fun k => k = rb ∨ k = g) (fun k => k = rb ∨ k = g') := by
  have hr := h.rl
  have hne := h.ne
  have hXrb : X.heap[rb]? = some (.cells #[.int .i64 root, .slice (some ⟨g, 0, none⟩) L.length cap] 63 (0, 0)) := (hX.2.2.2.2 rb hr.1 (.inl hne)).trans h.tab
  rcases hA.2 with ⟨e, _⟩ | ⟨g2, c2, cur, e, _, hb, h2, h3, h4, h5⟩
  · cases e
  · simp only [Value.slice.injEq, Option.some.injEq, Addr.mk.injEq, and_true, true_and] at e
    obtain ⟨rfl, rfl⟩ := e
    have hneg : rb ≠ g' := fun e => by rw [e, hb] at hXrb; simp at hXrb
    refine ⟨cur, h.put (W := W) (Below.refl _ _) (W' := X.setCell ⟨rb, 1, none⟩ (.slice (some ⟨g', 0, none⟩) (L.length + 1) c')) (L' := L ++ [t]) ?_ ?_ h4 (by simpa using h2) (fun j u hu => ?_) ?_ ⟨by simp; omega, fun u hu => ?_⟩ h3 ⟨hX.1, hX.2.1, hX.2.2.1⟩ (by simpa using hX.2.2.2.1) (fun k hk h1 h6 h7 => ?_) hg' (fun u hu => ?_)⟩
    · rw [heap_setCell_same X rb 1 _ _ _ hXrb]; simp
    · rw [heap_ne _ _ _ (fun e => hneg e.symm)]; exact hb
    · have hj : j < (L.length + 1) * 6 := by have := (List.getElem?_eq_some_iff.1 hu).1; rw [thsC_len] at this; simpa using this
      rw [← h5, List.getElem?_take_of_lt hj, Array.getElem?_toList] at hu
      exact hu
    · rw [List.map_append, List.nodup_append]
      exact ⟨h.nd, by simp, fun a ha b hb' e => by simp at hb'; obtain ⟨u, hu, rfl⟩ := List.mem_map.1 ha; exact hno u hu (e.trans hb')⟩
    · rcases List.mem_append.1 hu with hu | hu
      · exact h.lim.2 u hu
      · simp at hu; subst hu; exact ⟨hlc, by rw [hle]; decide⟩
    · rw [heap_ne _ _ _ h1]; exact hX.2.2.2.2 k hk (.inl h6)
    · rcases List.mem_append.1 hu with hu | hu
      · exact h.old (Below.refl _ _) hg' hu
      · simp at hu; subst hu
        refine ⟨hc, (fun j hj => by rw [hle] at hj; simp at hj), fun hn a ha hx => ?_, fun hn => by rw [hle] at hn; simp at hn⟩
        rcases hx with e | e | e | e
        · exact ho hn a ha (.inl e)
        · exact ho hn a ha (.inr (.inl e))
        · rcases hg' with e2 | e2
          · exact ho hn a ha (.inr (.inl (e.trans e2)))
          · obtain ⟨b, off, hp, hbl, _⟩ := hc 0 hn
            rw [ha] at hp; cases hp; simp at e; omega
        · exact ho hn a ha (.inr (.inr e))
end
end Go.Proofs.Ytebcnlhgkpaghaa
