/- What Put of the reference answers, for every label. -/
import Derived.Test.YtfpjeclbilhgdaaDoorNamed
import Derived.Test.YtfpjeclbilhgdaaDoorTurn
import Derived.Laws.AppendOwnNone
namespace Go.Proofs.YtfpjeclbilhgdaaDoor
open Go.RowKit Go.Sort

/-- A slice of entries: none at all, or one that lies plainly, at B or behind it. -/
def Rw (B : Nat) (W : World) (v : Value) (zs : List (Int × Int)) : Prop := (v = .slice none 0 0 ∧ zs = []) ∨ ∃ b off cap, v = .slice (some ⟨b, off, none⟩) zs.length cap ∧ zs.length ≤ cap ∧ (B ≤ b ∧ b < W.heap.size) ∧ CatsAt W (some ⟨b, off, none⟩) zs
theorem Rw.below {B : Nat} {w w' : World} {v : Value} {zs : List (Int × Int)} (h : Rw B w v zs) (hb : Below w.heap.size w w') : Rw B w' v zs := by
  rcases h with ⟨h1, h2⟩ | ⟨b, off, cap, h1, h2, h3, h4⟩
  · exact .inl ⟨h1, h2⟩
  · exact .inr ⟨b, off, cap, h1, h2, ⟨h3.1, Nat.lt_of_lt_of_le h3.2 hb.size⟩, h4.below hb⟩
theorem Rw.own {B B' : Nat} {w : World} {v : Value} {zs : List (Int × Int)} (h : w.ownsRow B' 35 2 v zs.length (flat zs)) (hB : B ≤ B') : Rw B w v zs := by
  obtain ⟨p, cap, e, hc, hl⟩ := own_out h
  have h' := h
  obtain ⟨_, h2⟩ := h
  rcases h2 with ⟨rfl, hn⟩ | ⟨g, cap, cur, rfl, hg, hh, hn, _⟩
  · exact .inl ⟨rfl, List.eq_nil_of_length_eq_zero hn⟩
  · cases e
    exact .inr ⟨g, 0, cap, rfl, hn, ⟨Nat.le_trans hB (h'.lt g rfl).1, (h'.lt g rfl).2⟩, hc⟩
theorem Rw.set {B : Nat} {w : World} {v : Value} {zs : List (Int × Int)} (h : Rw B w v zs) {a : Addr} (ha : a.block < B) (u : Value) : Rw B (w.setCell a u) v zs := by
  rcases h with ⟨h1, h2⟩ | ⟨b, off, cap, h1, h2, h3, h4⟩
  · exact .inl ⟨h1, h2⟩
  · refine .inr ⟨b, off, cap, h1, h2, ⟨h3.1, by simpa using h3.2⟩, fun j hj => ?_⟩
    obtain ⟨b', off', e, hb', c0, c1⟩ := h4 j hj
    cases e
    exact ⟨b, off, rfl, by simpa using h3.2, by rw [World.cell?_setCell_other _ _ _ _ (fun e => by have := congrArg Addr.block e; simp at this; omega)]; exact c0, by rw [World.cell?_setCell_other _ _ _ _ (fun e => by have := congrArg Addr.block e; simp at this; omega)]; exact c1⟩
theorem Rw.mono {B B' : Nat} {w : World} {v : Value} {zs : List (Int × Int)} (h : Rw B w v zs) (hB : B' ≤ B) : Rw B' w v zs := by
  rcases h with ⟨h1, h2⟩ | ⟨b, off, cap, h1, h2, h3, h4⟩
  · exact .inl ⟨h1, h2⟩
  · exact .inr ⟨b, off, cap, h1, h2, ⟨Nat.le_trans hB h3.1, h3.2⟩, h4⟩
theorem Rw.out {B : Nat} {w : World} {v : Value} {zs : List (Int × Int)} (h : Rw B w v zs) : ∃ p cap, v = .slice p zs.length cap ∧ CatsAt w p zs ∧ zs.length ≤ cap := by
  rcases h with ⟨rfl, rfl⟩ | ⟨b, off, cap, h1, h2, h3, h4⟩
  · exact ⟨none, 0, rfl, fun j hj => by simp at hj, Nat.le_refl _⟩
  · exact ⟨_, cap, h1, h4, h2⟩
theorem addr_add2 (b off j : Nat) : (⟨b, off, none⟩ : Addr).add j = ⟨b, off + j, none⟩ := by
  by_cases h : j = 0 <;> simp [Addr.add, h]
theorem flat_cells {w : World} {b off : Nat} {xs : List (Int × Int)} (h : CatsAt w (some ⟨b, off, none⟩) xs) : ∀ j u, (flat xs)[j]? = some u → w.cell? ((⟨b, off, none⟩ : Addr).add j) = some u := by
  intro j u hu
  have hj : j < xs.length * 2 := by rw [← flat_length]; exact (List.getElem?_eq_some_iff.1 hu).1
  obtain ⟨b', off', e, hb, c0, c1⟩ := h (j / 2) (by omega)
  cases e
  have hg := flat_get xs (j / 2) (by omega)
  rw [addr_add2]
  rcases Nat.mod_two_eq_zero_or_one j with hm | hm
  · have ej : j / 2 * 2 = j := by omega
    rw [ej] at hg c0
    rw [hg.1] at hu; cases hu; exact c0
  · have ej : j / 2 * 2 + 1 = j := by omega
    rw [ej] at hg
    rw [show off + j / 2 * 2 + 1 = off + j from by omega] at c1
    rw [hg.2] at hu; cases hu; exact c1
theorem flat_one' (xs : List (Int × Int)) : ∀ u ∈ flat xs, u.oneCell' = true := by
  induction xs with
  | nil => intro u hu; simp [flat] at hu
  | cons x xs ih => intro u hu; simp only [flat, List.mem_cons] at hu; rcases hu with rfl | rfl | hu; rfl; rfl; exact ih u hu

def putS (d : Int) (zs : List (Int × Int)) (c l : Int) : List (Int × Int) := if (l != d) = true then zs ++ [(c, l)] else zs
theorem putS_len (d : Int) (zs : List (Int × Int)) (c l : Int) : (putS d zs c l).length ≤ zs.length + 1 := by unfold putS; split <;> simp

end Go.Proofs.YtfpjeclbilhgdaaDoor
