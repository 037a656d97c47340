/- How the reference's table is changed in memory. -/
import Derived.Test.YtebcnlhgkpaghaaAppT
import Derived.Laws.Rows
namespace Go.Proofs.Ytebcnlhgkpaghaa
open Go.RowKit Go.Sort
section
variable {w W : World} {rb g cap : Nat} {cs : Array Value} {root : Int} {L : List Th} {F : Nat → Prop}
/-- What a thing names lies where it is not written. -/
def Lies (W : World) (rb g g' : Nat) (F : Nat → Prop) (t : Th) : Prop := CatsAt W t.cp t.cats ∧ IntsAt W t.lp t.ents ∧ Off (fun b => b = rb ∨ b = g ∨ b = g' ∨ F b) t.cp t.cats.length ∧ Off (fun b => b = rb ∨ b = g ∨ b = g' ∨ F b) t.lp t.ents.length
theorem RS.put {W' : World} {cs' : Array Value} {g' cap' : Nat} {L' : List Th} (h : RS w rb g cap cs root L F) (hb : Below w.heap.size w W)
    (tab' : W'.heap[rb]? = some (.cells #[.int .i64 root, .slice (some ⟨g', 0, none⟩) L'.length cap'] 63 (0, 0))) (blk' : W'.heap[g']? = some (.cells cs' 60 (0, 0)))
    (sz' : cs'.size = cap' * 6) (le' : L'.length ≤ cap') (cel' : ∀ (j : Nat) (u : Value), (thsC L')[j]? = some u → cs'[j]? = some u) (nd' : (L'.map (·.id)).Nodup) (lim' : L'.length ≤ 4096 ∧ ∀ t ∈ L', t.cats.length < 1000000 ∧ t.ents.length < 1000000) (cpl' : cap' ≤ maxLen)
    (os' : W'.os = W.os ∧ W'.tape = W.tape ∧ W'.output = W.output) (size' : W.heap.size ≤ W'.heap.size) (same' : ∀ k, k < W.heap.size → k ≠ rb → k ≠ g → k ≠ g' → W'.heap[k]? = W.heap[k]?) (hg' : g' = g ∨ w.heap.size ≤ g')
    (lies' : ∀ t ∈ L', Lies W rb g g' F t) : RS W' rb g' cap' cs' root L' F ∧ Fm w W' (fun k => k = rb ∨ k = g) (fun k => k = rb ∨ k = g') := by
  have hk : ∀ k, k < W.heap.size → ¬ (k = rb ∨ k = g ∨ k = g' ∨ F k) → W'.heap[k]? = W.heap[k]? := fun k hl hn => same' k hl (fun e => hn (.inl e)) (fun e => hn (.inr (.inl e))) (fun e => hn (.inr (.inr (.inl e))))
  have hzw := hb.size
  refine ⟨⟨tab', blk', sz', le', cel', fun t ht => ?_, fun t ht => ?_, h.frb, ?_, nd', lim', cpl', fun k hf => ?_⟩, ⟨os'.1.trans hb.os, os'.2.1.trans hb.tape, os'.2.2.trans hb.output, Nat.le_trans hb.size size', fun k hl hn => ?_, fun k hf => ?_⟩⟩
  · obtain ⟨c1, c2, o1, o2⟩ := lies' t ht
    exact ⟨cats_keep c1 o1 hk size', ints_keep c2 o2 hk size'⟩
  · obtain ⟨c1, c2, o1, o2⟩ := lies' t ht
    refine ⟨fun hn a ha hb' => o1 hn a ha ?_, fun hn a ha hb' => o2 hn a ha ?_⟩
    · rcases hb' with e | e | e
      · exact .inl e
      · exact .inr (.inr (.inl e))
      · exact .inr (.inr (.inr e))
    · rcases hb' with e | e | e
      · exact .inl e
      · exact .inr (.inr (.inl e))
      · exact .inr (.inr (.inr e))
  · rcases hg' with e | e
    · rw [e]; exact h.frg
    · intro hf; have := h.fl _ hf; omega
  · have := h.fl k hf; omega
  · have hne : k ≠ g' := fun e => by
      rcases hg' with e2 | e2
      · exact hn (.inr (e.trans e2))
      · omega
    exact (same' k (by omega) (fun e => hn (.inl e)) (fun e => hn (.inr e)) hne).trans (hb.block k hl)
  · rcases hf with e | e
    · exact .inl (.inl e)
    · rcases hg' with e2 | e2
      · exact .inl (.inr (e.trans e2))
      · exact .inr (by omega)
/-- What was there lies still, beside a new block too. -/
theorem RS.old (h : RS w rb g cap cs root L F) (hb : Below w.heap.size w W) {g' : Nat} (hg' : g' = g ∨ w.heap.size ≤ g') {t : Th} (ht : t ∈ L) : Lies W rb g g' F t := by
  obtain ⟨c1, c2⟩ := h.cat t ht
  obtain ⟨o1, o2⟩ := h.out t ht
  refine ⟨c1.below hb, c2.below hb, fun hn a ha hx => ?_, fun hn a ha hx => ?_⟩
  · rcases hx with e | e | e | e
    · exact o1 hn a ha (.inl e)
    · exact o1 hn a ha (.inr (.inl e))
    · rcases hg' with e2 | e2
      · exact o1 hn a ha (.inr (.inl (e.trans e2)))
      · obtain ⟨b, off, hp, hbl, _⟩ := c1 0 hn
        rw [ha] at hp; cases hp; simp at e; omega
    · exact o1 hn a ha (.inr (.inr e))
  · rcases hx with e | e | e | e
    · exact o2 hn a ha (.inl e)
    · exact o2 hn a ha (.inr (.inl e))
    · rcases hg' with e2 | e2
      · exact o2 hn a ha (.inr (.inl (e.trans e2)))
      · obtain ⟨b, off, hp, hbl, _⟩ := c2 0 hn
        rw [ha] at hp; cases hp; simp at e; omega
    · exact o2 hn a ha (.inr (.inr e))
/-- New memory is apart from all. -/
theorem off_new {g' : Nat} (h : RS w rb g cap cs root L F) {p : Option Addr} {n : Nat} (hp : ∀ a, p = some a → w.heap.size ≤ a.block ∧ a.block ≠ g') : Off (fun b => b = rb ∨ b = g ∨ b = g' ∨ F b) p n := fun _ a ha hx => by
  obtain ⟨h1, h2⟩ := hp a ha
  have hr := h.rl
  rcases hx with e | e | e | e
  · omega
  · omega
  · exact h2 e
  · have := h.fl _ e; omega
theorem thsC_set {L : List Th} {i : Nat} (hi : i < L.length) (t : Th) (j : Nat) : (thsC (L.set i t))[j]? = if j / 6 = i then (thC t)[j % 6]? else (thsC L)[j]? := by
  by_cases hj : j / 6 < L.length
  · have h6 : j % 6 < 6 := Nat.mod_lt _ (by omega)
    have e : j = (j / 6) * 6 + j % 6 := by omega
    have h1 := thsC_at (L.set i t) (j / 6) (by simpa using hj) (j % 6) h6
    have h2 := thsC_at L (j / 6) hj (j % 6) h6
    rw [← e] at h1 h2
    rw [h1, h2]
    by_cases hi' : j / 6 = i
    · rw [if_pos hi']; simp [hi']
    · rw [if_neg hi', List.getElem_set_ne (fun e => hi' e.symm)]
  · rw [if_neg (by omega), List.getElem?_eq_none (by rw [thsC_len]; simp; omega), List.getElem?_eq_none (by rw [thsC_len]; omega)]
/-- One cell of one thing is another one. -/
theorem RS.set1 (h : RS w rb g cap cs root L F) (hb : Below w.heap.size w W) {i : Nat} (hi : i < L.length) (f : Nat) (hf : f < 6) (v : Value) (t : Th) (ht : thC t = (thC L[i]).set f v) (hid : t.id = L[i].id) (hl : Lies W rb g g F t) (hlim : t.cats.length < 1000000 ∧ t.ents.length < 1000000) :
    RS (W.setCell ⟨g, i * 6 + f, none⟩ v) rb g cap (cs.setIfInBounds (i * 6 + f) v) root (L.set i t) F ∧ Fm w (W.setCell ⟨g, i * 6 + f, none⟩ v) (fun k => k = rb ∨ k = g) (fun k => k = rb ∨ k = g) := by
  have hr := h.rl
  have hW := h.below hb
  refine h.put hb (W' := W.setCell ⟨g, i * 6 + f, none⟩ v) (cs' := cs.setIfInBounds (i * 6 + f) v) (g' := g) (cap' := cap) (L' := L.set i t) ?_ ?_ (by simp [h.sz]) (by simpa using h.le) (fun j u hu => ?_) (by rw [ids_set hi hid]; exact h.nd) ⟨by simpa using h.lim.1, fun u hu => ?_⟩ h.cpl ⟨rfl, rfl, rfl⟩ (by simp) (fun k hk h1 h2 h3 => heap_ne _ _ _ h2) (.inl rfl) (fun u hu => ?_)
  · rw [heap_ne _ _ _ (by show rb ≠ g; exact h.ne), hW.tab]; simp
  · exact heap_setCell_same W g (i * 6 + f) cs _ v hW.blk
  · rw [thsC_set hi] at hu
    have hsz := h.sz
    have hle := h.le
    by_cases e : j / 6 = i
    · rw [if_pos e, ht] at hu
      by_cases e2 : j % 6 = f
      · have ej : i * 6 + f = j := by omega
        rw [ej, Array.getElem?_setIfInBounds_self_of_lt (by omega)]
        rw [e2, List.getElem?_set_self (by simpa [thC] using hf)] at hu
        exact hu
      · rw [List.getElem?_set_ne (fun e => e2 e.symm)] at hu
        rw [Array.getElem?_setIfInBounds_ne (by omega)]
        have := thsC_at L i hi (j % 6) (Nat.mod_lt _ (by omega))
        rw [hu, show i * 6 + j % 6 = j from by omega] at this
        exact h.cel j u this
    · rw [if_neg e] at hu
      rw [Array.getElem?_setIfInBounds_ne (by omega)]
      exact h.cel j u hu
  · rcases mem_set' hu with rfl | ⟨j, hj, _, rfl⟩
    · exact hlim
    · exact h.lim.2 _ (List.getElem_mem hj)
  · rcases mem_set' hu with rfl | ⟨j, hj, _, rfl⟩
    · exact hl
    · exact h.old hb (.inl rfl) (List.getElem_mem hj)
/-- The entries of one thing are others, newly laid. -/
theorem RS.setE (h : RS w rb g cap cs root L F) (hb : Below w.heap.size w W) {i : Nat} (hi : i < L.length) (p : Option Addr) (c : Nat) (l : List Int) (hI : IntsAt W p l) (hp : ∀ a, p = some a → w.heap.size ≤ a.block) (hl : l.length < 1000000) :
    RS (W.setCell ⟨g, i * 6 + 5, none⟩ (.slice p l.length c)) rb g cap (cs.setIfInBounds (i * 6 + 5) (.slice p l.length c)) root (L.set i { L[i] with lp := p, lc := c, ents := l }) F ∧ Fm w (W.setCell ⟨g, i * 6 + 5, none⟩ (.slice p l.length c)) (fun k => k = rb ∨ k = g) (fun k => k = rb ∨ k = g) := by
  have ho := h.old hb (g' := g) (.inl rfl) (List.getElem_mem hi)
  have hr := h.rl
  exact h.set1 hb hi 5 (by omega) _ { L[i] with lp := p, lc := c, ents := l } rfl rfl ⟨ho.1, hI, ho.2.2.1, off_new h (fun a ha => ⟨hp a ha, by have := hp a ha; omega⟩)⟩ ⟨(h.lim.2 _ (List.getElem_mem hi)).1, hl⟩
theorem RS.setQ (h : RS w rb g cap cs root L F) (hb : Below w.heap.size w W) {i : Nat} (hi : i < L.length) (q : Int) :
    RS (W.setCell ⟨g, i * 6 + 2, none⟩ (.int .i64 q)) rb g cap (cs.setIfInBounds (i * 6 + 2) (.int .i64 q)) root (L.set i { L[i] with quota := q }) F ∧ Fm w (W.setCell ⟨g, i * 6 + 2, none⟩ (.int .i64 q)) (fun k => k = rb ∨ k = g) (fun k => k = rb ∨ k = g) :=
  h.set1 hb hi 2 (by omega) _ { L[i] with quota := q } rfl rfl (h.old hb (g' := g) (t := L[i]) (.inl rfl) (List.getElem_mem hi)) (h.lim.2 L[i] (List.getElem_mem hi))
end
end Go.Proofs.Ytebcnlhgkpaghaa
