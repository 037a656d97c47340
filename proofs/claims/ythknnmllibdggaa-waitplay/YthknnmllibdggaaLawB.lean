/- Rooms and a row of numbers beside them. -/
import Derived.Test.YthknnmllibdggaaLives
namespace Go.Proofs.Ythknnmllibdggaa
open Go.RowKit Go.Sort
structure St (w0 wr : World) (rb : Nat) (F : Nat → Prop) (all : List Who) (al : Int → List Int) (N : Nat) (v : Value) (l : List Int) : Prop where
  ra : RA wr rb F all al N
  row : wr.ownsRow w0.heap.size 3 1 v l.length (ivs l)
  ap : ∀ b, v.ownBlock = some b → ¬ F b
  flt : ∀ k, F k → k < wr.heap.size
  flo : ∀ k, F k → w0.heap.size ≤ k
  bel : Below w0.heap.size w0 wr
section
variable {w0 wr w' : World} {rb N N' : Nat} {F : Nat → Prop} {all all' : List Who} {al al' : Int → List Int} {v : Value} {l : List Int}
theorem St.fm (h : St w0 wr rb F all al N v l) {F' : Nat → Prop} (hr : RA w' rb F' all' al' N') (hf : Fm wr w' F) (hs : ∀ k, F' k → F k ∨ wr.heap.size ≤ k) (hl : ∀ k, F' k → k < w'.heap.size) : St w0 w' rb F' all' al' N' v l := by
  have hz := h.bel.size
  refine ⟨hr, row_same h.row (fun k hk => hf.same k (h.row.lt k hk).2 (h.ap k hk)), fun b hb hF => ?_, hl, fun k hk => ?_, h.bel.trans (hf.below hz (fun k hk hF => by have := h.flo k hF; omega))⟩
  · rcases hs b hF with h1 | h1
    · exact h.ap b hb h1
    · have := (h.row.lt b hb).2; omega
  · rcases hs k hk with h1 | h1
    · exact h.flo k h1
    · omega
theorem St.call (h : St w0 wr rb F all al N v l) (hx : Nx wr w' rb F all' al' N') : ∃ F', St w0 w' rb F' all' al' N' v l := by
  obtain ⟨F', h1, h2, h3, h4⟩ := hx
  exact ⟨F', h.fm h1 h2 h3 h4⟩
theorem St.call2 (h : St w0 wr rb F all al N v l) (hr : RA w' rb F all' al' N') (hf : Fm wr w' F) : St w0 w' rb F all' al' N' v l :=
  h.fm hr hf (fun _ h => .inl h) (fun k hk => Nat.lt_of_lt_of_le (h.flt k hk) hf.size)
theorem St.below (h : St w0 wr rb F all al N v l) (hb : Below wr.heap.size wr w') : St w0 w' rb F all al N v l :=
  h.call2 (h.ra.below hb) (Fm.of_below hb F)
/-- Another row in its place. -/
theorem St.swap (h : St w0 wr rb F all al N v l) {v' : Value} {l' : List Int} (hr : wr.ownsRow w0.heap.size 3 1 v' l'.length (ivs l')) (ha : ∀ b, v'.ownBlock = some b → ¬ F b) : St w0 wr rb F all al N v' l' :=
  ⟨h.ra, hr, ha, h.flt, h.flo, h.bel⟩
theorem St.nil (h : St w0 wr rb F all al N v l) : St w0 wr rb F all al N (.slice none 0 0) [] := h.swap (World.ownsRow_nil _ _ _ _) (fun b hb => by cases hb)
/-- The row is longer: what append leaves. -/
theorem St.appended (h : St w0 wr rb F all al N v l) {v' : Value} {x : Int} {o : Obj} (hr : w'.ownsRow w0.heap.size 3 1 v' (l.length + 1) (ivs l ++ [.int .i64 x])) (hg : (wr.alloc o).grownBy w' v.ownBlock) (hat : v'.ownBlock = v.ownBlock ∨ ∃ k, v'.ownBlock = some k ∧ (wr.alloc o).heap.size ≤ k) : St w0 w' rb F all al N v' (l ++ [x]) := by
  have hz := h.bel.size
  have hf : Fm wr w' (fun k => some k = v.ownBlock) := ⟨hg.os, hg.tape, hg.output, Nat.le_trans (by simp) hg.size, fun k hk hn => (hg.block k (by simp; omega) hn).trans (Below.heap_alloc _ _ _ hk)⟩
  have hk : ∀ k, k < wr.heap.size → F k → w'.heap[k]? = wr.heap[k]? := fun k hk hF => hf.same k hk (fun e => h.ap k e.symm hF)
  refine ⟨h.ra.same hf.size hk, ?_, ?_, fun k hF => Nat.lt_of_lt_of_le (h.flt k hF) hf.size, h.flo, ?_⟩
  · rw [List.length_append, show ivs (l ++ [x]) = ivs l ++ [.int .i64 x] from by unfold ivs; rw [List.map_append]; rfl]; exact hr
  · intro b hb hF
    rcases hat with e | ⟨k, e, hk2⟩
    · exact h.ap b (e ▸ hb) hF
    · rw [e] at hb
      have : k = b := Option.some.inj hb
      have := h.flt b hF
      simp at hk2; omega
  · exact h.bel.trans (hf.below hz (fun k hk e => by have := (h.row.lt k e.symm).1; omega))
end
theorem listA_app (all : List Who) (x : Who) (s o : Int) : listA (all ++ [x]) s o = listA all s o ++ if x.2.1 = s ∧ x.2.2 = o then [x.1] else [] := by
  unfold listA
  rw [List.filter_append, List.map_append, List.filter_cons, List.filter_nil]
  congr 1
  by_cases h : x.2.1 = s ∧ x.2.2 = o
  · rw [if_pos h, if_pos (by simp [h.1, h.2])]; rfl
  · rw [if_neg h, if_neg (by simp; intro h1 h2; exact h ⟨h1, h2⟩)]; rfl
theorem listA_dropT (all : List Who) (t s o : Int) : listA (dropT t all) s o = (listA all s o).filter fun y => !(y == t) := by
  unfold listA dropT
  rw [List.filter_filter, List.filter_map, List.filter_filter]
  congr 1
  apply List.filter_congr
  intro x _
  simp [Bool.and_comm]
theorem nd_at {all : List Who} (hn : (all.map (·.1)).Nodup) {x y : Who} (hx : x ∈ all) (hy : y ∈ all) (e : x.1 = y.1) : x = y := by
  induction all with
  | nil => simp at hx
  | cons z r ih =>
    rw [List.map_cons, List.nodup_cons] at hn
    rcases List.mem_cons.1 hx with h1 | h1
    · rcases List.mem_cons.1 hy with h2 | h2
      · rw [h1, h2]
      · exact absurd (show z.1 ∈ r.map (·.1) from by rw [← h1, e]; exact List.mem_map_of_mem h2) hn.1
    · rcases List.mem_cons.1 hy with h2 | h2
      · exact absurd (show z.1 ∈ r.map (·.1) from by rw [← h2, ← e]; exact List.mem_map_of_mem h1) hn.1
      · exact ih hn.2 h1 h2
theorem dropL_listA {all : List Who} (hn : (all.map (·.1)).Nodup) (s o : Int) : dropL (listA all s o) all = all.filter fun x => !(x.2.1 == s && x.2.2 == o) := by
  unfold dropL
  apply List.filter_congr
  intro x hx
  congr 1
  rw [Bool.eq_iff_iff, List.contains_iff_mem, mem_listA]
  constructor
  · intro h
    have := nd_at hn hx h rfl
    rw [this]; simp
  · intro h
    simp at h
    rw [← h.1, ← h.2]; exact hx
theorem dropL_segA {all : List Who} (hn : (all.map (·.1)).Nodup) (s : Int) : dropL (segA all s) all = all.filter fun x => !(x.2.1 == s) := by
  unfold dropL
  apply List.filter_congr
  intro x hx
  congr 1
  rw [Bool.eq_iff_iff, List.contains_iff_mem, mem_segA]
  constructor
  · rintro ⟨o, h⟩
    have := nd_at hn hx h rfl
    rw [this]; simp
  · intro h
    simp at h
    exact ⟨x.2.2, by rw [← h]; exact hx⟩
theorem wake_len {all : List Who} (hn : (all.map (·.1)).Nodup) (s o : Int) : (dropL (listA all s o) all).length + (listA all s o).length = all.length := by
  rw [dropL_listA hn]
  unfold listA
  rw [List.length_map]
  induction all with
  | nil => rfl
  | cons x r ih =>
    have := ih (by rw [List.map_cons, List.nodup_cons] at hn; exact hn.2)
    rw [List.filter_cons, List.filter_cons]
    cases (x.2.1 == s && x.2.2 == o) <;> simp at this ⊢ <;> omega
theorem wake_none {all : List Who} (hn : (all.map (·.1)).Nodup) (s o : Int) : listA (dropL (listA all s o) all) s o = [] := by
  rw [dropL_listA hn]
  unfold listA
  rw [List.filter_filter, List.map_eq_nil_iff, List.filter_eq_nil_iff]
  intro x _
  cases (x.2.1 == s && x.2.2 == o) <;> simp
theorem setI_same (t : Int) : setI (fun _ => []) t [] = fun _ => [] := by funext t'; unfold setI; split <;> rfl
/-- The k-th number of a slice that is handed in, in a later world. -/
theorem IntsAt.at_ {w w' : World} {p : Option Addr} {l : List Int} (h : IntsAt w p l) (hb : Below w.heap.size w w') {k : Nat} (hk : k < l.length) : ∃ b off, p = some ⟨b, off, none⟩ ∧ w'.cell? ⟨b, off + k, none⟩ = some (.int .i64 l[k]) := by
  obtain ⟨b, off, h1, h2, h3⟩ := h k hk
  exact ⟨b, off, h1, (hb.cell (p := ⟨b, off + k, none⟩) h2).trans h3⟩
end Go.Proofs.Ythknnmllibdggaa
