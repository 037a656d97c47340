/- Both kinds of rooms side by side: what they have in common. -/
import Derived.Test.YthknnmllibdggaaRef7
import Derived.Test.YthknnmllibdggaaOpenO
import Derived.Test.YthknnmllibdggaaSame
namespace Go.Proofs.Ythknnmllibdggaa
open Go.RowKit Go.Sort
/-- Rooms of the program (all, al) and of the reference (ra, rl) that tell the same. -/
structure Lk (all : List Who) (al : Int → List Int) (ra rl : List Who) : Prop where
  sg : ∀ s, fsg s all = fsg s ra
  ofs : ∀ t, ofL rl t = al t
  h8 : ∀ t, (al t).length ≤ 8
  nd : (all.map (·.1)).Nodup
  nr : (ra.map (·.1)).Nodup
section
variable {all ra rl : List Who} {al : Int → List Int}
theorem Lk.mem (h : Lk all al ra rl) (x : Who) : x ∈ all ↔ x ∈ ra := by
  have h1 : x ∈ fsg x.2.1 all ↔ x ∈ fsg x.2.1 ra := by rw [h.sg]
  rw [mem_fsg, mem_fsg] at h1
  simpa using h1
theorem Lk.waits (h : Lk all al ra rl) (t : Int) : waitsA all t = waitsA ra t := by
  rw [Bool.eq_iff_iff, waitsA_iff, waitsA_iff]
  unfold thsA
  simp only [List.mem_map, h.mem]
theorem Lk.len (h : Lk all al ra rl) : all.length = ra.length := by
  have h1 := len_sub (all.map (·.1)) (ra.map (·.1)) h.nd (fun x hx => by
    obtain ⟨y, hy, rfl⟩ := List.mem_map.1 hx
    exact List.mem_map_of_mem ((h.mem y).1 hy))
  have h2 := len_sub (ra.map (·.1)) (all.map (·.1)) h.nr (fun x hx => by
    obtain ⟨y, hy, rfl⟩ := List.mem_map.1 hx
    exact List.mem_map_of_mem ((h.mem y).2 hy))
  simp at h1 h2
  omega
theorem find_of {l : List Who} {t : Int} {x : Who} (hn : (l.map (·.1)).Nodup) (hx : x ∈ l) (e : x.1 = t) : whereA l t = some x := by
  unfold whereA
  cases hf : l.find? (fun x => x.1 == t) with
  | none =>
    rw [List.find?_eq_none] at hf
    exact absurd (by simp [e] : (x.1 == t) = true) (hf x hx)
  | some y =>
    have h1 := List.find?_some hf
    have h2 := List.mem_of_find?_eq_some hf
    rw [nd_eq hn h2 hx (by simp at h1; rw [h1, e])]
theorem Lk.whr (h : Lk all al ra rl) (t : Int) : whereA all t = whereA ra t := by
  cases hw : waitsA ra t with
  | true =>
    obtain ⟨k, hk, h1, _, h3⟩ := waits_yes hw
    rw [h3]
    exact find_of h.nd ((h.mem _).2 (List.getElem_mem hk)) h1
  | false =>
    have h1 : ∀ l : List Who, waitsA l t = false → whereA l t = none := fun l hl => by
      unfold whereA; rw [List.find?_eq_none]; intro x hx
      unfold waitsA at hl; rw [List.any_eq_false] at hl
      exact hl x hx
    rw [h1 ra hw, h1 all (by rw [h.waits]; exact hw)]
theorem listA_fsg (l : List Who) (s o : Int) : listA l s o = ((fsg s l).filter fun x => x.2.2 == o).map (·.1) := by
  unfold listA fsg
  rw [List.filter_filter]
  congr 1
  refine List.filter_congr (fun x _ => ?_)
  rw [Bool.and_comm]
theorem segA_fsg (l : List Who) (s : Int) : segA l s = (fsg s l).map (·.1) := rfl
theorem Lk.list (h : Lk all al ra rl) (s o : Int) : listA all s o = listA ra s o := by rw [listA_fsg, listA_fsg, h.sg]
theorem Lk.seg (h : Lk all al ra rl) (s : Int) : segA all s = segA ra s := by rw [segA_fsg, segA_fsg, h.sg]
theorem Lk.ofE (h : Lk all al ra rl) : ofL rl = al := funext h.ofs
theorem Lk.waitE (h : Lk all al ra rl) (t s o : Int) : waitE all al t s o = waitE ra (ofL rl) t s o := by
  unfold Go.Proofs.Ythknnmllibdggaa.waitE; rw [h.waits, h.ofE]
theorem Lk.postW (h : Lk all al ra rl) (t c : Int) : postW all al t c = postW ra (ofL rl) t c := by
  unfold Go.Proofs.Ythknnmllibdggaa.postW; rw [h.waits, h.ofE]
theorem fsg_dropL (s : Int) (g : List Int) (l : List Who) : fsg s (dropL g l) = dropL g (fsg s l) := by
  unfold fsg dropL; rw [List.filter_filter, List.filter_filter]
  refine List.filter_congr (fun x _ => by rw [Bool.and_comm])
theorem fsg_dropT (s t : Int) (l : List Who) : fsg s (dropT t l) = dropT t (fsg s l) := by
  unfold fsg dropT; rw [List.filter_filter, List.filter_filter]
  refine List.filter_congr (fun x _ => by rw [Bool.and_comm])
theorem Lk.snoc (h : Lk all al ra rl) {x : Who} (hx : waitsA ra x.1 = false) : Lk (all ++ [x]) al (ra ++ [x]) rl :=
  ⟨fun s => by rw [fsg_app, fsg_app, h.sg], h.ofs, h.h8, nd_snoc h.nd (by rw [h.waits]; exact hx), nd_snoc h.nr hx⟩
theorem Lk.dropL (h : Lk all al ra rl) (g : List Int) : Lk (dropL g all) al (dropL g ra) rl :=
  ⟨fun s => by rw [fsg_dropL, fsg_dropL, h.sg], h.ofs, h.h8, nd_dropL h.nd g, nd_dropL h.nr g⟩
theorem Lk.dropT (h : Lk all al ra rl) (t : Int) {al' : Int → List Int} {rl' : List Who} (hl : ∀ s, ofL rl' s = al' s) (h8 : ∀ s, (al' s).length ≤ 8) : Lk (dropT t all) al' (dropT t ra) rl' :=
  ⟨fun s => by rw [fsg_dropT, fsg_dropT, h.sg], hl, h8, nd_dropT h.nd t, nd_dropT h.nr t⟩
theorem Lk.als (h : Lk all al ra rl) {al' : Int → List Int} {rl' : List Who} (hl : ∀ s, ofL rl' s = al' s) (h8 : ∀ s, (al' s).length ≤ 8) : Lk all al' ra rl' :=
  ⟨h.sg, hl, h8, h.nd, h.nr⟩
theorem Lk.copy (h : Lk all al ra rl) {all' : List Who} (hs : ∀ s, fsg s all' = fsg s all) (hn : (all'.map (·.1)).Nodup) : Lk all' al ra rl :=
  ⟨fun s => (hs s).trans (h.sg s), h.ofs, h.h8, hn, h.nr⟩
end
theorem set_len {al : Int → List Int} (h : ∀ t, (al t).length ≤ 8) {t : Int} {l : List Int} (hl : l.length ≤ 8) : ∀ s, (setI al t l s).length ≤ 8 := fun s => by
  unfold setI; split
  · exact hl
  · exact h s
/-- The two in memory. -/
structure PS (w : World) (rb qb : Nat) (F G : Nat → Prop) (all : List Who) (al : Int → List Int) (ra rl : List Who) (N : Nat) : Prop where
  rm : RA w rb F all al N
  rf : RFx w qb G ra rl N
  lk : Lk all al ra rl
  ap : ∀ k, F k → ¬ G k
  fl : ∀ k, F k → k < w.heap.size
  gl : ∀ k, G k → k < w.heap.size
def Pl (w : World) (rb qb : Nat) (F G : Nat → Prop) (N : Nat) : Prop := ∃ all al ra rl, PS w rb qb F G all al ra rl N
theorem PS.same {w w' : World} {rb qb N : Nat} {F G : Nat → Prop} {all ra rl : List Who} {al : Int → List Int} (h : PS w rb qb F G all al ra rl N) (hs : w.heap.size ≤ w'.heap.size) (hk : ∀ k, k < w.heap.size → F k ∨ G k → w'.heap[k]? = w.heap[k]?) : PS w' rb qb F G all al ra rl N :=
  ⟨h.rm.same hs (fun k h1 h2 => hk k h1 (.inl h2)), h.rf.same (fun k h1 h2 => hk k h1 (.inr h2)), h.lk, h.ap, fun k hk => Nat.lt_of_lt_of_le (h.fl k hk) hs, fun k hk => Nat.lt_of_lt_of_le (h.gl k hk) hs⟩
theorem PS.below {w w' : World} {rb qb N : Nat} {F G : Nat → Prop} {all ra rl : List Who} {al : Int → List Int} (h : PS w rb qb F G all al ra rl N) (hb : Below w.heap.size w w') : PS w' rb qb F G all al ra rl N := h.same hb.size (fun k hk _ => hb.block k hk)
theorem Pl.same {w w' : World} {rb qb N : Nat} {F G : Nat → Prop} (h : Pl w rb qb F G N) (hs : w.heap.size ≤ w'.heap.size) (hk : ∀ k, k < w.heap.size → F k ∨ G k → w'.heap[k]? = w.heap[k]?) : Pl w' rb qb F G N := by
  obtain ⟨all, al, ra, rl, h⟩ := h
  exact ⟨all, al, ra, rl, h.same hs hk⟩
/-- What a step on both leaves. -/
def Ns (w w' : World) (rb qb : Nat) (F G : Nat → Prop) (N : Nat) : Prop := ∃ F' G', Pl w' rb qb F' G' N ∧ Fm w w' (fun k => F k ∨ G k) ∧ (∀ k, F' k → F k ∨ w.heap.size ≤ k) ∧ ∀ k, G' k → G k ∨ w.heap.size ≤ k
/-- A step of the one and then of the other. -/
theorem Ns.of {w W0 w1 W1 w2 w3 : World} {rb qb N : Nat} {F G : Nat → Prop} {all all' ra ra' rl rl' : List Who} {al al' : Int → List Int} (h : PS w rb qb F G all al ra rl N) (hb0 : Below w.heap.size w W0) (h1 : Nx W0 w1 rb F all' al' (N + 1)) (hb : Below w1.heap.size w1 W1) (h2 : ∀ N', RFx W1 qb G ra rl N' → Nr W1 w2 qb G ra' rl' (N + 1)) (hb2 : Below w2.heap.size w2 w3) (hl : Lk all' al' ra' rl') : Ns w w3 rb qb F G (N + 1) := by
  obtain ⟨F', a1, a2, a3, a4⟩ := h1
  have z0 := hb0.size
  have z1 := a2.size
  have z2 := hb.size
  have z5 := hb2.size
  have hgk : ∀ k, G k → W1.heap[k]? = w.heap[k]? := fun k hk => by
    have := h.gl k hk
    rw [hb.block k (by omega), a2.same k (by omega) (fun e => h.ap k e hk), hb0.block k this]
  have hq : RFx W1 qb G ra rl N := h.rf.same (fun k _ hk => hgk k hk)
  obtain ⟨G', c1, c2, c3, c4⟩ := h2 N hq
  have z3 := c2.size
  have hqq : G qb := h.rf.gq
  have hql : qb < w.heap.size := h.gl qb hqq
  have hF' : ∀ k, F' k → w3.heap[k]? = w1.heap[k]? := fun k hk => by
    have hk1 := a4 k hk
    rw [hb2.block k (by omega), c2.same k (by omega) (fun e => ?_), hb.block k hk1]
    rcases a3 k hk with h1 | h1
    · exact h.ap k h1 (e ▸ hqq)
    · omega
  refine ⟨F', G', ⟨all', al', ra', rl', a1.same (by omega) (fun k _ hk => hF' k hk), c1.below hb2, hl, fun k h1 h2 => ?_, fun k hk => by have := a4 k hk; omega, fun k hk => by have := c4 k hk; omega⟩, ⟨?_, ?_, ?_, by omega, fun k hk hn => ?_⟩, fun k hk => (a3 k hk).imp id (fun h => Nat.le_trans z0 h), fun k hk => (c3 k hk).imp id (fun h => by omega)⟩
  · have hk1 := a4 k h1
    rcases c3 k h2 with g1 | g1
    · rcases a3 k h1 with f1 | f1
      · exact h.ap k f1 g1
      · have := h.gl k g1; omega
    · omega
  · exact hb2.os.trans (c2.os.trans (hb.os.trans (a2.os.trans hb0.os)))
  · exact hb2.tape.trans (c2.tape.trans (hb.tape.trans (a2.tape.trans hb0.tape)))
  · exact hb2.output.trans (c2.output.trans (hb.output.trans (a2.output.trans hb0.output)))
  · rw [hb2.block k (by omega), c2.same k (by omega) (fun e => hn (.inr (e ▸ hqq))), hb.block k (by omega), a2.same k (by omega) (fun e => hn (.inl e)), hb0.block k hk]
end Go.Proofs.Ythknnmllibdggaa
