/- The rows of a copy under way. -/
import Derived.Test.YthknnmllibdggaaCopyC
namespace Go.Proofs.Ythknnmllibdggaa
open Go.RowKit Go.Sort
theorem nd_eq : ∀ {A : List Who}, (A.map (·.1)).Nodup → ∀ {y z : Who}, y ∈ A → z ∈ A → y.1 = z.1 → y = z
  | [], _, _, _, hy, _, _ => by simp at hy
  | a :: A, hn, y, z, hy, hz, e => by
    obtain ⟨h1, h2⟩ := List.nodup_cons.1 hn
    rcases List.mem_cons.1 hy with e1 | hy1
    · rcases List.mem_cons.1 hz with e2 | hz1
      · rw [e1, e2]
      · have h3 : z.1 ∈ A.map (·.1) := List.mem_map_of_mem hz1
        rw [← e, e1] at h3; exact absurd h3 h1
    · rcases List.mem_cons.1 hz with e2 | hz1
      · have h3 : y.1 ∈ A.map (·.1) := List.mem_map_of_mem hy1
        rw [e, e2] at h3; exact absurd h3 h1
      · exact nd_eq h2 hy1 hz1 e
theorem mem_fsg {s : Int} {l : List Who} {x : Who} : x ∈ fsg s l ↔ x ∈ l ∧ x.2.1 = s := by unfold fsg; simp [List.mem_filter]
theorem fsg_app (s : Int) (a b : List Who) : fsg s (a ++ b) = fsg s a ++ fsg s b := List.filter_append ..
theorem fsg_same (s : Int) (l : List Who) : fsg s (fsg s l) = fsg s l := by
  unfold fsg; rw [List.filter_filter]; simp
theorem fsg_other {s s' : Int} (h : s ≠ s') (l : List Who) : fsg s (fsg s' l) = [] := by
  rw [List.eq_nil_iff_forall_not_mem]
  intro x hx
  obtain ⟨h1, h2⟩ := mem_fsg.1 hx
  exact h (h2.symm.trans (mem_fsg.1 h1).2)
theorem itS_at {l : List Wt} {i : Nat} {x : It} (h : (itS l)[i]? = some x) : ∃ y, l[i]? = some y ∧ x = ⟨y.is, pv y.B⟩ := by
  unfold itS at h
  rw [List.getElem?_map] at h
  cases e : l[i]? with
  | none => rw [e] at h; cases h
  | some y => rw [e] at h; exact ⟨y, rfl, (Option.some.inj h).symm⟩
theorem itA_at {l : List Al} {i : Nat} {x : It} (h : (itA l)[i]? = some x) : ∃ y, l[i]? = some y ∧ x = ⟨y.I, .int .i64 y.c⟩ := by
  unfold itA at h
  rw [List.getElem?_map] at h
  cases e : l[i]? with
  | none => rw [e] at h; cases h
  | some y => rw [e] at h; exact ⟨y, rfl, (Option.some.inj h).symm⟩
section
variable {A B0 : List Who} {left : Int → Bool} {s0 : Int} {i : Nat}
theorem seg_sub (hs : ∀ s, fsg s B0 = if left s then [] else fsg s A) : ∀ y ∈ B0, y ∈ A ∧ left y.2.1 = false := fun y hy => by
  have h1 : y ∈ fsg y.2.1 B0 := mem_fsg.2 ⟨hy, rfl⟩
  rw [hs] at h1
  cases hl : left y.2.1 with
  | true => rw [hl] at h1; simp at h1
  | false => rw [hl] at h1; exact ⟨(mem_fsg.1 h1).1, rfl⟩
theorem seg_no (hA : (A.map (·.1)).Nodup) (hs : ∀ s, fsg s B0 = if left s then [] else fsg s A) (hl : left s0 = true) (hi : i < (fsg s0 A).length) : ∀ y ∈ B0 ++ (fsg s0 A).take i, y.1 ≠ ((fsg s0 A)[i]).1 := fun y hy e => by
  have hz : (fsg s0 A)[i] ∈ fsg s0 A := List.getElem_mem hi
  obtain ⟨hz1, hz2⟩ := mem_fsg.1 hz
  rcases List.mem_append.1 hy with hy | hy
  · obtain ⟨h1, h2⟩ := seg_sub hs y hy
    have := nd_eq hA h1 hz1 e
    rw [this, hz2, hl] at h2; cases h2
  · have hnd : ((fsg s0 A).map (·.1)).Nodup := hA.sublist (List.Sublist.map _ (List.filter_sublist ..))
    obtain ⟨j, hj, rfl⟩ := List.getElem_of_mem hy
    have hj' : j < i ∧ j < (fsg s0 A).length := by rw [List.length_take] at hj; omega
    rw [List.getElem_take] at e
    have := (List.getElem_inj (h₀ := by simpa using hj'.2) (h₁ := by simpa using hi) hnd).1 (by rw [List.getElem_map, List.getElem_map]; exact e)
    omega
theorem seg_next (hs : ∀ s, fsg s B0 = if left s then [] else fsg s A) (hl : left s0 = true) : ∀ s, fsg s (B0 ++ fsg s0 A) = if (left s && !(s == s0)) then [] else fsg s A := fun s => by
  rw [fsg_app, hs]
  by_cases e : s = s0
  · subst e; rw [hl, fsg_same]; simp
  · rw [fsg_other e, List.append_nil]
    have : (s == s0) = false := by simpa using e
    rw [this]; simp
theorem seg_len (hs : ∀ s, fsg s B0 = if left s then [] else fsg s A) (hn : ((B0 ++ (fsg s0 A).take i).map (·.1)).Nodup) : (B0 ++ (fsg s0 A).take i).length ≤ A.length := by
  have := len_sub ((B0 ++ (fsg s0 A).take i).map (·.1)) (A.map (·.1)) hn (fun x hx => by
    obtain ⟨y, hy, rfl⟩ := List.mem_map.1 hx
    rcases List.mem_append.1 hy with hy | hy
    · exact List.mem_map_of_mem (seg_sub hs y hy).1
    · exact List.mem_map_of_mem (mem_fsg.1 (List.mem_of_mem_take hy)).1)
  simpa using this
end
theorem RmAt.ndw {w : World} {R : Rm} (h : RmAt w R) : ((R.all.map ab).map (·.1)).Nodup := by rw [List.map_map]; exact h.nd
/-- A number more at one place. -/
def putL (al : Int → List Int) (t c : Int) : Int → List Int := fun s => if s = t then al t ++ [c] else al s
theorem CI.push {w W0 W W' : World} {R R0 R1 : Rm} {all : List Who} {al : Int → List Int} {t c : Int} {n n3 Q I : Nat} (h : CI W0 R0 W R1 all al R.N) (hR : RmAt w R) (ht : i64 t) (hc : i64 c) (hn : n ≤ R1.N)
    (hm3 : MAt W' 3 R1.m3 n3 (updF R1.fa (ky t) (some Q))) (hn3 : n3 ≤ n + 1) (hq3 : QAI W' Q (itA (R1.al t) ++ [⟨I, .int .i64 c⟩])) (hF3 : Fm W W' (fun k => k = R1.m3 ∨ (itA (R1.al t) ≠ [] ∧ qf Q (itA (R1.al t)) k)))
    (hQ3 : (itA (R1.al t) = [] ∧ W.heap.size ≤ Q) ∨ (itA (R1.al t) ≠ [] ∧ R1.fa (ky t) = some Q ∧ QAI W Q (itA (R1.al t)))) (hI : W.heap.size ≤ I)
    (hsub : ∀ s, putL al t c s ≠ [] → R.al s ≠ []) (hlen : ∀ s, (putL al t c s).length ≤ R.N) (hall : all.length ≤ R.N) : (∃ R3, CI W0 R0 W' R3 all (putL al t c) R.N) ∧ Fm W W' (fun k => R1.own k ≠ none) := by
  obtain ⟨R', ms, g1, g2, g3, g4, g5, g6, g7⟩ := alPush_finM h.rm ht hc hm3 (by omega) hq3 hF3 hQ3 hI
  refine ⟨?_, g6⟩
  have hal' : ∀ s, (R'.al s).map (·.c) = putL al t c s := fun s => by
    rw [g4]; unfold setA putL
    by_cases e : s = t
    · rw [if_pos e, if_pos e, List.map_append, h.als]; rfl
    · rw [if_neg e, if_neg e, h.als]
  have hkeep : ∀ m g, R1.own m = some g → g ≠ .m 3 → (∃ es cl, W.heap[m]? = some (.map es cl)) → W'.heap[m]? = W.heap[m]? := fun m g hg hne ⟨es, cl, hm⟩ => hF3.same m (heap_lt hm) (fun e => by
    rcases e with e | ⟨e1, e2⟩
    · rw [e, h.rm.om3] at hg; cases hg; exact hne rfl
    · obtain ⟨c', t', f', hcc⟩ := qf_cells ((hQ3.resolve_left (fun x => e1 x.1)).2.2) e2
      rw [hm] at hcc; cases hcc)
  obtain ⟨b0, b1, b2, b3⟩ := ms
  have ht' := g1.tight (N := R.N) (fun n' hn' _ => by
      obtain ⟨n1, hn1, hm1⟩ := h.rm.mp
      rw [b1] at hn'
      have := hn'.uniq (hm1.same (hkeep _ _ h.rm.om1 (by simp) hm1.isMap))
      have := h.N; omega)
    (fun n' hn' => by
      obtain ⟨n1, hn1, hm1⟩ := h.rm.ms
      rw [b2] at hn'
      have := hn'.uniq (hm1.same (hkeep _ _ h.rm.om2 (by simp) hm1.isMap))
      have := h.N; omega)
    (fun n' hn' => by
      obtain ⟨nR, hnR, hmR⟩ := hR.ma
      refine Nat.le_trans (hmR.le hn' (fun s hs => ?_)) hnR
      rw [g1.fa s] at hs
      have h1 : R'.al s ≠ [] := fun e => by rw [if_pos e] at hs; cases hs
      have h2 : R.al s ≠ [] := hsub s (fun e => h1 (by rw [← hal' s] at e; simpa using e))
      rw [hR.fa s, if_neg h2]; rfl)
    (by have := congrArg List.length h.alls; rw [List.length_map] at this; rw [g3]; omega)
    (fun s => by have := congrArg List.length (hal' s); rw [List.length_map] at this; have := hlen s; omega)
  exact h.next ht' ⟨b0, b1, b2, b3⟩ g2 (by show R'.all.map ab = _; rw [g3]; exact h.alls) hal' (Nat.le_refl _) g6 g7
end Go.Proofs.Ythknnmllibdggaa
