/- The abstract table and the reference's list of things. -/
import Derived.Test.YtebcnlhgkpaghaaRefT
import Derived.Test.YtebcnlhgkpaghaaInvM
namespace Go.Proofs.Ytebcnlhgkpaghaa
open Go.RowKit Go.Sort
/-- A thing is told as an object is, but for the sums. -/
def Mt (o : Ob) (t : Th) : Prop := o.kind = t.kind ∧ o.quota = t.quota ∧ o.df = t.df ∧ o.cats = t.cats ∧ o.ents = t.ents
/-- The list tells the table S; the things D are gone from S, and still have entries to lose. -/
structure RelD (S : Abs) (L : List Th) (D : List Int) : Prop where
  yes : ∀ t ∈ L, t.id ∉ D → ∃ o, S t.id = some o ∧ Mt o t
  dead : ∀ t ∈ L, t.id ∈ D → S t.id = none ∧ (t.ents ≠ [] → t.kind = 1)
  back : ∀ k o, S k = some o → ∃ t ∈ L, t.id = k
def pend (L : List Th) (D : List Int) : List Int := (L.filter fun t => D.contains t.id).flatMap (·.ents)
theorem lkC_sum {x : Int} : ∀ {L : List Th}, (∀ t ∈ L, t.ents.Nodup) → lkC L x = (L.map fun t => t.ents.count x).sum
  | [], _ => rfl
  | t :: L, h => by
    have ih := lkC_sum (x := x) (L := L) (fun t ht => h t (by simp [ht]))
    unfold lkC at ih ⊢
    rw [List.filter_cons, List.map_cons, List.sum_cons, ← ih]
    have hn := h t (by simp)
    by_cases hx : inB t.ents x = true
    · have h1 := List.nodup_iff_count.1 hn x
      have h2 := List.count_pos_iff.2 (inB_iff.1 hx)
      rw [if_pos hx, List.length_cons]; omega
    · rw [if_neg hx, List.count_eq_zero.2 (fun hm => hx (inB_iff.2 hm))]; omega
theorem sum_split (f : Th → Nat) (p : Th → Bool) : ∀ L : List Th, (L.map f).sum = ((L.filter p).map f).sum + ((L.filter fun t => !p t).map f).sum
  | [] => rfl
  | t :: L => by
    have ih := sum_split f p L
    simp only [List.map_cons, List.sum_cons, List.filter_cons]
    cases p t <;> simp <;> omega
theorem pend_count (L : List Th) (D : List Int) (x : Int) : (pend L D).count x = ((L.filter fun t => D.contains t.id).map fun t => t.ents.count x).sum := by
  unfold pend
  rw [List.count_flatMap]
  rfl
theorem cnt_of {S : Abs} {L : List Th} {D K : List Int} {r : Int} {P : List Int} (h : RelD S L D) (hnd : (L.map (·.id)).Nodup) (hb : Bal S K r P) (x : Int) : cnt S K x = ((L.filter fun t => !D.contains t.id).map fun t => t.ents.count x).sum := by
  have hp : K.Perm ((L.filter fun t => !D.contains t.id).map (·.id)) := by
    refine (List.perm_ext_iff_of_nodup hb.nd (hnd.sublist (List.Sublist.map _ List.filter_sublist))).2 (fun k => ?_)
    rw [hb.mem k]
    constructor
    · intro hk
      obtain ⟨o, ho⟩ := Option.isSome_iff_exists.1 hk
      obtain ⟨t, ht, rfl⟩ := h.back k o ho
      refine List.mem_map.2 ⟨t, List.mem_filter.2 ⟨ht, ?_⟩, rfl⟩
      by_cases hD : t.id ∈ D
      · rw [(h.dead t ht hD).1] at ho; cases ho
      · simpa using hD
    · intro hk
      obtain ⟨t, ht, rfl⟩ := List.mem_map.1 hk
      obtain ⟨h1, h2⟩ := List.mem_filter.1 ht
      obtain ⟨o, ho, _⟩ := h.yes t h1 (by simpa using h2)
      rw [ho]; rfl
  unfold cnt
  rw [(hp.map (occ S x)).sum_nat, List.map_map]
  congr 1
  refine List.map_congr_left (fun t ht => ?_)
  obtain ⟨h1, h2⟩ := List.mem_filter.1 ht
  obtain ⟨o, ho, hm⟩ := h.yes t h1 (by simpa using h2)
  show occ S x t.id = _
  unfold occ
  rw [ho]
  show o.ents.count x = _
  rw [hm.2.2.2.2]
theorem lk_all {S : Abs} {L : List Th} {D K : List Int} {r : Int} {P : List Int} (h : RelD S L D) (hnd : (L.map (·.id)).Nodup) (hne : ∀ t ∈ L, t.ents.Nodup) (hb : Bal S K r P) (x : Int) : lkC L x = cnt S K x + (pend L D).count x := by
  rw [lkC_sum hne, sum_split _ (fun t => D.contains t.id), cnt_of h hnd hb, pend_count, Nat.add_comm]
/-- The links of an object that is about to lose one, as the reference counts them. -/
theorem lk_in {S : Abs} {L : List Th} {D K : List Int} {r x : Int} {P : List Int} {o : Ob} (h : RelD S L D) (hnd : (L.map (·.id)).Nodup) (hne : ∀ t ∈ L, t.ents.Nodup) (hb : Bal S K r (x :: P)) (hP : ∀ y, P.count y = (pend L D).count y) (hx : S x = some o) : o.links = lkL r L x + 1 := by
  rw [hb.lk x o hx, lkL, lk_all h hnd hne hb, ← hP, List.count_cons_self]
  by_cases e : x = r <;> simp [e] <;> omega
theorem lk_top {S : Abs} {L : List Th} {K : List Int} {r x : Int} {o : Ob} (h : RelD S L []) (hnd : (L.map (·.id)).Nodup) (hne : ∀ t ∈ L, t.ents.Nodup) (hb : Bal S K r []) (hx : S x = some o) : o.links = lkL r L x := by
  have hp : (pend L []).count x = 0 := by rw [pend_count, List.filter_eq_nil_iff.2 (by simp)]; rfl
  rw [hb.lk x o hx, lkL, lk_all h hnd hne hb, hp]
  by_cases e : x = r <;> simp [e] <;> omega
theorem atL_no : ∀ {L : List Th} {id : Int} (n : Nat), (∀ t ∈ L, t.id ≠ id) → atL L id n = -1
  | [], _, _, _ => rfl
  | t :: L, id, n, h => by rw [atL, if_neg (h t (by simp))]; exact atL_no (n + 1) (fun u hu => h u (by simp [hu]))
theorem atL_yes : ∀ {L : List Th} {id : Int} (n : Nat) {k : Nat} (hk : k < L.length), (L.map (·.id)).Nodup → L[k].id = id → atL L id n = ((n + k : Nat) : Int)
  | [], _, _, _, hk, _, _ => by cases hk
  | t :: L, id, n, 0, _, _, he => by rw [atL, if_pos (by simpa using he)]; rfl
  | t :: L, id, n, k + 1, hk, hnd, he => by
    rw [List.map_cons, List.nodup_cons] at hnd
    have hk' : k < L.length := by simpa using hk
    have he' : L[k].id = id := by simpa using he
    have hne : t.id ≠ id := fun e => hnd.1 (List.mem_map.2 ⟨L[k], List.getElem_mem _, by rw [he', e]⟩)
    rw [atL, if_neg hne, atL_yes (n + 1) (by simpa using hk) hnd.2 he']
    congr 1; omega
theorem RelD.pos {S : Abs} {L : List Th} {D : List Int} (h : RelD S L D) {k : Int} {o : Ob} (ho : S k = some o) : ∃ i, ∃ hi : i < L.length, L[i].id = k ∧ Mt o L[i] := by
  obtain ⟨t, ht, he⟩ := h.back k o ho
  obtain ⟨i, hi, rfl⟩ := List.getElem_of_mem ht
  refine ⟨i, hi, he, ?_⟩
  by_cases hD : L[i].id ∈ D
  · rw [he] at hD
    have := (h.dead _ ht (by rw [he]; exact hD)).1
    rw [he, ho] at this; cases this
  · obtain ⟨o', ho', hm⟩ := h.yes _ ht hD
    rw [he, ho] at ho'; cases ho'; exact hm
theorem RelD.nopos {S : Abs} {L : List Th} (h : RelD S L []) {k : Int} (ho : S k = none) : ∀ t ∈ L, t.id ≠ k := fun t ht e => by
  obtain ⟨o, h1, _⟩ := h.yes t ht (by simp)
  rw [e, ho] at h1; cases h1
theorem ids_set {L : List Th} {i : Nat} {t : Th} (hi : i < L.length) (he : t.id = L[i].id) : (L.set i t).map (·.id) = L.map (·.id) := by
  rw [List.map_set, he]
  apply List.ext_getElem (by simp)
  intro j h1 h2
  simp only [List.getElem_set, List.getElem_map]
  split
  · rename_i e; subst e; rfl
  · rfl
theorem mem_set' {L : List Th} {i : Nat} {t u : Th} (hu : u ∈ L.set i t) : u = t ∨ ∃ j, ∃ hj : j < L.length, j ≠ i ∧ u = L[j] := by
  obtain ⟨j, hj, rfl⟩ := List.getElem_of_mem hu
  rw [List.getElem_set]
  split
  · exact .inl rfl
  · rename_i e; exact .inr ⟨j, by simpa using hj, fun h => e h.symm, rfl⟩
theorem id_inj {L : List Th} (hnd : (L.map (·.id)).Nodup) {i j : Nat} (hi : i < L.length) (hj : j < L.length) (h : L[i].id = L[j].id) : i = j := by
  rcases Nat.lt_trichotomy i j with hlt | he | hlt
  · exact absurd (by rw [List.getElem_map, List.getElem_map]; exact h) (List.pairwise_iff_getElem.1 hnd i j (by simpa using hi) (by simpa using hj) hlt)
  · exact he
  · exact absurd (by rw [List.getElem_map, List.getElem_map]; exact h.symm) (List.pairwise_iff_getElem.1 hnd j i (by simpa using hj) (by simpa using hi) hlt)
/-- One thing is another one. -/
theorem RelD.set {S S' : Abs} {L : List Th} {D : List Int} (h : RelD S L D) (hnd : (L.map (·.id)).Nodup) {i : Nat} (hi : i < L.length) {t : Th} (he : t.id = L[i].id) (hS : ∀ k, k ≠ t.id → S' k = S k) (ht : (t.id ∉ D → ∃ o, S' t.id = some o ∧ Mt o t) ∧ (t.id ∈ D → S' t.id = none ∧ (t.ents ≠ [] → t.kind = 1))) : RelD S' (L.set i t) D := by
  have oth : ∀ j (hj : j < L.length), j ≠ i → L[j].id ≠ t.id := fun j hj hne e => hne (id_inj hnd hj hi (e.trans he))
  refine ⟨fun u hu hD => ?_, fun u hu hD => ?_, fun k o ho => ?_⟩
  · rcases mem_set' hu with rfl | ⟨j, hj, hne, rfl⟩
    · exact ht.1 hD
    · rw [hS _ (oth j hj hne)]; exact h.yes _ (List.getElem_mem hj) hD
  · rcases mem_set' hu with rfl | ⟨j, hj, hne, rfl⟩
    · exact ht.2 hD
    · rw [hS _ (oth j hj hne)]; exact h.dead _ (List.getElem_mem hj) hD
  · by_cases e : k = t.id
    · exact ⟨t, List.mem_iff_getElem.2 ⟨i, by simpa using hi, by simp⟩, e.symm⟩
    · rw [hS k e] at ho
      obtain ⟨u, hu, rfl⟩ := h.back k o ho
      obtain ⟨j, hj, rfl⟩ := List.getElem_of_mem hu
      have hji : j ≠ i := fun e2 => by subst e2; exact e he.symm
      exact ⟨L[j], List.mem_iff_getElem.2 ⟨j, by simpa using hj, by rw [List.getElem_set_ne (fun e => hji e.symm)]⟩, rfl⟩
/-- One thing more. -/
theorem RelD.add {S S' : Abs} {L : List Th} {D : List Int} (h : RelD S L D) {t : Th} {o : Ob} (hS : ∀ k, k ≠ t.id → S' k = S k) (ho : S' t.id = some o) (hm : Mt o t) (hno : ∀ u ∈ L, u.id ≠ t.id) (hD : t.id ∉ D) : RelD S' (L ++ [t]) D := by
  refine ⟨fun u hu hu' => ?_, fun u hu hu' => ?_, fun k p hp => ?_⟩
  · rcases List.mem_append.1 hu with hu | hu
    · rw [hS _ (hno u hu)]; exact h.yes u hu hu'
    · simp at hu; subst hu; exact ⟨o, ho, hm⟩
  · rcases List.mem_append.1 hu with hu | hu
    · rw [hS _ (hno u hu)]; exact h.dead u hu hu'
    · simp at hu; subst hu; exact absurd hu' hD
  · by_cases e : k = t.id
    · exact ⟨t, by simp, e.symm⟩
    · rw [hS k e] at hp
      obtain ⟨u, hu, rfl⟩ := h.back k p hp
      exact ⟨u, by simp [hu], rfl⟩
/-- An object of S is struck: its thing still has its entries to lose. -/
theorem RelD.kill {S : Abs} {L : List Th} {D : List Int} {x : Int} (h : RelD S L D) (hk : ∀ t ∈ L, t.id = x → t.ents ≠ [] → t.kind = 1) : RelD (delS S x) L (x :: D) := by
  refine ⟨fun t ht hD => ?_, fun t ht hD => ?_, fun k o ho => ?_⟩
  · simp only [List.mem_cons, not_or] at hD
    obtain ⟨o, ho, hm⟩ := h.yes t ht hD.2
    exact ⟨o, by unfold delS; rw [if_neg hD.1]; exact ho, hm⟩
  · by_cases e : t.id = x
    · exact ⟨by unfold delS; rw [if_pos e], hk t ht e⟩
    · have hD' : t.id ∈ D := by simpa [e] using hD
      exact ⟨by unfold delS; rw [if_neg e]; exact (h.dead t ht hD').1, (h.dead t ht hD').2⟩
  · unfold delS at ho
    by_cases e : k = x
    · rw [if_pos e] at ho; cases ho
    · rw [if_neg e] at ho; exact h.back k o ho
theorem mem_eraseIdx' {L : List Th} {i : Nat} {u : Th} (hu : u ∈ L.eraseIdx i) : u ∈ L := List.mem_of_mem_eraseIdx hu
/-- A thing that has lost all goes. -/
theorem RelD.gone {S : Abs} {L : List Th} {D : List Int} {x : Int} (h : RelD S L (x :: D)) (hnd : (L.map (·.id)).Nodup) {i : Nat} (hi : i < L.length) (he : L[i].id = x) : RelD S (L.eraseIdx i) D := by
  have key : ∀ u ∈ L.eraseIdx i, u ∈ L ∧ u.id ≠ x := fun u hu => by
    refine ⟨mem_eraseIdx' hu, fun e => ?_⟩
    obtain ⟨j, hj, hne⟩ : ∃ j, ∃ hj : j < L.length, j ≠ i ∧ L[j] = u := by
      obtain ⟨j, hj, rfl⟩ := List.getElem_of_mem hu
      rw [List.getElem_eraseIdx]
      have hlen := List.length_eraseIdx_of_lt hi
      split
      · exact ⟨j, by omega, by omega, rfl⟩
      · exact ⟨j + 1, by omega, by omega, rfl⟩
    exact hne.1 (id_inj hnd hj hi (by rw [hne.2, e, he]))
  refine ⟨fun u hu hD => ?_, fun u hu hD => ?_, fun k o ho => ?_⟩
  · obtain ⟨h1, h2⟩ := key u hu
    exact h.yes u h1 (by simp [h2, hD])
  · obtain ⟨h1, h2⟩ := key u hu
    exact h.dead u h1 (by simp [hD])
  · obtain ⟨u, hu, rfl⟩ := h.back k o ho
    refine ⟨u, ?_, rfl⟩
    have hne : u.id ≠ x := fun e => by
      have := (h.dead u hu (by simp [e])).1
      rw [ho] at this; cases this
    obtain ⟨j, hj, rfl⟩ := List.getElem_of_mem hu
    have hji : j ≠ i := fun e => by subst e; exact hne he
    rw [List.mem_eraseIdx_iff_getElem]
    exact ⟨j, hj, hji, rfl⟩
end Go.Proofs.Ytebcnlhgkpaghaa
