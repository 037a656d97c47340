/- What becomes of an object that several containers link to: the plain facts. -/
import Derived.Test.YtebcnlhgkpaghaaAbs
namespace Go.Proofs.Ytebcnlhgkpaghaa
open Go.RowKit Go.Sort
theorem updS_at (S : Abs) (i : Int) (o : Ob) : updS S i o i = some o := by unfold updS; rw [if_pos rfl]
theorem updS_ne (S : Abs) {i k : Int} (o : Ob) (h : k ≠ i) : updS S i o k = S k := by unfold updS; rw [if_neg h]
theorem delS_at (S : Abs) (i : Int) : delS S i i = none := by unfold delS; rw [if_pos rfl]
theorem delS_ne (S : Abs) {i k : Int} (h : k ≠ i) : delS S i k = S k := by unfold delS; rw [if_neg h]
/-- The boxes M link to the object 600, of quota q; the root has them. -/
structure Lk (S : Abs) (q : Int) (M : List Int) : Prop where
  root : ∃ o, S 1 = some o ∧ o.kind = 1 ∧ (∀ i ∈ M, i ∈ o.ents) ∧ -5000 * (13 - (M.length : Int)) ≤ o.used ∧ o.used ≤ 1000000
  box : ∀ i ∈ M, ∃ o, S i = some o ∧ o.kind = 1 ∧ o.ents = [600] ∧ o.links = 1 ∧ 1 ≤ o.quota ∧ o.quota ≤ 5000 ∧ o.used = q
  seg : M ≠ [] → ∃ o, S 600 = some o ∧ o.kind = 2 ∧ o.quota = q ∧ o.links = M.length ∧ o.ents = [] ∧ o.cats = []
  gone : M = [] → S 600 = none
  nd : M.Nodup
  ids : ∀ i ∈ M, 10 ≤ i ∧ i ≤ 500
  len : M.length ≤ 13
  good : GoodS S
theorem loos600 {S : Abs} {M : List Int} {p : Ob} (hS : S 600 = some p) (hl : p.links = M.length) (he : p.ents = []) (g : List Int) (n : Nat) :
    loosS (n + 1) S 600 g = if 1 < M.length then some (updS S 600 (decO p), g) else some (delS S 600, g ++ [600]) := by
  unfold loosS
  rw [hS]
  simp only
  rw [he]
  by_cases h : 1 < M.length
  · rw [if_pos h, if_pos (by omega)]
  · rw [if_neg h, if_neg (by omega)]; rfl
theorem GoodS.upd {S : Abs} (h : GoodS S) {i : Int} {o : Ob} (hi : i64 i) (h1 : ∀ x ∈ o.ents, i64 x) (h2 : o.ents.length < 1000000) (h3 : 1 ≤ o.links) (h4 : o.links < 1000000) : GoodS (updS S i o) := fun k t ht => by
  by_cases hk : k = i
  · subst hk; rw [updS_at] at ht; cases ht; exact ⟨hi, h1, h2, h3, h4⟩
  · rw [updS_ne _ _ hk] at ht; exact h k t ht
theorem GoodS.del {S : Abs} (h : GoodS S) (i : Int) : GoodS (delS S i) := fun k t ht => by
  by_cases hk : k = i
  · subst hk; rw [delS_at] at ht; cases ht
  · rw [delS_ne _ hk] at ht; exact h k t ht
theorem i600 : i64 600 := by unfold i64; omega
theorem mem_without {x y : Int} {l : List Int} (h : y ∈ l) (hn : y ≠ x) : y ∈ without x l := by
  unfold without; rw [List.mem_filter]; exact ⟨h, by simpa using hn⟩
/-- What is left when the object 600 loses a link. -/
theorem Lk.less {S : Abs} {q : Int} {A B : List Int} {i : Int} {p : Ob} (hS : S 600 = some p) (hl : p.links = ((A ++ i :: B).length : Nat)) (he : p.ents = []) (hk : p.kind = 2) (hq : p.quota = q) (hc : p.cats = []) (hlen : (A ++ i :: B).length ≤ 13) (hnd : (A ++ i :: B).Nodup) (hids : ∀ k ∈ A ++ i :: B, 10 ≤ k ∧ k ≤ 500) (hg : GoodS S)
    (root : ∃ o, S 1 = some o ∧ o.kind = 1 ∧ (∀ k ∈ A ++ B, k ∈ o.ents) ∧ -5000 * (13 - ((A ++ B).length : Int)) ≤ o.used ∧ o.used ≤ 1000000)
    (box : ∀ k ∈ A ++ B, ∃ o, S k = some o ∧ o.kind = 1 ∧ o.ents = [600] ∧ o.links = 1 ∧ 1 ≤ o.quota ∧ o.quota ≤ 5000 ∧ o.used = q) (g : List Int) (n : Nat) :
    ∃ S' g', loosS (n + 1) S 600 g = some (S', g') ∧ Lk S' q (A ++ B) ∧ g' = (if A ++ B = [] then g ++ [600] else g) := by
  have hL : (A ++ i :: B).length = (A ++ B).length + 1 := by simp; omega
  have hsub : ∀ k ∈ A ++ B, k ∈ A ++ i :: B := fun k hk => by
    rcases List.mem_append.1 hk with h | h
    · exact List.mem_append_left _ h
    · exact List.mem_append_right _ (List.mem_cons_of_mem _ h)
  have hnd2 : (A ++ B).Nodup := by
    have h := hnd
    rw [List.nodup_append] at h ⊢
    exact ⟨h.1, (List.nodup_cons.1 h.2.1).2, fun a ha b hb => h.2.2 a ha b (List.mem_cons_of_mem _ hb)⟩
  have hids2 : ∀ k ∈ A ++ B, 10 ≤ k ∧ k ≤ 500 := fun k hk => hids k (hsub k hk)
  have hne : ∀ k ∈ A ++ B, k ≠ 600 := fun k hk => by have := hids2 k hk; omega
  have hlo := loos600 hS hl he g n
  by_cases h1 : A ++ B = []
  · rw [if_neg (by rw [hL, h1]; simp)] at hlo
    rw [if_pos h1]
    refine ⟨_, _, hlo, ?_, rfl⟩
    obtain ⟨o, ho, r1, r2, r3, r4⟩ := root
    refine ⟨⟨o, (delS_ne _ (by decide)).trans ho, r1, r2, r3, r4⟩, fun k hk => by rw [h1] at hk; simp at hk, fun h => absurd h1 h, fun _ => delS_at _ _, hnd2, hids2, by omega, hg.del _⟩
  · have h2 : 0 < (A ++ B).length := List.length_pos_iff.2 h1
    rw [if_pos (by omega)] at hlo
    rw [if_neg h1]
    refine ⟨_, _, hlo, ?_, rfl⟩
    obtain ⟨o, ho, r1, r2, r3, r4⟩ := root
    refine ⟨⟨o, (updS_ne _ _ (by decide)).trans ho, r1, r2, r3, r4⟩, fun k hk => ?_, fun _ => ⟨_, updS_at _ _ _, hk, hq, ?_, he, hc⟩, fun h => absurd h h1, hnd2, hids2, by omega, hg.upd i600 ?_ ?_ ?_ ?_⟩
    · obtain ⟨o, ho, rest⟩ := box k hk
      exact ⟨o, (updS_ne _ _ (hne k hk)).trans ho, rest⟩
    · show p.links - 1 = _
      rw [hl, hL]; omega
    · show ∀ x ∈ p.ents, _
      rw [he]; intro x hx; cases hx
    · show p.ents.length < _
      rw [he]; simp
    · show 1 ≤ p.links - 1
      rw [hl, hL]; omega
    · show p.links - 1 < 1000000
      rw [hl]; omega
/-- A box drops it. -/
theorem Lk.drop600 {S : Abs} {q : Int} {A B : List Int} {i : Int} (h : Lk S q (A ++ i :: B)) : ∃ o p S' g', S i = some o ∧ o.kind = 1 ∧ o.ents.contains 600 = true ∧ S 600 = some p ∧ i64 (o.used - p.quota) ∧ loosS 1 (updS S i (dropO o p.quota 600)) 600 [] = some (S', g') ∧ Lk S' q (A ++ B) ∧ g' = (if A ++ B = [] then [600] else []) := by
  have hi : i ∈ A ++ i :: B := by simp
  obtain ⟨o, ho, o1, o2, o3, o4, o5, o6⟩ := h.box i hi
  obtain ⟨p, hp, p1, p2, p3, p4, p5⟩ := h.seg (by simp)
  have hids := h.ids i hi
  have hnd := h.nd
  have hni : ∀ k ∈ A ++ B, k ≠ i := fun k hk e => by
    subst e
    rw [List.nodup_append] at hnd
    rcases List.mem_append.1 hk with h1 | h1
    · exact hnd.2.2 k h1 k (by simp) rfl
    · exact (List.nodup_cons.1 hnd.2.1).1 h1
  have hsub : ∀ k ∈ A ++ B, k ∈ A ++ i :: B := fun k hk => by
    rcases List.mem_append.1 hk with h | h
    · exact List.mem_append_left _ h
    · exact List.mem_append_right _ (List.mem_cons_of_mem _ h)
  have hL : ((A ++ i :: B).length : Int) = ((A ++ B).length : Int) + 1 := by simp; omega
  obtain ⟨ro, hro, r1, r2, r3, r4⟩ := h.root
  have hw : without 600 o.ents = [] := by rw [o2]; rfl
  obtain ⟨S', g', hlo, hLk, hg'⟩ := Lk.less (S := updS S i (dropO o p.quota 600)) (A := A) (B := B) (i := i) (p := p) ((updS_ne _ _ (by omega)).trans hp) p3 p4 p1 p2 p5 h.len h.nd h.ids
    (h.good.upd (by unfold i64; omega) (by intro x hx; rw [show (dropO o p.quota 600).ents = [] from hw] at hx; cases hx) (by rw [show (dropO o p.quota 600).ents = [] from hw]; simp) (by show 1 ≤ o.links; omega) (by show o.links < 1000000; omega))
    ⟨ro, (updS_ne _ _ (by omega)).trans hro, r1, fun k hk => r2 k (hsub k hk), by omega, r4⟩
    (fun k hk => by obtain ⟨t, ht, rest⟩ := h.box k (hsub k hk); exact ⟨t, (updS_ne _ _ (hni k hk)).trans ht, rest⟩) [] 0
  exact ⟨o, p, S', g', ho, o1, by rw [o2]; decide, hp, by rw [o6, p2]; unfold i64; omega, hlo, hLk, by rw [hg']; rfl⟩
/-- A box goes. -/
theorem Lk.dropBox {S : Abs} {q : Int} {A B : List Int} {i : Int} (h : Lk S q (A ++ i :: B)) : ∃ o p S' g', S 1 = some o ∧ o.kind = 1 ∧ o.ents.contains i = true ∧ S i = some p ∧ i64 (o.used - p.quota) ∧ loosS 2 (updS S 1 (dropO o p.quota i)) i [] = some (S', g') ∧ Lk S' q (A ++ B) ∧ g' = (if A ++ B = [] then [i, 600] else [i]) := by
  have hi : i ∈ A ++ i :: B := by simp
  obtain ⟨p, hp, o1, o2, o3, o4, o5, o6⟩ := h.box i hi
  obtain ⟨s, hs, p1, p2, p3, p4, p5⟩ := h.seg (by simp)
  have hids := h.ids i hi
  have hnd := h.nd
  have hlen := h.len
  have hni : ∀ k ∈ A ++ B, k ≠ i := fun k hk e => by
    subst e
    rw [List.nodup_append] at hnd
    rcases List.mem_append.1 hk with h1 | h1
    · exact hnd.2.2 k h1 k (by simp) rfl
    · exact (List.nodup_cons.1 hnd.2.1).1 h1
  have hsub : ∀ k ∈ A ++ B, k ∈ A ++ i :: B := fun k hk => by
    rcases List.mem_append.1 hk with h | h
    · exact List.mem_append_left _ h
    · exact List.mem_append_right _ (List.mem_cons_of_mem _ h)
  have hL : ((A ++ i :: B).length : Int) = ((A ++ B).length : Int) + 1 := by simp; omega
  have hn1 : ∀ k ∈ A ++ B, k ≠ 1 := fun k hk => by have := h.ids k (hsub k hk); omega
  obtain ⟨ro, hro, r1, r2, r3, r4⟩ := h.root
  obtain ⟨g0, g1, g2, g3, g4⟩ := h.good 1 ro hro
  obtain ⟨S', g', hlo, hLk, hg'⟩ := Lk.less (S := delS (updS S 1 (dropO ro p.quota i)) i) (A := A) (B := B) (i := i) (p := s) ((delS_ne _ (by omega)).trans ((updS_ne _ _ (by omega)).trans hs)) p3 p4 p1 p2 p5 h.len h.nd h.ids
    ((h.good.upd (o := dropO ro p.quota i) g0 (fun x hx => g1 x (List.mem_filter.1 hx).1) (Nat.lt_of_le_of_lt (List.length_filter_le _ _) g2) g3 g4).del i)
    ⟨dropO ro p.quota i, (delS_ne _ (by omega)).trans (updS_at _ _ _), r1, fun k hk => mem_without (r2 k (hsub k hk)) (hni k hk), by show _ ≤ ro.used - p.quota; omega, by show ro.used - p.quota ≤ _; omega⟩
    (fun k hk => by obtain ⟨t, ht, rest⟩ := h.box k (hsub k hk); exact ⟨t, (delS_ne _ (hni k hk)).trans ((updS_ne _ _ (hn1 k hk)).trans ht), rest⟩) [i] 0
  refine ⟨ro, p, S', g', hro, r1, ?_, hp, by unfold i64; omega, ?_, hLk, by rw [hg']; split <;> rfl⟩
  · simpa using r2 i hi
  · have e : updS S 1 (dropO ro p.quota i) i = some p := (updS_ne _ _ (by omega)).trans hp
    show (match updS S 1 (dropO ro p.quota i) i with
      | none => none
      | some o => if 1 < o.links then some (updS (updS S 1 (dropO ro p.quota i)) i (decO o), []) else foldS (loosS 1) o.ents (delS (updS S 1 (dropO ro p.quota i)) i) ([] ++ [i])) = _
    rw [e]
    simp only
    rw [if_neg (by omega), o2]
    show (match loosS 1 (delS (updS S 1 (dropO ro p.quota i)) i) 600 [i] with
      | none => none
      | some p => foldS (loosS 1) [] p.1 p.2) = _
    rw [hlo]
    rfl
end Go.Proofs.Ytebcnlhgkpaghaa
