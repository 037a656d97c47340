/- Links are told as often as there are: what a link that is taken leaves. -/
import Derived.Test.YtebcnlhgkpaghaaLinkM
namespace Go.Proofs.Ytebcnlhgkpaghaa
open Go.RowKit Go.Sort
def occ (S : Abs) (x c : Int) : Nat := match S c with
  | some o => o.ents.count x
  | none => 0
/-- How often the objects K have x as an entry. -/
def cnt (S : Abs) (K : List Int) (x : Int) : Nat := (K.map (occ S x)).sum
theorem sum_erase {f : Int → Nat} : ∀ {K : List Int} {i : Int}, i ∈ K → (K.map f).sum = f i + ((K.erase i).map f).sum
  | [], i, h => by cases h
  | y :: K, i, h => by
    rw [List.erase_cons]
    by_cases e : (y == i) = true
    · rw [if_pos e]
      obtain rfl : y = i := by simpa using e
      rfl
    · rw [if_neg e]
      have hi : i ∈ K := by
        rcases List.mem_cons.1 h with h | h
        · subst h; simp at e
        · exact h
      have := sum_erase (f := f) hi
      simp only [List.map_cons, List.sum_cons]
      omega
theorem sum_congr {f g : Int → Nat} : ∀ {K : List Int}, (∀ c ∈ K, f c = g c) → (K.map f).sum = (K.map g).sum
  | [], _ => rfl
  | y :: K, h => by
    simp only [List.map_cons, List.sum_cons]
    rw [h y (by simp), sum_congr (fun c hc => h c (by simp [hc]))]
theorem sum_le {f : Int → Nat} {K : List Int} {i : Int} (h : i ∈ K) : f i ≤ (K.map f).sum := by rw [sum_erase h]; omega
/-- Every object is linked to as often as it says, counting what is still to be taken (P); r, the root, once more. -/
structure Bal (S : Abs) (K : List Int) (r : Int) (P : List Int) : Prop where
  nd : K.Nodup
  mem : ∀ k, k ∈ K ↔ (S k).isSome = true
  lk : ∀ x o, S x = some o → o.links = ((cnt S K x + P.count x + (if x = r then 1 else 0) : Nat) : Int)
  no : ∀ x, S x = none → cnt S K x + P.count x = 0 ∧ x ≠ r
/-- What is left is as it was, but for links. -/
def Les (S S' : Abs) : Prop := ∀ k o', S' k = some o' → ∃ o, S k = some o ∧ o' = { o with links := o'.links } ∧ o'.links ≤ o.links ∧ (1 ≤ o.links → 1 ≤ o'.links)
theorem Les.refl (S : Abs) : Les S S := fun _ o h => ⟨o, h, rfl, Int.le_refl _, id⟩
theorem Les.trans {A B C : Abs} (h : Les A B) (k : Les B C) : Les A C := fun x o hx => by
  obtain ⟨p, hp, e1, l1, m1⟩ := k x o hx
  obtain ⟨q, hq, e2, l2, m2⟩ := h x p hp
  refine ⟨q, hq, ?_, by omega, fun hh => m1 (m2 hh)⟩
  rw [e1, e2]
theorem occ_dec {S : Abs} {i : Int} {o : Ob} (h : S i = some o) (x c : Int) : occ (updS S i (decO o)) x c = occ S x c := by
  unfold occ
  by_cases hc : c = i
  · subst hc; rw [updS_at, h]; rfl
  · rw [updS_ne _ _ hc]
theorem occ_del {S : Abs} {i : Int} (x : Int) {c : Int} (hc : c ≠ i) : occ (delS S i) x c = occ S x c := by
  unfold occ; rw [delS_ne _ hc]
theorem Bal.has {S : Abs} {K P : List Int} {r i : Int} (h : Bal S K r (i :: P)) : ∃ o, S i = some o := by
  cases hS : S i with
  | some o => exact ⟨o, rfl⟩
  | none => have := (h.no i hS).1; simp at this
theorem Bal.dec {S : Abs} {K P : List Int} {r i : Int} {o : Ob} (h : Bal S K r (i :: P)) (hS : S i = some o) : Bal (updS S i (decO o)) K r P := by
  have hc : ∀ x, cnt (updS S i (decO o)) K x = cnt S K x := fun x => sum_congr (fun c _ => occ_dec hS x c)
  refine ⟨h.nd, fun k => ?_, fun x p hx => ?_, fun x hx => ?_⟩
  · rw [h.mem k]
    by_cases hk : k = i
    · subst hk; rw [updS_at, hS]
      simp
    · rw [updS_ne _ _ hk]
  · rw [hc]
    by_cases hk : x = i
    · subst hk
      rw [updS_at] at hx
      cases hx
      have := h.lk x o hS
      rw [List.count_cons_self] at this
      show o.links - 1 = _
      rw [this]; omega
    · rw [updS_ne _ _ hk] at hx
      have := h.lk x p hx
      rw [List.count_cons_of_ne (Ne.symm hk)] at this
      exact this
  · by_cases hk : x = i
    · subst hk; rw [updS_at] at hx; cases hx
    · rw [updS_ne _ _ hk] at hx
      have := h.no x hx
      rw [List.count_cons_of_ne (Ne.symm hk)] at this
      rw [hc]; exact this
theorem Bal.del {S : Abs} {K P : List Int} {r i : Int} {o : Ob} (h : Bal S K r (i :: P)) (hS : S i = some o) (hl : ¬ 1 < o.links) : Bal (delS S i) (K.erase i) r (o.ents ++ P) := by
  have hiK : i ∈ K := (h.mem i).2 (by rw [hS]; rfl)
  have hc : ∀ x, cnt S K x = o.ents.count x + cnt (delS S i) (K.erase i) x := fun x => by
    unfold cnt
    rw [sum_erase hiK]
    congr 1
    · unfold occ; rw [hS]
    · exact sum_congr (fun c hcK => (occ_del x (fun e => by subst e; exact (List.Nodup.not_mem_erase h.nd) hcK)).symm)
  have hL := h.lk i o hS
  rw [List.count_cons_self] at hL
  refine ⟨h.nd.erase i, fun k => ?_, fun x p hx => ?_, fun x hx => ?_⟩
  · by_cases hk : k = i
    · subst hk
      rw [delS_at]
      exact ⟨fun e => absurd e (List.Nodup.not_mem_erase h.nd), fun e => by cases e⟩
    · rw [delS_ne _ hk, List.mem_erase_of_ne hk]
      exact h.mem k
  · by_cases hk : x = i
    · subst hk; rw [delS_at] at hx; cases hx
    · rw [delS_ne _ hk] at hx
      have := h.lk x p hx
      rw [List.count_cons_of_ne (Ne.symm hk), hc] at this
      rw [this, List.count_append]
      congr 1
      omega
  · by_cases hk : x = i
    · subst hk
      rw [List.count_append]
      have := hc x
      refine ⟨by omega, fun e => ?_⟩
      rw [if_pos e] at hL
      omega
    · rw [delS_ne _ hk] at hx
      have := h.no x hx
      rw [List.count_cons_of_ne (Ne.symm hk), hc] at this
      rw [List.count_append]
      exact ⟨by omega, this.2⟩
theorem Les.dec {S : Abs} {i : Int} {o : Ob} (hS : S i = some o) (hl : 1 < o.links) : Les S (updS S i (decO o)) := fun k p hp => by
  by_cases hk : k = i
  · subst hk; rw [updS_at] at hp; cases hp
    exact ⟨o, hS, rfl, by show o.links - 1 ≤ o.links; omega, fun _ => by show 1 ≤ o.links - 1; omega⟩
  · rw [updS_ne _ _ hk] at hp; exact ⟨p, hp, rfl, Int.le_refl _, id⟩
theorem Les.del (S : Abs) (i : Int) : Les S (delS S i) := fun k p hp => by
  by_cases hk : k = i
  · subst hk; rw [delS_at] at hp; cases hp
  · rw [delS_ne _ hk] at hp; exact ⟨p, hp, rfl, Int.le_refl _, id⟩
/-- What came of it. -/
structure Went (S : Abs) (K : List Int) (r : Int) (P g : List Int) (S' : Abs) (g2 : List Int) : Prop where
  ex : ∃ K' g', g2 = g ++ g' ∧ Bal S' K' r P ∧ K.Perm (K' ++ g')
  les : Les S S'
theorem fold_total {n : Nat} {r : Int} (IH : ∀ (S : Abs) (K : List Int) (i : Int) (g P : List Int), Bal S K r (i :: P) → K.length ≤ n → ∃ S' g2, loosS n S i g = some (S', g2) ∧ Went S K r P g S' g2) :
    ∀ (l : List Int) (S : Abs) (K g P : List Int), Bal S K r (l ++ P) → K.length ≤ n → ∃ S' g2, foldS (loosS n) l S g = some (S', g2) ∧ Went S K r P g S' g2
  | [], S, K, g, P, h, _ => ⟨S, g, rfl, ⟨K, [], by simp, h, by simp⟩, Les.refl S⟩
  | i :: l, S, K, g, P, h, hK => by
    obtain ⟨S1, g1, h1, ⟨K1, e1, hg1, hb1, hp1⟩, hl1⟩ := IH S K i g (l ++ P) h hK
    have hlen : K1.length ≤ n := by have := hp1.length_eq; rw [List.length_append] at this; omega
    obtain ⟨S2, g2, h2, ⟨K2, e2, hg2, hb2, hp2⟩, hl2⟩ := fold_total IH l S1 K1 g1 P hb1 hlen
    refine ⟨S2, g2, ?_, ⟨K2, e1 ++ e2, by rw [hg2, hg1, List.append_assoc], hb2, ?_⟩, hl1.trans hl2⟩
    · unfold foldS; rw [h1]; exact h2
    · refine hp1.trans ((hp2.append_right e1).trans ?_)
      rw [List.append_assoc]
      exact List.Perm.append_left _ List.perm_append_comm
theorem loos_total (r : Int) : ∀ (n : Nat) (S : Abs) (K : List Int) (i : Int) (g P : List Int), Bal S K r (i :: P) → K.length ≤ n → ∃ S' g2, loosS n S i g = some (S', g2) ∧ Went S K r P g S' g2
  | 0, S, K, i, g, P, h, hK => by
    obtain ⟨o, ho⟩ := h.has
    have := (h.mem i).2 (by rw [ho]; rfl)
    have := List.length_pos_of_mem this
    omega
  | n + 1, S, K, i, g, P, h, hK => by
    obtain ⟨o, ho⟩ := h.has
    have hiK := (h.mem i).2 (by rw [ho]; rfl)
    unfold loosS
    rw [ho]
    simp only
    by_cases hl : 1 < o.links
    · rw [if_pos hl]
      exact ⟨_, _, rfl, ⟨K, [], by simp, h.dec ho, by simp⟩, Les.dec ho hl⟩
    · rw [if_neg hl]
      have hlen : (K.erase i).length ≤ n := by rw [List.length_erase_of_mem hiK]; omega
      obtain ⟨S2, g2, h2, ⟨K2, e2, hg2, hb2, hp2⟩, hl2⟩ := fold_total (loos_total r n) o.ents (delS S i) (K.erase i) (g ++ [i]) P (h.del ho hl) hlen
      refine ⟨S2, g2, h2, ⟨K2, i :: e2, by rw [hg2]; simp, hb2, ?_⟩, (Les.del S i).trans hl2⟩
      refine (List.perm_cons_erase hiK).trans ((hp2.cons i).trans ?_)
      exact List.perm_middle.symm
end Go.Proofs.Ytebcnlhgkpaghaa
