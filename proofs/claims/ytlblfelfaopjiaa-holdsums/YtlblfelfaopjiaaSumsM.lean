/- What is reached from the root, and how often each is linked to. -/
import Derived.Test.YtlblfelfaopjiaaGoesB
namespace Go.Proofs.Ytlblfelfaopjiaa
open Go.RowKit Go.Sort
/-- How far the law's search is: the first i of R are gone through, and of the next one the entries E; Lk counts the links. -/
structure SI (S : Abs) (i : Nat) (E R Lk : List Int) : Prop where
  len : Lk.length = R.length
  nd : R.Nodup
  one : 1 ∈ R
  has : ∀ x ∈ R, ∃ o, S x = some o
  cl : ∀ k ∈ R.take i, ∀ o, S k = some o → ∀ x ∈ o.ents, x ∈ R
  en : ∀ x ∈ E, x ∈ R
  il : i ≤ R.length
  lk : ∀ (j : Nat) (h : j < R.length), Lk[j]? = some ((cnt S (R.take i) R[j] + E.count R[j] + (if R[j] = 1 then 1 else 0) : Nat) : Int)
theorem SI.start {S : Abs} {o : Ob} (h : S 1 = some o) : SI S 0 [] [1] [1] := by
  refine ⟨rfl, by simp, by simp, fun x hx => ⟨o, by simp at hx; rw [hx]; exact h⟩, (fun k hk => by simp at hk), (fun x hx => by cases hx), by simp, fun j hj => ?_⟩
  obtain rfl : j = 0 := by simp at hj; omega
  simp [cnt]
theorem cnt_snoc (S : Abs) (l : List Int) (k x : Int) : cnt S (l ++ [k]) x = cnt S l x + occ S x k := by
  unfold cnt; rw [List.map_append, List.sum_append]; simp
theorem SI.next {S : Abs} {i : Nat} {R Lk : List Int} {o : Ob} (hi : i < R.length) (ho : S R[i] = some o) (h : SI S i o.ents R Lk) : SI S (i + 1) [] R Lk := by
  have ht : R.take (i + 1) = R.take i ++ [R[i]] := List.take_succ_eq_append_getElem hi
  refine ⟨h.len, h.nd, h.one, h.has, fun k hk p hp x hx => ?_, (fun x hx => by cases hx), hi, fun j hj => ?_⟩
  · rw [ht] at hk
    rcases List.mem_append.1 hk with hk | hk
    · exact h.cl k hk p hp x hx
    · obtain rfl : k = R[i] := by simpa using hk
      rw [ho] at hp; cases hp
      exact h.en x hx
  · rw [h.lk j hj, ht, cnt_snoc]
    congr 2
    have : occ S R[j] R[i] = o.ents.count R[j] := by unfold occ; rw [ho]
    rw [this, List.count_nil]; omega
theorem SI.app {S : Abs} {i : Nat} {E R Lk : List Int} {x : Int} {p : Ob} (h : SI S i E R Lk) (hx : x ∉ R) (hp : S x = some p) : SI S i E (R ++ [x]) (Lk ++ [0]) := by
  have ht : (R ++ [x]).take i = R.take i := List.take_append_of_le_length h.il
  refine ⟨by simp [h.len], ?_, by simp [h.one], fun y hy => ?_, fun k hk o ho y hy => ?_, fun y hy => by simp [h.en y hy], by have := h.il; simp; omega, fun j hj => ?_⟩
  · rw [List.nodup_append]
    exact ⟨h.nd, by simp, fun a ha b hb e => by simp at hb; subst hb; subst e; exact hx ha⟩
  · rcases List.mem_append.1 hy with hy | hy
    · exact h.has y hy
    · simp at hy; rw [hy]; exact ⟨p, hp⟩
  · rw [ht] at hk
    exact List.mem_append_left _ (h.cl k hk o ho y hy)
  · rw [ht]
    by_cases e : j < R.length
    · rw [List.getElem?_append_left (by rw [h.len]; exact e), h.lk j e, List.getElem_append_left e]
    · obtain rfl : j = R.length := by simp at hj; omega
      have hg : (R ++ [x])[R.length]'hj = x := by simp
      rw [hg, ← h.len]
      rw [List.getElem?_append_right (Nat.le_refl _), Nat.sub_self]
      have c1 : cnt S (R.take i) x = 0 := by
        have key : ∀ L : List Int, (∀ k ∈ L, occ S x k = 0) → (L.map (occ S x)).sum = 0 := fun L => by
          induction L with
          | nil => intro _; rfl
          | cons y L ih => intro hL; rw [List.map_cons, List.sum_cons, hL y (by simp), ih (fun k hk => hL k (by simp [hk]))]
        refine key _ (fun k hk => ?_)
        unfold occ
        cases hS : S k with
        | none => rfl
        | some o => exact List.count_eq_zero.2 (fun hm => hx (h.cl k hk o hS x hm))
      have c2 : E.count x = 0 := List.count_eq_zero.2 (fun hm => hx (h.en x hm))
      have c3 : x ≠ 1 := fun e => hx (e ▸ h.one)
      rw [c1, c2, if_neg c3]; rfl
theorem SI.seen {S : Abs} {i : Nat} {E R Lk : List Int} {a : Nat} {v : Int} (ha : a < R.length) (hv : Lk[a]? = some v) (h : SI S i E R Lk) : SI S i (E ++ [R[a]]) R (Lk.set a (v + 1)) := by
  refine ⟨by simp [h.len], h.nd, h.one, h.has, h.cl, fun y hy => ?_, h.il, fun j hj => ?_⟩
  · rcases List.mem_append.1 hy with hy | hy
    · exact h.en y hy
    · simp at hy; rw [hy]; exact List.getElem_mem ha
  · rw [List.count_append]
    by_cases e : j = a
    · subst e
      rw [List.getElem?_set_self (by rw [h.len]; exact hj)]
      have := h.lk j hj
      rw [hv] at this
      have := Option.some.inj this
      rw [this]
      congr 1
      simp
      omega
    · rw [List.getElem?_set_ne (Ne.symm e), h.lk j hj]
      have : List.count R[j] [R[a]] = 0 := List.count_eq_zero.2 (fun hm => by
        simp at hm
        exact e ((List.getElem_inj h.nd).1 hm))
      rw [this]; simp
theorem SI.fin {S : Abs} {K R Lk : List Int} (hi : Inv S K) (h : SI S R.length [] R Lk) : R.length = K.length ∧ ∀ (j : Nat) (hj : j < R.length) (o : Ob), S R[j] = some o → Lk[j]? = some o.links := by
  have hall := hi.all h.one (fun k hk o ho x hx => h.cl k (by rw [List.take_length]; exact hk) o ho x hx)
  have hpm : R.Perm K := (List.perm_ext_iff_of_nodup h.nd hi.bal.nd).2 (fun k => by
    rw [hi.bal.mem k]
    constructor
    · intro hk; obtain ⟨o, ho⟩ := h.has k hk; rw [ho]; rfl
    · intro hk; obtain ⟨o, ho⟩ := Option.isSome_iff_exists.1 hk; exact hall k o ho)
  refine ⟨hpm.length_eq, fun j hj o ho => ?_⟩
  have hc : cnt S R R[j] = cnt S K R[j] := (hpm.map _).sum_nat
  rw [h.lk j hj, List.take_length, hc, hi.bal.lk _ o ho]
end Go.Proofs.Ytlblfelfaopjiaa
