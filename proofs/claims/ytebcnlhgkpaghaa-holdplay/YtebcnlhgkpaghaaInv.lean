/- What is so of a table behind every row of calls. -/
import Derived.Test.YtebcnlhgkpaghaaBal
namespace Go.Proofs.Ytebcnlhgkpaghaa
open Go.RowKit Go.Sort
/-- An object's quota. -/
def qS (S : Abs) (x : Int) : Int := match S x with
  | some p => p.quota
  | none => 0
structure Good1 (S : Abs) (k : Int) (o : Ob) : Prop where
  id : o.id = k
  ct : isCt k = true
  kd : 1 ≤ o.kind ∧ o.kind ≤ 6
  q : 1 ≤ o.quota ∧ o.quota ≤ 1099511627776
  nd : o.ents.Nodup
  us : o.used = (o.ents.map (qS S)).sum
  le : o.used ≤ o.quota
  non : o.kind ≠ 1 → o.ents = []
  lk : o.kind ≠ 2 → o.kind ≠ 5 → o.links = 1
  l1 : 1 ≤ o.links
  slf : k ∉ o.ents
  cat : o.cats.length < 1000000
/-- Whatever is an entry stands above what it is an entry of. -/
def Ranked (S : Abs) : Prop := ∃ rk : Int → Nat, ∀ k o x, S k = some o → x ∈ o.ents → rk k < rk x
theorem Ranked.less {S S' : Abs} (h : Ranked S) (hs : ∀ k o', S' k = some o' → ∀ x ∈ o'.ents, ∃ o, S k = some o ∧ x ∈ o.ents) : Ranked S' := by
  obtain ⟨rk, h⟩ := h
  refine ⟨rk, fun k o' x hk hx => ?_⟩
  obtain ⟨o, ho, hm⟩ := hs k o' hk x hx
  exact h k o x ho hm
theorem Ranked.raise {S S' : Abs} {K : List Int} (h : Ranked S) (y : Int) (hy : ∀ o, S' y = some o → o.ents = []) (hK : ∀ k, k ≠ y → (S' k).isSome = true → k ∈ K) (hs : ∀ k o', S' k = some o' → ∀ x ∈ o'.ents, x = y ∨ ∃ o, S k = some o ∧ x ∈ o.ents) : Ranked S' := by
  obtain ⟨rk, h⟩ := h
  refine ⟨fun k => if k = y then (K.map rk).sum + 1 else rk k, fun k o' x hk hx => ?_⟩
  have hky : k ≠ y := fun e => by subst e; rw [hy o' hk] at hx; cases hx
  have hkK := hK k hky (by rw [hk]; rfl)
  show (if k = y then _ else rk k) < (if x = y then _ else rk x)
  rw [if_neg hky]
  by_cases e : x = y
  · rw [if_pos e]
    have : rk k ≤ (K.map rk).sum := sum_le hkK
    omega
  · rw [if_neg e]
    rcases hs k o' hk x hx with e2 | ⟨o, ho, hm⟩
    · exact absurd e2 e
    · exact h k o x ho hm
structure Inv (rt : Int) (S : Abs) (K : List Int) : Prop where
  bal : Bal S K rt []
  ok : ∀ k o, S k = some o → Good1 S k o
  len : K.length ≤ 4096
  top : Ranked S
theorem isum_nonneg {f : Int → Int} : ∀ (l : List Int), (∀ x ∈ l, 0 ≤ f x) → 0 ≤ (l.map f).sum
  | [], _ => by simp
  | y :: l, h => by
    rw [List.map_cons, List.sum_cons]
    have h1 := h y (by simp)
    have h2 := isum_nonneg l (fun x hx => h x (by simp [hx]))
    omega
theorem isum_congr {f g : Int → Int} : ∀ {l : List Int}, (∀ x ∈ l, f x = g x) → (l.map f).sum = (l.map g).sum
  | [], _ => rfl
  | y :: l, h => by rw [List.map_cons, List.sum_cons, List.map_cons, List.sum_cons, h y (by simp), isum_congr (fun x hx => h x (by simp [hx]))]
theorem isum_app (f : Int → Int) (l : List Int) (x : Int) : ((l ++ [x]).map f).sum = (l.map f).sum + f x := by
  induction l with
  | nil => simp
  | cons y l ih => rw [List.cons_append, List.map_cons, List.sum_cons, ih, List.map_cons, List.sum_cons]; omega
theorem isum_without {f : Int → Int} : ∀ {l : List Int} {x : Int}, l.Nodup → x ∈ l → ((without x l).map f).sum = (l.map f).sum - f x
  | [], _, _, h => by cases h
  | y :: l, x, hn, h => by
    obtain ⟨hy, hn'⟩ := List.nodup_cons.1 hn
    by_cases e : y = x
    · subst e
      have hw : without y (y :: l) = l := by
        unfold without
        rw [List.filter_cons, if_neg (by simp)]
        rw [List.filter_eq_self]
        intro a ha
        have : a ≠ y := fun e => hy (e ▸ ha)
        simpa using this
      rw [hw, List.map_cons, List.sum_cons]; omega
    · have hx : x ∈ l := by
        rcases List.mem_cons.1 h with h | h
        · exact absurd h.symm e
        · exact h
      have hw : without x (y :: l) = y :: without x l := by
        unfold without
        rw [List.filter_cons, if_pos (by simpa using e)]
      rw [hw, List.map_cons, List.sum_cons, isum_without hn' hx, List.map_cons, List.sum_cons]; omega
theorem isum_mem {f : Int → Int} : ∀ {l : List Int} {x : Int}, (∀ x ∈ l, 0 ≤ f x) → x ∈ l → f x ≤ (l.map f).sum
  | [], _, _, h => by cases h
  | y :: l, x, hp, h => by
    rw [List.map_cons, List.sum_cons]
    have h1 := hp y (by simp)
    have h2 := isum_nonneg l (fun x hx => hp x (by simp [hx]))
    rcases List.mem_cons.1 h with rfl | h
    · omega
    · have := isum_mem (fun x hx => hp x (by simp [hx])) h
      omega
theorem len_sub : ∀ (l l' : List Int), l.Nodup → (∀ x ∈ l, x ∈ l') → l.length ≤ l'.length
  | [], _, _, _ => Nat.zero_le _
  | x :: l, l', hn, hs => by
    have hx := hs x (by simp)
    obtain ⟨h1, h2⟩ := List.nodup_cons.1 hn
    have := len_sub l (l'.erase x) h2 (fun y hy => (List.mem_erase_of_ne (fun e : y = x => h1 (e ▸ hy))).2 (hs y (by simp [hy])))
    rw [List.length_erase_of_mem hx] at this
    have : 0 < l'.length := List.length_pos_of_mem hx
    simp; omega
theorem nodup_len {l K : List Int} (hn : l.Nodup) (hs : ∀ x ∈ l, x ∈ K) : l.length ≤ K.length := len_sub l K hn hs
theorem ct_i64 {k : Int} (h : isCt k = true) : i64 k := by unfold isCt at h; simp at h; unfold i64; omega
section
variable {rt : Int} {S : Abs} {K : List Int}
theorem Inv.ent (h : Inv rt S K) {k x : Int} {o : Ob} (hk : S k = some o) (hx : x ∈ o.ents) : ∃ p, S x = some p := by
  cases hS : S x with
  | some p => exact ⟨p, rfl⟩
  | none =>
    have h0 := (h.bal.no x hS).1
    have hkK := (h.bal.mem k).2 (by rw [hk]; rfl)
    have h1 : occ S x k ≤ cnt S K x := sum_le hkK
    have h2 : 0 < occ S x k := by unfold occ; rw [hk]; exact List.count_pos_iff.2 hx
    omega
theorem Inv.qpos (h : Inv rt S K) (x : Int) : 0 ≤ qS S x := by
  unfold qS
  cases hS : S x with
  | none => simp
  | some p => have := (h.ok x p hS).q; simp only; omega
theorem Inv.upos (h : Inv rt S K) {k : Int} {o : Ob} (hk : S k = some o) : 0 ≤ o.used := by
  rw [(h.ok k o hk).us]; exact isum_nonneg _ (fun x _ => h.qpos x)
theorem Inv.elen (h : Inv rt S K) {k : Int} {o : Ob} (hk : S k = some o) : o.ents.length ≤ K.length :=
  nodup_len (h.ok k o hk).nd (fun x hx => by obtain ⟨p, hp⟩ := h.ent hk hx; exact (h.bal.mem x).2 (by rw [hp]; rfl))
theorem Inv.cntle (h : Inv rt S K) (x : Int) : cnt S K x ≤ K.length := by
  have key : ∀ (L : List Int), (∀ c ∈ L, occ S x c ≤ 1) → (L.map (occ S x)).sum ≤ L.length := fun L => by
    induction L with
    | nil => intro _; simp
    | cons y L ih =>
      intro hL
      rw [List.map_cons, List.sum_cons, List.length_cons]
      have h1 := hL y (by simp)
      have h2 := ih (fun c hc => hL c (by simp [hc]))
      omega
  refine key K (fun c _ => ?_)
  unfold occ
  cases hS : S c with
  | none => simp
  | some o => exact List.nodup_iff_count.1 (h.ok c o hS).nd x
theorem Inv.good (h : Inv rt S K) : GoodS S := fun k o hk => by
  have hl := h.bal.lk k o hk
  have hc := h.cntle k
  have hlen := h.len
  have hel := h.elen hk
  refine ⟨ct_i64 (h.ok k o hk).ct, fun x hx => ?_, by omega, (h.ok k o hk).l1, ?_⟩
  · obtain ⟨p, hp⟩ := h.ent hk hx; exact ct_i64 (h.ok x p hp).ct
  · rw [hl]; simp only [List.count_nil]; split <;> omega
/-- Whatever has it as an entry, when it is linked to once. -/
theorem Inv.once (h : Inv rt S K) {x a b : Int} {p oa ob : Ob} (hx : S x = some p) (hl : p.links = 1) (ha : S a = some oa) (hb : S b = some ob) (ea : x ∈ oa.ents) (eb : x ∈ ob.ents) : a = b := by
  cases Classical.em (a = b) with
  | inl e => exact e
  | inr e =>
    exfalso
    have hL := h.bal.lk x p hx
    have haK := (h.bal.mem a).2 (by rw [ha]; rfl)
    have hbK := (h.bal.mem b).2 (by rw [hb]; rfl)
    have h1 : cnt S K x = occ S x a + ((K.erase a).map (occ S x)).sum := sum_erase haK
    have h2 : occ S x b ≤ ((K.erase a).map (occ S x)).sum := sum_le ((List.mem_erase_of_ne (Ne.symm e)).2 hbK)
    have h3 : 0 < occ S x a := by unfold occ; rw [ha]; exact List.count_pos_iff.2 ea
    have h4 : 0 < occ S x b := by unfold occ; rw [hb]; exact List.count_pos_iff.2 eb
    omega
/-- The root is nobody's entry when it is linked to once. -/
theorem Inv.rootless (h : Inv rt S K) {x a : Int} {p oa : Ob} (hx : S x = some p) (hl : p.links = 1) (ha : S a = some oa) (ea : x ∈ oa.ents) : x ≠ rt := fun e => by
  have hL := h.bal.lk x p hx
  rw [if_pos e] at hL
  have haK := (h.bal.mem a).2 (by rw [ha]; rfl)
  have h1 : occ S x a ≤ cnt S K x := sum_le haK
  have h3 : 0 < occ S x a := by unfold occ; rw [ha]; exact List.count_pos_iff.2 ea
  omega
/-- A set of entries that is another's, but for one object. -/
theorem occ_upd {i : Int} {o o' : Ob} (hi : S i = some o) (he : o'.ents = o.ents) (x c : Int) : occ (updS S i o') x c = occ S x c := by
  unfold occ
  by_cases hc : c = i
  · subst hc; rw [updS_at, hi]; simp only [he]
  · rw [updS_ne _ _ hc]
/-- One object turns, but for its entries, its links and its quota. -/
theorem Inv.turn (h : Inv rt S K) {i : Int} {o o' : Ob} (hi : S i = some o) (he : o'.ents = o.ents) (hl : o'.links = o.links) (hq : o'.quota = o.quota) (hok : Good1 S i o → Good1 S i o') : Inv rt (updS S i o') K := by
  have hqs : ∀ x, qS (updS S i o') x = qS S x := fun x => by
    unfold qS
    by_cases hx : x = i
    · subst hx; rw [updS_at, hi]; exact hq
    · rw [updS_ne _ _ hx]
  refine ⟨⟨h.bal.nd, fun k => ?_, fun x p hx => ?_, fun x hx => ?_⟩, fun k p hk => ?_, h.len, h.top.less (fun k t ht y hy => ?_)⟩
  · rw [h.bal.mem k]
    by_cases e : k = i
    · subst e; rw [updS_at, hi]; simp
    · rw [updS_ne _ _ e]
  · rw [show cnt (updS S i o') K x = cnt S K x from sum_congr (fun c _ => occ_upd hi he x c)]
    by_cases e : x = i
    · subst e; rw [updS_at] at hx; cases hx; rw [hl]; exact h.bal.lk x o hi
    · rw [updS_ne _ _ e] at hx; exact h.bal.lk x p hx
  · rw [show cnt (updS S i o') K x = cnt S K x from sum_congr (fun c _ => occ_upd hi he x c)]
    by_cases e : x = i
    · subst e; rw [updS_at] at hx; cases hx
    · rw [updS_ne _ _ e] at hx; exact h.bal.no x hx
  · have tr : ∀ {p : Ob}, Good1 S k p → Good1 (updS S i o') k p := fun g => ⟨g.id, g.ct, g.kd, g.q, g.nd, by rw [g.us]; exact isum_congr (fun x _ => (hqs x).symm), g.le, g.non, g.lk, g.l1, g.slf, g.cat⟩
    by_cases e : k = i
    · subst e; rw [updS_at] at hk; cases hk; exact tr (hok (h.ok k o hi))
    · rw [updS_ne _ _ e] at hk; exact tr (h.ok k p hk)
  · by_cases e : k = i
    · subst e; rw [updS_at] at ht; cases ht; exact ⟨o, hi, by rw [← he]; exact hy⟩
    · rw [updS_ne _ _ e] at ht; exact ⟨t, ht, hy⟩
/-- Whatever isn't the root is an entry. -/
theorem Inv.up (h : Inv rt S K) {x : Int} {p : Ob} (hx : S x = some p) (h1 : x ≠ rt) : ∃ k o, S k = some o ∧ x ∈ o.ents := by
  have hl := h.bal.lk x p hx
  have h2 := (h.ok x p hx).l1
  rw [if_neg h1] at hl
  simp only [List.count_nil] at hl
  have hc : 0 < cnt S K x := by omega
  have key : ∀ (L : List Int), 0 < (L.map (occ S x)).sum → ∃ c ∈ L, 0 < occ S x c := fun L => by
    induction L with
    | nil => intro h; simp at h
    | cons y L ih =>
      intro h
      rw [List.map_cons, List.sum_cons] at h
      by_cases e : 0 < occ S x y
      · exact ⟨y, by simp, e⟩
      · obtain ⟨c, hc, hp⟩ := ih (by omega)
        exact ⟨c, by simp [hc], hp⟩
  obtain ⟨c, _, hp⟩ := key K hc
  unfold occ at hp
  cases hS : S c with
  | none => rw [hS] at hp; simp at hp
  | some o => rw [hS] at hp; exact ⟨c, o, hS, List.count_pos_iff.1 hp⟩
/-- What holds the root and the entries of all that it holds, holds all. -/
theorem Inv.all (h : Inv rt S K) {R : List Int} (h1 : rt ∈ R) (hc : ∀ k ∈ R, ∀ o, S k = some o → ∀ x ∈ o.ents, x ∈ R) : ∀ x p, S x = some p → x ∈ R := by
  obtain ⟨rk, hr⟩ := h.top
  have key : ∀ (n : Nat) (x : Int) (p : Ob), rk x < n → S x = some p → x ∈ R := fun n => by
    induction n with
    | zero => intro x p h; omega
    | succ n ih =>
      intro x p hn hx
      by_cases e : x = rt
      · rw [e]; exact h1
      · obtain ⟨k, o, hk, hm⟩ := h.up hx e
        exact hc k (ih k o (by have := hr k o x hk hm; omega) hk) o hk x hm
  exact fun x p hx => key (rk x + 1) x p (by omega) hx
end
end Go.Proofs.Ytebcnlhgkpaghaa
