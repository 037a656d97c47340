/- What is so of a table behind every row of calls. -/
import Derived.Test.YtmgfakfiiaeofaaGreatHoAbs
/- What becomes of an object that several containers link to: the plain facts. -/
namespace Go.Proofs.YtmgfakfiiaeofaaGreat.Ho
open Go.RowKit Go.Sort
theorem updS_at (S : Abs) (i : Int) (o : Ob) : updS S i o i = some o := by unfold updS; rw [if_pos rfl]
theorem updS_ne (S : Abs) {i k : Int} (o : Ob) (h : k ≠ i) : updS S i o k = S k := by unfold updS; rw [if_neg h]
theorem delS_at (S : Abs) (i : Int) : delS S i i = none := by unfold delS; rw [if_pos rfl]
theorem delS_ne (S : Abs) {i k : Int} (h : k ≠ i) : delS S i k = S k := by unfold delS; rw [if_neg h]
structure Lk (S : Abs) (q : Int) (M : List Int) : Prop where
 root : ∃ o, S 1 = some o /\ o.kind = 1 /\ (∀ i ∈ M, i ∈ o.ents) /\ -5000 * (13 - (M.length : Int)) <= o.used /\ o.used <= 1000000
 box : ∀ i ∈ M, ∃ o, S i = some o /\ o.kind = 1 /\ o.ents = [600] /\ o.links = 1 /\ 1 <= o.quota /\ o.quota <= 5000 /\ o.used = q
 seg : M ≠ [] -> ∃ o, S 600 = some o /\ o.kind = 2 /\ o.quota = q /\ o.links = M.length /\ o.ents = [] /\ o.cats = []
 gone : M = [] -> S 600 = none
 nd : M.Nodup
 ids : ∀ i ∈ M, 10 <= i /\ i <= 500
 len : M.length <= 13
 good : GoodS S
theorem loos600 {S : Abs} {M : List Int} {p : Ob} (hS : S 600 = some p) (hl : p.links = M.length) (he : p.ents = []) (g : List Int) (n : Nat) :
 loosS (n + 1) S 600 g = if 1 < M.length then some (updS S 600 (decO p), g) else some (delS S 600, g ++ [600]) := by
 unfold loosS
 rw [hS]
 simp only
 rw [he]
 by_cases h : 1 < M.length
 · rw [if_pos h, if_pos (by omega)]
 · rw [if_neg h, if_neg (by omega)]; rfl
theorem GoodS.upd {S : Abs} (h : GoodS S) {i : Int} {o : Ob} (hi : i64 i) (h1 : ∀ x ∈ o.ents, i64 x) (h2 : o.ents.length < 1000000) (h3 : 1 <= o.links) (h4 : o.links < 1000000) : GoodS (updS S i o) := fun k t ht => by
 by_cases hk : k = i
 · subst hk; rw [updS_at] at ht; cases ht; exact ⟨hi, h1, h2, h3, h4⟩
 · rw [updS_ne _ _ hk] at ht; exact h k t ht
theorem GoodS.del {S : Abs} (h : GoodS S) (i : Int) : GoodS (delS S i) := fun k t ht => by
 by_cases hk : k = i
 · subst hk; rw [delS_at] at ht; cases ht
 · rw [delS_ne _ hk] at ht; exact h k t ht
theorem i600 : i64 600 := by unfold i64; omega
theorem Lk.less {S : Abs} {q : Int} {A B : List Int} {i : Int} {p : Ob} (hS : S 600 = some p) (hl : p.links = ((A ++ i :: B).length : Nat)) (he : p.ents = []) (hk : p.kind = 2) (hq : p.quota = q) (hc : p.cats = []) (hlen : (A ++ i :: B).length <= 13) (hnd : (A ++ i :: B).Nodup) (hids : ∀ k ∈ A ++ i :: B, 10 <= k /\ k <= 500) (hg : GoodS S)
 (root : ∃ o, S 1 = some o /\ o.kind = 1 /\ (∀ k ∈ A ++ B, k ∈ o.ents) /\ -5000 * (13 - ((A ++ B).length : Int)) <= o.used /\ o.used <= 1000000)
 (box : ∀ k ∈ A ++ B, ∃ o, S k = some o /\ o.kind = 1 /\ o.ents = [600] /\ o.links = 1 /\ 1 <= o.quota /\ o.quota <= 5000 /\ o.used = q) (g : List Int) (n : Nat) :
 ∃ S' g', loosS (n + 1) S 600 g = some (S', g') /\ Lk S' q (A ++ B) /\ g' = (if A ++ B = [] then g ++ [600] else g) := by
 have hL : (A ++ i :: B).length = (A ++ B).length + 1 := by simp; omega
 have hsub : ∀ k ∈ A ++ B, k ∈ A ++ i :: B := fun k hk => by
  rcases List.mem_append.1 hk with h | h
  · exact List.mem_append_left _ h
  · exact List.mem_append_right _ (List.mem_cons_of_mem _ h)
 have hnd2 : (A ++ B).Nodup := by
  have h := hnd
  rw [List.nodup_append] at h |-
  exact ⟨h.1, (List.nodup_cons.1 h.2.1).2, fun a ha b hb => h.2.2 a ha b (List.mem_cons_of_mem _ hb)⟩
 have hids2 : ∀ k ∈ A ++ B, 10 <= k /\ k <= 500 := fun k hk => hids k (hsub k hk)
 have hne : ∀ k ∈ A ++ B, k ≠ 600 := fun k hk => by have := hids2 k hk; omega
 have hlo := loos600 hS hl he g n
 by_cases h1 : A ++ B = []
 · rw [if_neg (by rw [hL, h1]; simp)] at hlo
   rw [if_pos h1]
   refine ⟨_, _, hlo, ?_, rfl⟩
   obtain ⟨o, ho, r1, r2, r3, r4⟩ := root
   refine ⟨⟨o, (delS_ne _ (by decide)).trans ho, r1, r2, r3, r4⟩, fun k hk => by rw [h1] at hk; simp at hk, fun h => absurd h1 h, fun _ => delS_at _ _, hnd2, hids2, by omega, hg.del _⟩
 · have h2 : 0 < (A ++ B).length := List.length_pos_iff.2 h1
   rw [if_pos (by omega)] at hlo
   rw [if_neg h1]
   refine ⟨_, _, hlo, ?_, rfl⟩
   obtain ⟨o, ho, r1, r2, r3, r4⟩ := root
   refine ⟨⟨o, (updS_ne _ _ (by decide)).trans ho, r1, r2, r3, r4⟩, fun k hk => ?_, fun _ => ⟨_, updS_at _ _ _, hk, hq, ?_, he, hc⟩, fun h => absurd h h1, hnd2, hids2, by omega, hg.upd i600 ?_ ?_ ?_ ?_⟩
   · obtain ⟨o, ho, rest⟩ := box k hk
     exact ⟨o, (updS_ne _ _ (hne k hk)).trans ho, rest⟩
   · show p.links - 1 = _
     rw [hl, hL]; omega
   · show ∀ x ∈ p.ents, _
     rw [he]; intro x hx; cases hx
   · show p.ents.length < _
     rw [he]; simp
   · show 1 <= p.links - 1
     rw [hl, hL]; omega
   · show p.links - 1 < 1000000
     rw [hl]; omega
def occ (S : Abs) (x c : Int) : Nat := match S c with
 | some o => o.ents.count x
 | none => 0
def cnt (S : Abs) (K : List Int) (x : Int) : Nat := (K.map (occ S x)).sum
theorem sum_erase {f : Int -> Nat} : ∀ {K : List Int} {i : Int}, i ∈ K -> (K.map f).sum = f i + ((K.erase i).map f).sum
 | [], i, h => by cases h
 | y :: K, i, h => by
  rw [List.erase_cons]
  by_cases e : (y == i) = true
  · rw [if_pos e]
    obtain rfl : y = i := by simpa using e
    rfl
  · rw [if_neg e]
    have hi : i ∈ K := by
     rcases List.mem_cons.1 h with h | h
     · subst h; simp at e
     · exact h
    have := sum_erase (f := f) hi
    simp only [List.map_cons, List.sum_cons]
    omega
theorem sum_congr {f g : Int -> Nat} : ∀ {K : List Int}, (∀ c ∈ K, f c = g c) -> (K.map f).sum = (K.map g).sum
 | [], _ => rfl
 | y :: K, h => by
  simp only [List.map_cons, List.sum_cons]
  rw [h y (by simp), sum_congr (fun c hc => h c (by simp [hc]))]
theorem sum_le {f : Int -> Nat} {K : List Int} {i : Int} (h : i ∈ K) : f i <= (K.map f).sum := by rw [sum_erase h]; omega
structure Bal (S : Abs) (K : List Int) (r : Int) (P : List Int) : Prop where
 nd : K.Nodup
 mem : ∀ k, k ∈ K ↔ (S k).isSome = true
 lk : ∀ x o, S x = some o -> o.links = ((cnt S K x + P.count x + (if x = r then 1 else 0) : Nat) : Int)
 no : ∀ x, S x = none -> cnt S K x + P.count x = 0 /\ x ≠ r
def Les (S S' : Abs) : Prop := ∀ k o', S' k = some o' -> ∃ o, S k = some o /\ o' = { o with links := o'.links } /\ o'.links <= o.links /\ (1 <= o.links -> 1 <= o'.links)
theorem Les.refl (S : Abs) : Les S S := fun _ o h => ⟨o, h, rfl, Int.le_refl _, id⟩
theorem Les.trans {A B C : Abs} (h : Les A B) (k : Les B C) : Les A C := fun x o hx => by
 obtain ⟨p, hp, e1, l1, m1⟩ := k x o hx
 obtain ⟨q, hq, e2, l2, m2⟩ := h x p hp
 refine ⟨q, hq, ?_, by omega, fun hh => m1 (m2 hh)⟩
 rw [e1, e2]
theorem occ_dec {S : Abs} {i : Int} {o : Ob} (h : S i = some o) (x c : Int) : occ (updS S i (decO o)) x c = occ S x c := by
 unfold occ
 by_cases hc : c = i
 · subst hc; rw [updS_at, h]; rfl
 · rw [updS_ne _ _ hc]
theorem occ_del {S : Abs} {i : Int} (x : Int) {c : Int} (hc : c ≠ i) : occ (delS S i) x c = occ S x c := by
 unfold occ; rw [delS_ne _ hc]
theorem Bal.has {S : Abs} {K P : List Int} {r i : Int} (h : Bal S K r (i :: P)) : ∃ o, S i = some o := by
 cases hS : S i with
 | some o => exact ⟨o, rfl⟩
 | none => have := (h.no i hS).1; simp at this
theorem Bal.dec {S : Abs} {K P : List Int} {r i : Int} {o : Ob} (h : Bal S K r (i :: P)) (hS : S i = some o) : Bal (updS S i (decO o)) K r P := by
 have hc : ∀ x, cnt (updS S i (decO o)) K x = cnt S K x := fun x => sum_congr (fun c _ => occ_dec hS x c)
 refine ⟨h.nd, fun k => ?_, fun x p hx => ?_, fun x hx => ?_⟩
 · rw [h.mem k]
   by_cases hk : k = i
   · subst hk; rw [updS_at, hS]
     simp
   · rw [updS_ne _ _ hk]
 · rw [hc]
   by_cases hk : x = i
   · subst hk
     rw [updS_at] at hx
     cases hx
     have := h.lk x o hS
     rw [List.count_cons_self] at this
     show o.links - 1 = _
     rw [this]; omega
   · rw [updS_ne _ _ hk] at hx
     have := h.lk x p hx
     rw [List.count_cons_of_ne (Ne.symm hk)] at this
     exact this
 · by_cases hk : x = i
   · subst hk; rw [updS_at] at hx; cases hx
   · rw [updS_ne _ _ hk] at hx
     have := h.no x hx
     rw [List.count_cons_of_ne (Ne.symm hk)] at this
     rw [hc]; exact this
theorem Bal.del {S : Abs} {K P : List Int} {r i : Int} {o : Ob} (h : Bal S K r (i :: P)) (hS : S i = some o) (hl : ¬ 1 < o.links) : Bal (delS S i) (K.erase i) r (o.ents ++ P) := by
 have hiK : i ∈ K := (h.mem i).2 (by rw [hS]; rfl)
 have hc : ∀ x, cnt S K x = o.ents.count x + cnt (delS S i) (K.erase i) x := fun x => by
  unfold cnt
  rw [sum_erase hiK]
  congr 1
  · unfold occ; rw [hS]
  · exact sum_congr (fun c hcK => (occ_del x (fun e => by subst e; exact (List.Nodup.not_mem_erase h.nd) hcK)).symm)
 have hL := h.lk i o hS
 rw [List.count_cons_self] at hL
 refine ⟨h.nd.erase i, fun k => ?_, fun x p hx => ?_, fun x hx => ?_⟩
 · by_cases hk : k = i
   · subst hk
     rw [delS_at]
     exact ⟨fun e => absurd e (List.Nodup.not_mem_erase h.nd), fun e => by cases e⟩
   · rw [delS_ne _ hk, List.mem_erase_of_ne hk]
     exact h.mem k
 · by_cases hk : x = i
   · subst hk; rw [delS_at] at hx; cases hx
   · rw [delS_ne _ hk] at hx
     have := h.lk x p hx
     rw [List.count_cons_of_ne (Ne.symm hk), hc] at this
     rw [this, List.count_append]
     congr 1
     omega
 · by_cases hk : x = i
   · subst hk
     rw [List.count_append]
     have := hc x
     refine ⟨by omega, fun e => ?_⟩
     rw [if_pos e] at hL
     omega
   · rw [delS_ne _ hk] at hx
     have := h.no x hx
     rw [List.count_cons_of_ne (Ne.symm hk), hc] at this
     rw [List.count_append]
     exact ⟨by omega, this.2⟩
theorem Les.dec {S : Abs} {i : Int} {o : Ob} (hS : S i = some o) (hl : 1 < o.links) : Les S (updS S i (decO o)) := fun k p hp => by
 by_cases hk : k = i
 · subst hk; rw [updS_at] at hp; cases hp
   exact ⟨o, hS, rfl, by show o.links - 1 <= o.links; omega, fun _ => by show 1 <= o.links - 1; omega⟩
 · rw [updS_ne _ _ hk] at hp; exact ⟨p, hp, rfl, Int.le_refl _, id⟩
theorem Les.del (S : Abs) (i : Int) : Les S (delS S i) := fun k p hp => by
 by_cases hk : k = i
 · subst hk; rw [delS_at] at hp; cases hp
 · rw [delS_ne _ hk] at hp; exact ⟨p, hp, rfl, Int.le_refl _, id⟩
structure Went (S : Abs) (K : List Int) (r : Int) (P g : List Int) (S' : Abs) (g2 : List Int) : Prop where
 ex : ∃ K' g', g2 = g ++ g' /\ Bal S' K' r P /\ K.Perm (K' ++ g')
 les : Les S S'
theorem fold_total {n : Nat} {r : Int} (IH : ∀ (S : Abs) (K : List Int) (i : Int) (g P : List Int), Bal S K r (i :: P) -> K.length <= n -> ∃ S' g2, loosS n S i g = some (S', g2) /\ Went S K r P g S' g2) :
 ∀ (l : List Int) (S : Abs) (K g P : List Int), Bal S K r (l ++ P) -> K.length <= n -> ∃ S' g2, foldS (loosS n) l S g = some (S', g2) /\ Went S K r P g S' g2
 | [], S, K, g, P, h, _ => ⟨S, g, rfl, ⟨K, [], by simp, h, by simp⟩, Les.refl S⟩
 | i :: l, S, K, g, P, h, hK => by
  obtain ⟨S1, g1, h1, ⟨K1, e1, hg1, hb1, hp1⟩, hl1⟩ := IH S K i g (l ++ P) h hK
  have hlen : K1.length <= n := by have := hp1.length_eq; rw [List.length_append] at this; omega
  obtain ⟨S2, g2, h2, ⟨K2, e2, hg2, hb2, hp2⟩, hl2⟩ := fold_total IH l S1 K1 g1 P hb1 hlen
  refine ⟨S2, g2, ?_, ⟨K2, e1 ++ e2, by rw [hg2, hg1, List.append_assoc], hb2, ?_⟩, hl1.trans hl2⟩
  · unfold foldS; rw [h1]; exact h2
  · refine hp1.trans ((hp2.append_right e1).trans ?_)
    rw [List.append_assoc]
    exact List.Perm.append_left _ List.perm_append_comm
theorem loos_total (r : Int) : ∀ (n : Nat) (S : Abs) (K : List Int) (i : Int) (g P : List Int), Bal S K r (i :: P) -> K.length <= n -> ∃ S' g2, loosS n S i g = some (S', g2) /\ Went S K r P g S' g2
 | 0, S, K, i, g, P, h, hK => by
  obtain ⟨o, ho⟩ := h.has
  have := (h.mem i).2 (by rw [ho]; rfl)
  have := List.length_pos_of_mem this
  omega
 | n + 1, S, K, i, g, P, h, hK => by
  obtain ⟨o, ho⟩ := h.has
  have hiK := (h.mem i).2 (by rw [ho]; rfl)
  unfold loosS
  rw [ho]
  simp only
  by_cases hl : 1 < o.links
  · rw [if_pos hl]
    exact ⟨_, _, rfl, ⟨K, [], by simp, h.dec ho, by simp⟩, Les.dec ho hl⟩
  · rw [if_neg hl]
    have hlen : (K.erase i).length <= n := by rw [List.length_erase_of_mem hiK]; omega
    obtain ⟨S2, g2, h2, ⟨K2, e2, hg2, hb2, hp2⟩, hl2⟩ := fold_total (loos_total r n) o.ents (delS S i) (K.erase i) (g ++ [i]) P (h.del ho hl) hlen
    refine ⟨S2, g2, h2, ⟨K2, i :: e2, by rw [hg2]; simp, hb2, ?_⟩, (Les.del S i).trans hl2⟩
    refine (List.perm_cons_erase hiK).trans ((hp2.cons i).trans ?_)
    exact List.perm_middle.symm
def qS (S : Abs) (x : Int) : Int := match S x with
 | some p => p.quota
 | none => 0
structure Good1 (S : Abs) (k : Int) (o : Ob) : Prop where
 id : o.id = k
 ct : isCt k = true
 kd : 1 <= o.kind /\ o.kind <= 6
 q : 1 <= o.quota /\ o.quota <= 1099511627776
 nd : o.ents.Nodup
 us : o.used = (o.ents.map (qS S)).sum
 le : o.used <= o.quota
 non : o.kind ≠ 1 -> o.ents = []
 lk : o.kind ≠ 2 -> o.kind ≠ 5 -> o.links = 1
 l1 : 1 <= o.links
 slf : k ∉ o.ents
 cat : o.cats.length < 1000000
def Ranked (S : Abs) : Prop := ∃ rk : Int -> Nat, ∀ k o x, S k = some o -> x ∈ o.ents -> rk k < rk x
theorem Ranked.less {S S' : Abs} (h : Ranked S) (hs : ∀ k o', S' k = some o' -> ∀ x ∈ o'.ents, ∃ o, S k = some o /\ x ∈ o.ents) : Ranked S' := by
 obtain ⟨rk, h⟩ := h
 refine ⟨rk, fun k o' x hk hx => ?_⟩
 obtain ⟨o, ho, hm⟩ := hs k o' hk x hx
 exact h k o x ho hm
theorem Ranked.raise {S S' : Abs} {K : List Int} (h : Ranked S) (y : Int) (hy : ∀ o, S' y = some o -> o.ents = []) (hK : ∀ k, k ≠ y -> (S' k).isSome = true -> k ∈ K) (hs : ∀ k o', S' k = some o' -> ∀ x ∈ o'.ents, x = y ∨ ∃ o, S k = some o /\ x ∈ o.ents) : Ranked S' := by
 obtain ⟨rk, h⟩ := h
 refine ⟨fun k => if k = y then (K.map rk).sum + 1 else rk k, fun k o' x hk hx => ?_⟩
 have hky : k ≠ y := fun e => by subst e; rw [hy o' hk] at hx; cases hx
 have hkK := hK k hky (by rw [hk]; rfl)
 show (if k = y then _ else rk k) < (if x = y then _ else rk x)
 rw [if_neg hky]
 by_cases e : x = y
 · rw [if_pos e]
   have : rk k <= (K.map rk).sum := sum_le hkK
   omega
 · rw [if_neg e]
   rcases hs k o' hk x hx with e2 | ⟨o, ho, hm⟩
   · exact absurd e2 e
   · exact h k o x ho hm
structure Inv (rt : Int) (S : Abs) (K : List Int) : Prop where
 bal : Bal S K rt []
 ok : ∀ k o, S k = some o -> Good1 S k o
 len : K.length <= 4096
 top : Ranked S
theorem isum_nonneg {f : Int -> Int} : ∀ (l : List Int), (∀ x ∈ l, 0 <= f x) -> 0 <= (l.map f).sum
 | [], _ => by simp
 | y :: l, h => by
  rw [List.map_cons, List.sum_cons]
  have h1 := h y (by simp)
  have h2 := isum_nonneg l (fun x hx => h x (by simp [hx]))
  omega
theorem isum_congr {f g : Int -> Int} : ∀ {l : List Int}, (∀ x ∈ l, f x = g x) -> (l.map f).sum = (l.map g).sum
 | [], _ => rfl
 | y :: l, h => by rw [List.map_cons, List.sum_cons, List.map_cons, List.sum_cons, h y (by simp), isum_congr (fun x hx => h x (by simp [hx]))]
theorem isum_app (f : Int -> Int) (l : List Int) (x : Int) : ((l ++ [x]).map f).sum = (l.map f).sum + f x := by
 induction l with
 | nil => simp
 | cons y l ih => rw [List.cons_append, List.map_cons, List.sum_cons, ih, List.map_cons, List.sum_cons]; omega
theorem isum_without {f : Int -> Int} : ∀ {l : List Int} {x : Int}, l.Nodup -> x ∈ l -> ((without x l).map f).sum = (l.map f).sum - f x
 | [], _, _, h => by cases h
 | y :: l, x, hn, h => by
  obtain ⟨hy, hn'⟩ := List.nodup_cons.1 hn
  by_cases e : y = x
  · subst e
    have hw : without y (y :: l) = l := by
     unfold without
     rw [List.filter_cons, if_neg (by simp)]
     rw [List.filter_eq_self]
     intro a ha
     have : a ≠ y := fun e => hy (e ▸ ha)
     simpa using this
    rw [hw, List.map_cons, List.sum_cons]; omega
  · have hx : x ∈ l := by
     rcases List.mem_cons.1 h with h | h
     · exact absurd h.symm e
     · exact h
    have hw : without x (y :: l) = y :: without x l := by
     unfold without
     rw [List.filter_cons, if_pos (by simpa using e)]
    rw [hw, List.map_cons, List.sum_cons, isum_without hn' hx, List.map_cons, List.sum_cons]; omega
theorem len_sub : ∀ (l l' : List Int), l.Nodup -> (∀ x ∈ l, x ∈ l') -> l.length <= l'.length
 | [], _, _, _ => Nat.zero_le _
 | x :: l, l', hn, hs => by
  have hx := hs x (by simp)
  obtain ⟨h1, h2⟩ := List.nodup_cons.1 hn
  have := len_sub l (l'.erase x) h2 (fun y hy => (List.mem_erase_of_ne (fun e : y = x => h1 (e ▸ hy))).2 (hs y (by simp [hy])))
  rw [List.length_erase_of_mem hx] at this
  have : 0 < l'.length := List.length_pos_of_mem hx
  simp; omega
theorem nodup_len {l K : List Int} (hn : l.Nodup) (hs : ∀ x ∈ l, x ∈ K) : l.length <= K.length := len_sub l K hn hs
theorem ct_i64 {k : Int} (h : isCt k = true) : i64 k := by unfold isCt at h; simp at h; unfold i64; omega
section
variable {rt : Int} {S : Abs} {K : List Int}
theorem Inv.ent (h : Inv rt S K) {k x : Int} {o : Ob} (hk : S k = some o) (hx : x ∈ o.ents) : ∃ p, S x = some p := by
 cases hS : S x with
 | some p => exact ⟨p, rfl⟩
 | none =>
  have h0 := (h.bal.no x hS).1
  have hkK := (h.bal.mem k).2 (by rw [hk]; rfl)
  have h1 : occ S x k <= cnt S K x := sum_le hkK
  have h2 : 0 < occ S x k := by unfold occ; rw [hk]; exact List.count_pos_iff.2 hx
  omega
theorem Inv.qpos (h : Inv rt S K) (x : Int) : 0 <= qS S x := by
 unfold qS
 cases hS : S x with
 | none => simp
 | some p => have := (h.ok x p hS).q; simp only; omega
theorem Inv.upos (h : Inv rt S K) {k : Int} {o : Ob} (hk : S k = some o) : 0 <= o.used := by
 rw [(h.ok k o hk).us]; exact isum_nonneg _ (fun x _ => h.qpos x)
theorem Inv.elen (h : Inv rt S K) {k : Int} {o : Ob} (hk : S k = some o) : o.ents.length <= K.length :=
 nodup_len (h.ok k o hk).nd (fun x hx => by obtain ⟨p, hp⟩ := h.ent hk hx; exact (h.bal.mem x).2 (by rw [hp]; rfl))
theorem Inv.cntle (h : Inv rt S K) (x : Int) : cnt S K x <= K.length := by
 have key : ∀ (L : List Int), (∀ c ∈ L, occ S x c <= 1) -> (L.map (occ S x)).sum <= L.length := fun L => by
  induction L with
  | nil => intro _; simp
  | cons y L ih =>
   intro hL
   rw [List.map_cons, List.sum_cons, List.length_cons]
   have h1 := hL y (by simp)
   have h2 := ih (fun c hc => hL c (by simp [hc]))
   omega
 refine key K (fun c _ => ?_)
 unfold occ
 cases hS : S c with
 | none => simp
 | some o => exact List.nodup_iff_count.1 (h.ok c o hS).nd x
theorem Inv.good (h : Inv rt S K) : GoodS S := fun k o hk => by
 have hl := h.bal.lk k o hk
 have hc := h.cntle k
 have hlen := h.len
 have hel := h.elen hk
 refine ⟨ct_i64 (h.ok k o hk).ct, fun x hx => ?_, by omega, (h.ok k o hk).l1, ?_⟩
 · obtain ⟨p, hp⟩ := h.ent hk hx; exact ct_i64 (h.ok x p hp).ct
 · rw [hl]; simp only [List.count_nil]; split <;> omega
theorem Inv.up (h : Inv rt S K) {x : Int} {p : Ob} (hx : S x = some p) (h1 : x ≠ rt) : ∃ k o, S k = some o /\ x ∈ o.ents := by
 have hl := h.bal.lk x p hx
 have h2 := (h.ok x p hx).l1
 rw [if_neg h1] at hl
 simp only [List.count_nil] at hl
 have hc : 0 < cnt S K x := by omega
 have key : ∀ (L : List Int), 0 < (L.map (occ S x)).sum -> ∃ c ∈ L, 0 < occ S x c := fun L => by
  induction L with
  | nil => intro h; simp at h
  | cons y L ih =>
   intro h
   rw [List.map_cons, List.sum_cons] at h
   by_cases e : 0 < occ S x y
   · exact ⟨y, by simp, e⟩
   · obtain ⟨c, hc, hp⟩ := ih (by omega)
     exact ⟨c, by simp [hc], hp⟩
 obtain ⟨c, _, hp⟩ := key K hc
 unfold occ at hp
 cases hS : S c with
 | none => rw [hS] at hp; simp at hp
 | some o => rw [hS] at hp; exact ⟨c, o, hS, List.count_pos_iff.1 hp⟩
theorem Inv.all (h : Inv rt S K) {R : List Int} (h1 : rt ∈ R) (hc : ∀ k ∈ R, ∀ o, S k = some o -> ∀ x ∈ o.ents, x ∈ R) : ∀ x p, S x = some p -> x ∈ R := by
 obtain ⟨rk, hr⟩ := h.top
 have key : ∀ (n : Nat) (x : Int) (p : Ob), rk x < n -> S x = some p -> x ∈ R := fun n => by
  induction n with
  | zero => intro x p h; omega
  | succ n ih =>
   intro x p hn hx
   by_cases e : x = rt
   · rw [e]; exact h1
   · obtain ⟨k, o, hk, hm⟩ := h.up hx e
     exact hc k (ih k o (by have := hr k o x hk hm; omega) hk) o hk x hm
 exact fun x p hx => key (rk x + 1) x p (by omega) hx
end
end Go.Proofs.YtmgfakfiiaeofaaGreat.Ho
