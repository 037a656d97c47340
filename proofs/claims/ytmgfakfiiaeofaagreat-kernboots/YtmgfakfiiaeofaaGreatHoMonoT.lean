/- Regions whose order is drawn and whose operations keep all that is older: each operation by what its value is like, whichever others are done. -/
import Derived.Test.YtmgfakfiiaeofaaGreatHoInv
import Derived.Test.YtmgfakfiiaeofaaGreatHoAbs
import Derived.Orders
import Derived.StillTail
/- What is so of a table stays so. -/
namespace Go.Proofs.YtmgfakfiiaeofaaGreat.Ho
open Go.RowKit Go.Sort
section
variable {rt : Int} {S : Abs} {K : List Int}
theorem cnt_add {S' : Abs} {i x : Int} {o o1 : Ob} (hK : i ∈ K) (hnd : K.Nodup) (hi : S i = some o) (h1 : S' i = some o1) (he : o1.ents = o.ents ++ [x]) (hoth : ∀ c ∈ K, c ≠ i -> ∀ y, occ S' y c = occ S y c) (y : Int) : cnt S' K y = cnt S K y + (if y = x then 1 else 0) := by
 unfold cnt
 rw [sum_erase hK, sum_erase hK]
 have e1 : occ S' y i = occ S y i + (if y = x then 1 else 0) := by
  unfold occ
  rw [h1, hi]
  simp only
  rw [he, List.count_append]
  congr 1
  by_cases e : y = x
  · subst e; simp
  · rw [if_neg e]; exact List.count_eq_zero.2 (by simpa using e)
 have e2 : ((K.erase i).map (occ S' y)).sum = ((K.erase i).map (occ S y)).sum := sum_congr (fun c hc => by
  have hci : c ≠ i := fun e => by subst e; exact (List.Nodup.not_mem_erase hnd) hc
  exact hoth c (List.mem_of_mem_erase hc) hci y)
 omega
theorem Inv.make (h : Inv rt S K) {i id kind quota d : Int} {xs : List (Int × Int)} {o : Ob} (hi : S i = some o) (hno : S id = none) (hk : o.kind = 1) (hkd : 1 <= kind /\ kind <= 6) (hq : 1 <= quota /\ quota <= 1099511627776) (hid : isCt id = true) (hqr : quota <= o.quota - o.used) (hlen : K.length < 4096) (hxs : xs.length < 1000000) :
 Inv rt (updS (updS S i { o with used := o.used + quota, ents := o.ents ++ [id] }) id (newOb id kind quota d xs)) (id :: K) := by
 have hix : i ≠ id := fun e => by subst e; rw [hi] at hno; cases hno
 obtain ⟨S', hS'⟩ : ∃ S', updS (updS S i { o with used := o.used + quota, ents := o.ents ++ [id] }) id (newOb id kind quota d xs) = S' := ⟨_, rfl⟩
 rw [hS']
 have hiK := (h.bal.mem i).2 (by rw [hi]; rfl)
 have hidK : id ∉ K := fun hm => by have := (h.bal.mem id).1 hm; rw [hno] at this; cases this
 have hne : ∀ c ∈ K, c ≠ id := fun c hc e => hidK (e ▸ hc)
 have s1 : S' i = some { o with used := o.used + quota, ents := o.ents ++ [id] } := by rw [<- hS', updS_ne _ _ hix, updS_at]
 have s2 : S' id = some (newOb id kind quota d xs) := by rw [<- hS', updS_at]
 have s3 : ∀ k, k ≠ i -> k ≠ id -> S' k = S k := fun k h1 h2 => by rw [<- hS', updS_ne _ _ h2, updS_ne _ _ h1]
 have hoth : ∀ c ∈ K, c ≠ i -> ∀ y, occ S' y c = occ S y c := fun c hcK hc y => by
  unfold occ; rw [s3 c hc (hne c hcK)]
 have hcnt0 := cnt_add hiK h.bal.nd hi s1 rfl hoth
 have hcnt : ∀ y, cnt S' (id :: K) y = cnt S K y + (if y = id then 1 else 0) := fun y => by
  rw [<- hcnt0 y]
  unfold cnt
  rw [List.map_cons, List.sum_cons]
  have : occ S' y id = 0 := by unfold occ; rw [s2]; rfl
  omega
 obtain ⟨hc0, hr1⟩ := h.bal.no id hno
 have hnoent : ∀ k t, S k = some t -> id ∉ t.ents := fun k t ht hm => by
  obtain ⟨p, hp⟩ := h.ent ht hm
  rw [hno] at hp; cases hp
 have hqs : ∀ y, y ≠ id -> qS S' y = qS S y := fun y e2 => by
  unfold qS
  by_cases e1 : y = i
  · subst e1; rw [s1, hi]
  · rw [s3 y e1 e2]
 have tr : ∀ {k : Int} {t : Ob}, S k = some t -> Good1 S k t -> Good1 S' k t := fun {k t} ht g => ⟨g.id, g.ct, g.kd, g.q, g.nd, by rw [g.us]; exact isum_congr (fun x hx => (hqs x (fun e => hnoent k t ht (e ▸ hx))).symm), g.le, g.non, g.lk, g.l1, g.slf, g.cat⟩
 have htop : Ranked S' := h.top.raise (K := K) id (fun t ht => by rw [s2] at ht; cases ht; rfl) (fun k hk hs => by
  by_cases e1 : k = i
  · rw [e1]; exact hiK
  · rw [s3 k e1 hk] at hs; exact (h.bal.mem k).2 hs) (fun k t ht y hy => by
  by_cases e1 : k = i
  · subst e1; rw [s1] at ht; cases ht
    rcases List.mem_append.1 hy with hm | hm
    · exact .inr ⟨o, hi, hm⟩
    · exact .inl (by simpa using hm)
  · by_cases e2 : k = id
    · subst e2; rw [s2] at ht; cases ht; cases hy
    · rw [s3 k e1 e2] at ht; exact .inr ⟨t, ht, hy⟩)
 refine ⟨⟨List.nodup_cons.2 ⟨hidK, h.bal.nd⟩, fun k => ?_, fun y t ht => ?_, fun y hy => ?_⟩, fun k t ht => ?_, by simp; omega, htop⟩
 · by_cases e2 : k = id
   · subst e2; rw [s2]; simp
   · rw [List.mem_cons]
     by_cases e1 : k = i
     · subst e1; rw [s1]; simp [hiK]
     · rw [s3 k e1 e2, <- h.bal.mem k]; simp [e2]
 · rw [hcnt]
   by_cases e2 : y = id
   · subst e2
     rw [s2] at ht; cases ht
     rw [if_pos rfl, if_neg hr1]
     show (1 : Int) = _
     simp only [List.count_nil] at hc0 |-
     omega
   · rw [if_neg e2]
     by_cases e1 : y = i
     · subst e1; rw [s1] at ht; cases ht; exact h.bal.lk y o hi
     · rw [s3 y e1 e2] at ht; exact h.bal.lk y t ht
 · have e1 : y ≠ i := fun e => by subst e; rw [s1] at hy; cases hy
   have e2 : y ≠ id := fun e => by subst e; rw [s2] at hy; cases hy
   rw [s3 y e1 e2] at hy
   rw [hcnt, if_neg e2]
   exact h.bal.no y hy
 · by_cases e1 : k = i
   · subst e1
     rw [s1] at ht; cases ht
     have g := h.ok k o hi
     refine ⟨g.id, g.ct, g.kd, g.q, ?_, ?_, ?_, fun hh => absurd hk hh, g.lk, g.l1, ?_, g.cat⟩
     · show (o.ents ++ [id]).Nodup
       rw [List.nodup_append]
       exact ⟨g.nd, by simp, fun a ha b hb e => by simp at hb; subst hb; subst e; exact hnoent k o hi ha⟩
     · show o.used + quota = ((o.ents ++ [id]).map (qS S')).sum
       rw [isum_app, isum_congr (fun y hy => hqs y (fun e => hnoent k o hi (e ▸ hy))), <- g.us]
       unfold qS; rw [s2]; rfl
     · show o.used + quota <= o.quota; omega
     · show k ∉ o.ents ++ [id]
       intro hm
       rcases List.mem_append.1 hm with hm | hm
       · exact g.slf hm
       · simp at hm; exact hix hm
   · by_cases e2 : k = id
     · subst e2
       rw [s2] at ht; cases ht
       exact ⟨rfl, hid, hkd, hq, List.nodup_nil, rfl, by show (0 : Int) <= quota; omega, fun _ => rfl, fun _ _ => rfl, by show (1 : Int) <= 1; omega, (fun hm => by cases hm), hxs⟩
     · rw [s3 k e1 e2] at ht; exact tr ht (h.ok k t ht)
theorem count_without {x y : Int} {l : List Int} (hn : l.Nodup) (hx : x ∈ l) : (without x l).count y + (if y = x then 1 else 0) = l.count y := by
 by_cases e : y = x
 · subst e
   rw [if_pos rfl]
   have h1 : (without y l).count y = 0 := List.count_eq_zero.2 (fun hm => by unfold without at hm; simpa using (List.mem_filter.1 hm).2)
   have h2 : l.count y <= 1 := List.nodup_iff_count.1 hn y
   have h3 : 0 < l.count y := List.count_pos_iff.2 hx
   omega
 · rw [if_neg e, Nat.add_zero]
   unfold without
   exact List.count_filter (by simpa using e)
theorem Inv.cutBal (h : Inv rt S K) {i x q : Int} {o : Ob} (hi : S i = some o) (hx : x ∈ o.ents) : Bal (updS S i (dropO o q x)) K rt [x] := by
 have hiK := (h.bal.mem i).2 (by rw [hi]; rfl)
 have hcnt : ∀ y, cnt (updS S i (dropO o q x)) K y + (if y = x then 1 else 0) = cnt S K y := fun y => by
  unfold cnt
  rw [sum_erase hiK, sum_erase hiK]
  have e1 : occ (updS S i (dropO o q x)) y i + (if y = x then 1 else 0) = occ S y i := by
   unfold occ
   rw [updS_at, hi]
   exact count_without (h.ok i o hi).nd hx
  have e2 : ((K.erase i).map (occ (updS S i (dropO o q x)) y)).sum = ((K.erase i).map (occ S y)).sum := sum_congr (fun c hc => by
   have hci : c ≠ i := fun e => by subst e; exact (List.Nodup.not_mem_erase h.bal.nd) hc
   unfold occ; rw [updS_ne _ _ hci])
  omega
 refine ⟨h.bal.nd, fun k => ?_, fun y t ht => ?_, fun y hy => ?_⟩
 · rw [h.bal.mem k]
   by_cases e : k = i
   · subst e; rw [updS_at, hi]; simp
   · rw [updS_ne _ _ e]
 · have hL : t.links = ((cnt S K y + ([] : List Int).count y + (if y = rt then 1 else 0) : Nat) : Int) := by
    by_cases e : y = i
    · subst e; rw [updS_at] at ht; cases ht; exact h.bal.lk y o hi
    · rw [updS_ne _ _ e] at ht; exact h.bal.lk y t ht
   rw [hL, <- hcnt y]
   congr 1
   by_cases e : y = x
   · subst e; simp
   · rw [if_neg e, List.count_cons_of_ne (Ne.symm e)]
     simp
 · have e : y ≠ i := fun e => by subst e; rw [updS_at] at hy; cases hy
   rw [updS_ne _ _ e] at hy
   have h0 := h.bal.no y hy
   have h1 := hcnt y
   refine ⟨?_, h0.2⟩
   by_cases e2 : y = x
   · subst e2
     obtain ⟨p, hp⟩ := h.ent hi hx
     rw [hy] at hp; cases hp
   · rw [if_neg e2] at h1
     rw [List.count_cons_of_ne (Ne.symm e2)]
     have := h0.1
     simp only [List.count_nil] at this |-
     omega
theorem Inv.drop (h : Inv rt S K) {i x : Int} {o p : Ob} (hi : S i = some o) (hx : x ∈ o.ents) (hp : S x = some p) :
 ∃ S' g K', loosS K.length (updS S i (dropO o p.quota x)) x [] = some (S', g) /\ Inv rt S' K' /\ K.Perm (K' ++ g) /\ Les (updS S i (dropO o p.quota x)) S' := by
 obtain ⟨S', g2, h1, ⟨K', g', hg, hb, hpm⟩, hles⟩ := loos_total rt K.length (updS S i (dropO o p.quota x)) K x [] [] (h.cutBal hi hx) (Nat.le_refl _)
 rw [List.nil_append] at hg
 subst hg
 have htop : Ranked S' := h.top.less (fun k t ht y hy => by
  obtain ⟨t1, ht1, e1, _, _⟩ := hles k t ht
  have hy1 : y ∈ t1.ents := by rw [e1] at hy; exact hy
  by_cases e : k = i
  · subst e
    rw [updS_at] at ht1
    have e2 : dropO o p.quota x = t1 := by simpa using ht1
    rw [<- e2] at hy1
    exact ⟨o, hi, (List.mem_filter.1 hy1).1⟩
  · rw [updS_ne _ _ e] at ht1
    exact ⟨t1, ht1, hy1⟩)
 refine ⟨S', g2, K', h1, ⟨hb, fun k t ht => ?_, ?_, htop⟩, hpm, hles⟩
 · have hent : ∀ y ∈ t.ents, ∃ u, S' y = some u := fun y hy => by
    cases hS : S' y with
    | some u => exact ⟨u, rfl⟩
    | none =>
     have h0 := (hb.no y hS).1
     have hkK := (hb.mem k).2 (by rw [ht]; rfl)
     have h1 : occ S' y k <= cnt S' K' y := sum_le hkK
     have h2 : 0 < occ S' y k := by unfold occ; rw [ht]; exact List.count_pos_iff.2 hy
     omega
   have hq1 : ∀ y, qS (updS S i (dropO o p.quota x)) y = qS S y := fun y => by
    unfold qS
    by_cases e : y = i
    · subst e; rw [updS_at, hi]; rfl
    · rw [updS_ne _ _ e]
   have hqs : ∀ y ∈ t.ents, qS S' y = qS S y := fun y hy => by
    obtain ⟨u, hu⟩ := hent y hy
    obtain ⟨v, hv, e1, _⟩ := hles y u hu
    rw [<- hq1 y]
    unfold qS
    rw [hu, hv]
    rw [e1]
   obtain ⟨t1, ht1, e1, l1, m1⟩ := hles k t ht
   have hcore : ∀ {v : Ob}, Good1 S k v -> t1.id = v.id -> t1.kind = v.kind -> t1.quota = v.quota -> t1.links = v.links -> t1.cats = v.cats -> t1.ents.Nodup -> (∀ y ∈ t1.ents, y ∈ v.ents) -> t1.used = (t1.ents.map (qS S)).sum -> t1.used <= t1.quota -> Good1 S' k t := fun {v} g a1 a2 a3 a4 a5 a6 a7 a8 a9 => by
    have te : t.ents = t1.ents := by rw [e1]
    have tk : t.kind = v.kind := by rw [e1]; exact a2
    have tl := g.l1
    refine ⟨by rw [e1]; exact a1.trans g.id, g.ct, by rw [tk]; exact g.kd, by rw [e1]; show 1 <= t1.quota /\ t1.quota <= _; rw [a3]; exact g.q, by rw [te]; exact a6, ?_, by rw [e1]; exact a9, fun hh => ?_, fun h2 h5 => ?_, ?_, ?_, by rw [e1]; show t1.cats.length < _; rw [a5]; exact g.cat⟩
    · rw [isum_congr hqs, te, <- a8, e1]
    · rw [te]
      have := g.non (by rw [<- tk]; exact hh)
      exact List.eq_nil_iff_forall_not_mem.2 (fun y hy => by have := a7 y hy; rw [g.non (by rw [<- tk]; exact hh)] at this; cases this)
    · have h3 := g.lk (by rw [<- tk]; exact h2) (by rw [<- tk]; exact h5)
      have h4 := m1 (by omega)
      omega
    · exact m1 (by omega)
    · rw [te]; exact fun hm => g.slf (a7 k hm)
   by_cases e : k = i
   · subst e
     rw [updS_at] at ht1
     have e2 : dropO o p.quota x = t1 := by simpa using ht1
     have g := h.ok k o hi
     rw [<- e2] at hcore
     refine hcore g rfl rfl rfl rfl rfl (g.nd.filter _) (fun y hy => (List.mem_filter.1 hy).1) ?_ ?_
     · show o.used - p.quota = ((without x o.ents).map (qS S)).sum
       rw [isum_without g.nd hx, <- g.us]
       unfold qS; rw [hp]
     · show o.used - p.quota <= o.quota
       have := g.le
       have := (h.ok x p hp).q
       omega
   · rw [updS_ne _ _ e] at ht1
     have g := h.ok k t1 ht1
     exact hcore g rfl rfl rfl rfl rfl g.nd (fun y hy => hy) g.us g.le
 · have := hpm.length_eq
   rw [List.length_append] at this
   have := h.len
   omega
end
def Mt (o : Ob) (t : Th) : Prop := o.kind = t.kind /\ o.quota = t.quota /\ o.df = t.df /\ o.cats = t.cats /\ o.ents = t.ents
structure RelD (S : Abs) (L : List Th) (D : List Int) : Prop where
 yes : ∀ t ∈ L, t.id ∉ D -> ∃ o, S t.id = some o /\ Mt o t
 dead : ∀ t ∈ L, t.id ∈ D -> S t.id = none /\ (t.ents ≠ [] -> t.kind = 1)
 back : ∀ k o, S k = some o -> ∃ t ∈ L, t.id = k
def pend (L : List Th) (D : List Int) : List Int := (L.filter fun t => D.contains t.id).flatMap (·.ents)
theorem lkC_sum {x : Int} : ∀ {L : List Th}, (∀ t ∈ L, t.ents.Nodup) -> lkC L x = (L.map fun t => t.ents.count x).sum
 | [], _ => rfl
 | t :: L, h => by
  have ih := lkC_sum (x := x) (L := L) (fun t ht => h t (by simp [ht]))
  unfold lkC at ih |-
  rw [List.filter_cons, List.map_cons, List.sum_cons, <- ih]
  have hn := h t (by simp)
  by_cases hx : inB t.ents x = true
  · have h1 := List.nodup_iff_count.1 hn x
    have h2 := List.count_pos_iff.2 (inB_iff.1 hx)
    rw [if_pos hx, List.length_cons]; omega
  · rw [if_neg hx, List.count_eq_zero.2 (fun hm => hx (inB_iff.2 hm))]; omega
theorem sum_split (f : Th -> Nat) (p : Th -> Bool) : ∀ L : List Th, (L.map f).sum = ((L.filter p).map f).sum + ((L.filter fun t => !p t).map f).sum
 | [] => rfl
 | t :: L => by
  have ih := sum_split f p L
  simp only [List.map_cons, List.sum_cons, List.filter_cons]
  cases p t <;> simp <;> omega
theorem pend_count (L : List Th) (D : List Int) (x : Int) : (pend L D).count x = ((L.filter fun t => D.contains t.id).map fun t => t.ents.count x).sum := by
 unfold pend
 rw [List.count_flatMap]
 rfl
theorem cnt_of {S : Abs} {L : List Th} {D K : List Int} {r : Int} {P : List Int} (h : RelD S L D) (hnd : (L.map (·.id)).Nodup) (hb : Bal S K r P) (x : Int) : cnt S K x = ((L.filter fun t => !D.contains t.id).map fun t => t.ents.count x).sum := by
 have hp : K.Perm ((L.filter fun t => !D.contains t.id).map (·.id)) := by
  refine (List.perm_ext_iff_of_nodup hb.nd (hnd.sublist (List.Sublist.map _ List.filter_sublist))).2 (fun k => ?_)
  rw [hb.mem k]
  constructor
  · intro hk
    obtain ⟨o, ho⟩ := Option.isSome_iff_exists.1 hk
    obtain ⟨t, ht, rfl⟩ := h.back k o ho
    refine List.mem_map.2 ⟨t, List.mem_filter.2 ⟨ht, ?_⟩, rfl⟩
    by_cases hD : t.id ∈ D
    · rw [(h.dead t ht hD).1] at ho; cases ho
    · simpa using hD
  · intro hk
    obtain ⟨t, ht, rfl⟩ := List.mem_map.1 hk
    obtain ⟨h1, h2⟩ := List.mem_filter.1 ht
    obtain ⟨o, ho, _⟩ := h.yes t h1 (by simpa using h2)
    rw [ho]; rfl
 unfold cnt
 rw [(hp.map (occ S x)).sum_nat, List.map_map]
 congr 1
 refine List.map_congr_left (fun t ht => ?_)
 obtain ⟨h1, h2⟩ := List.mem_filter.1 ht
 obtain ⟨o, ho, hm⟩ := h.yes t h1 (by simpa using h2)
 show occ S x t.id = _
 unfold occ
 rw [ho]
 show o.ents.count x = _
 rw [hm.2.2.2.2]
theorem lk_all {S : Abs} {L : List Th} {D K : List Int} {r : Int} {P : List Int} (h : RelD S L D) (hnd : (L.map (·.id)).Nodup) (hne : ∀ t ∈ L, t.ents.Nodup) (hb : Bal S K r P) (x : Int) : lkC L x = cnt S K x + (pend L D).count x := by
 rw [lkC_sum hne, sum_split _ (fun t => D.contains t.id), cnt_of h hnd hb, pend_count, Nat.add_comm]
theorem lk_top {S : Abs} {L : List Th} {K : List Int} {r x : Int} {o : Ob} (h : RelD S L []) (hnd : (L.map (·.id)).Nodup) (hne : ∀ t ∈ L, t.ents.Nodup) (hb : Bal S K r []) (hx : S x = some o) : o.links = lkL r L x := by
 have hp : (pend L []).count x = 0 := by rw [pend_count, List.filter_eq_nil_iff.2 (by simp)]; rfl
 rw [hb.lk x o hx, lkL, lk_all h hnd hne hb, hp]
 by_cases e : x = r <;> simp [e] <;> omega
theorem atL_no : ∀ {L : List Th} {id : Int} (n : Nat), (∀ t ∈ L, t.id ≠ id) -> atL L id n = -1
 | [], _, _, _ => rfl
 | t :: L, id, n, h => by rw [atL, if_neg (h t (by simp))]; exact atL_no (n + 1) (fun u hu => h u (by simp [hu]))
theorem atL_yes : ∀ {L : List Th} {id : Int} (n : Nat) {k : Nat} (hk : k < L.length), (L.map (·.id)).Nodup -> L[k].id = id -> atL L id n = ((n + k : Nat) : Int)
 | [], _, _, _, hk, _, _ => by cases hk
 | t :: L, id, n, 0, _, _, he => by rw [atL, if_pos (by simpa using he)]; rfl
 | t :: L, id, n, k + 1, hk, hnd, he => by
  rw [List.map_cons, List.nodup_cons] at hnd
  have hk' : k < L.length := by simpa using hk
  have he' : L[k].id = id := by simpa using he
  have hne : t.id ≠ id := fun e => hnd.1 (List.mem_map.2 ⟨L[k], List.getElem_mem _, by rw [he', e]⟩)
  rw [atL, if_neg hne, atL_yes (n + 1) (by simpa using hk) hnd.2 he']
  congr 1; omega
theorem RelD.pos {S : Abs} {L : List Th} {D : List Int} (h : RelD S L D) {k : Int} {o : Ob} (ho : S k = some o) : ∃ i, ∃ hi : i < L.length, L[i].id = k /\ Mt o L[i] := by
 obtain ⟨t, ht, he⟩ := h.back k o ho
 obtain ⟨i, hi, rfl⟩ := List.getElem_of_mem ht
 refine ⟨i, hi, he, ?_⟩
 by_cases hD : L[i].id ∈ D
 · rw [he] at hD
   have := (h.dead _ ht (by rw [he]; exact hD)).1
   rw [he, ho] at this; cases this
 · obtain ⟨o', ho', hm⟩ := h.yes _ ht hD
   rw [he, ho] at ho'; cases ho'; exact hm
theorem RelD.nopos {S : Abs} {L : List Th} (h : RelD S L []) {k : Int} (ho : S k = none) : ∀ t ∈ L, t.id ≠ k := fun t ht e => by
 obtain ⟨o, h1, _⟩ := h.yes t ht (by simp)
 rw [e, ho] at h1; cases h1
theorem ids_set {L : List Th} {i : Nat} {t : Th} (hi : i < L.length) (he : t.id = L[i].id) : (L.set i t).map (·.id) = L.map (·.id) := by
 rw [List.map_set, he]
 apply List.ext_getElem (by simp)
 intro j h1 h2
 simp only [List.getElem_set, List.getElem_map]
 split
 · rename_i e; subst e; rfl
 · rfl
theorem mem_set' {L : List Th} {i : Nat} {t u : Th} (hu : u ∈ L.set i t) : u = t ∨ ∃ j, ∃ hj : j < L.length, j ≠ i /\ u = L[j] := by
 obtain ⟨j, hj, rfl⟩ := List.getElem_of_mem hu
 rw [List.getElem_set]
 split
 · exact .inl rfl
 · rename_i e; exact .inr ⟨j, by simpa using hj, fun h => e h.symm, rfl⟩
theorem id_inj {L : List Th} (hnd : (L.map (·.id)).Nodup) {i j : Nat} (hi : i < L.length) (hj : j < L.length) (h : L[i].id = L[j].id) : i = j := by
 rcases Nat.lt_trichotomy i j with hlt | he | hlt
 · exact absurd (by rw [List.getElem_map, List.getElem_map]; exact h) (List.pairwise_iff_getElem.1 hnd i j (by simpa using hi) (by simpa using hj) hlt)
 · exact he
 · exact absurd (by rw [List.getElem_map, List.getElem_map]; exact h.symm) (List.pairwise_iff_getElem.1 hnd j i (by simpa using hj) (by simpa using hi) hlt)
theorem RelD.set {S S' : Abs} {L : List Th} {D : List Int} (h : RelD S L D) (hnd : (L.map (·.id)).Nodup) {i : Nat} (hi : i < L.length) {t : Th} (he : t.id = L[i].id) (hS : ∀ k, k ≠ t.id -> S' k = S k) (ht : (t.id ∉ D -> ∃ o, S' t.id = some o /\ Mt o t) /\ (t.id ∈ D -> S' t.id = none /\ (t.ents ≠ [] -> t.kind = 1))) : RelD S' (L.set i t) D := by
 have oth : ∀ j (hj : j < L.length), j ≠ i -> L[j].id ≠ t.id := fun j hj hne e => hne (id_inj hnd hj hi (e.trans he))
 refine ⟨fun u hu hD => ?_, fun u hu hD => ?_, fun k o ho => ?_⟩
 · rcases mem_set' hu with rfl | ⟨j, hj, hne, rfl⟩
   · exact ht.1 hD
   · rw [hS _ (oth j hj hne)]; exact h.yes _ (List.getElem_mem hj) hD
 · rcases mem_set' hu with rfl | ⟨j, hj, hne, rfl⟩
   · exact ht.2 hD
   · rw [hS _ (oth j hj hne)]; exact h.dead _ (List.getElem_mem hj) hD
 · by_cases e : k = t.id
   · exact ⟨t, List.mem_iff_getElem.2 ⟨i, by simpa using hi, by simp⟩, e.symm⟩
   · rw [hS k e] at ho
     obtain ⟨u, hu, rfl⟩ := h.back k o ho
     obtain ⟨j, hj, rfl⟩ := List.getElem_of_mem hu
     have hji : j ≠ i := fun e2 => by subst e2; exact e he.symm
     exact ⟨L[j], List.mem_iff_getElem.2 ⟨j, by simpa using hj, by rw [List.getElem_set_ne (fun e => hji e.symm)]⟩, rfl⟩
theorem RelD.add {S S' : Abs} {L : List Th} {D : List Int} (h : RelD S L D) {t : Th} {o : Ob} (hS : ∀ k, k ≠ t.id -> S' k = S k) (ho : S' t.id = some o) (hm : Mt o t) (hno : ∀ u ∈ L, u.id ≠ t.id) (hD : t.id ∉ D) : RelD S' (L ++ [t]) D := by
 refine ⟨fun u hu hu' => ?_, fun u hu hu' => ?_, fun k p hp => ?_⟩
 · rcases List.mem_append.1 hu with hu | hu
   · rw [hS _ (hno u hu)]; exact h.yes u hu hu'
   · simp at hu; subst hu; exact ⟨o, ho, hm⟩
 · rcases List.mem_append.1 hu with hu | hu
   · rw [hS _ (hno u hu)]; exact h.dead u hu hu'
   · simp at hu; subst hu; exact absurd hu' hD
 · by_cases e : k = t.id
   · exact ⟨t, by simp, e.symm⟩
   · rw [hS k e] at hp
     obtain ⟨u, hu, rfl⟩ := h.back k p hp
     exact ⟨u, by simp [hu], rfl⟩
theorem mem_eraseIdx' {L : List Th} {i : Nat} {u : Th} (hu : u ∈ L.eraseIdx i) : u ∈ L := List.mem_of_mem_eraseIdx hu
theorem RelD.gone {S : Abs} {L : List Th} {D : List Int} {x : Int} (h : RelD S L (x :: D)) (hnd : (L.map (·.id)).Nodup) {i : Nat} (hi : i < L.length) (he : L[i].id = x) : RelD S (L.eraseIdx i) D := by
 have key : ∀ u ∈ L.eraseIdx i, u ∈ L /\ u.id ≠ x := fun u hu => by
  refine ⟨mem_eraseIdx' hu, fun e => ?_⟩
  obtain ⟨j, hj, hne⟩ : ∃ j, ∃ hj : j < L.length, j ≠ i /\ L[j] = u := by
   obtain ⟨j, hj, rfl⟩ := List.getElem_of_mem hu
   rw [List.getElem_eraseIdx]
   have hlen := List.length_eraseIdx_of_lt hi
   split
   · exact ⟨j, by omega, by omega, rfl⟩
   · exact ⟨j + 1, by omega, by omega, rfl⟩
  exact hne.1 (id_inj hnd hj hi (by rw [hne.2, e, he]))
 refine ⟨fun u hu hD => ?_, fun u hu hD => ?_, fun k o ho => ?_⟩
 · obtain ⟨h1, h2⟩ := key u hu
   exact h.yes u h1 (by simp [h2, hD])
 · obtain ⟨h1, h2⟩ := key u hu
   exact h.dead u h1 (by simp [hD])
 · obtain ⟨u, hu, rfl⟩ := h.back k o ho
   refine ⟨u, ?_, rfl⟩
   have hne : u.id ≠ x := fun e => by
    have := (h.dead u hu (by simp [e])).1
    rw [ho] at this; cases this
   obtain ⟨j, hj, rfl⟩ := List.getElem_of_mem hu
   have hji : j ≠ i := fun e => by subst e; exact hne he
   rw [List.mem_eraseIdx_iff_getElem]
   exact ⟨j, hj, hji, rfl⟩
theorem cf_set : ∀ (l : List Bool) (i : Nat), l[i]? = some false -> (l.set i true).count false + 1 = l.count false
 | [], i, h => by simp at h
 | b :: l, 0, h => by have : b = false := by simpa using h
                      subst this; simp
 | b :: l, i + 1, h => by
  have := cf_set l i (by simpa using h)
  cases b <;> simp_all <;> omega
section
variable {P : Program} {ops : Array Oper}
def backB (ops : Array Oper) : Bool := (List.range ops.size).all fun i => match ops[i]? with | some o => o.after.all (fun e => decide (e.on < i)) | none => true
theorem ready_nil_all {li : Array Bool} (hb : backB ops = true) (hs : li.size = ops.size) (h : Region.ready .any ops li = []) : ∀ (n i : Nat), i <= n -> i < ops.size -> li.getD i false = true := by
 intro n
 induction n with
 | zero =>
  intro i hi hlt
  obtain rfl : i = 0 := by omega
  by_cases hu : li.getD 0 true = false
  · have : 0 ∈ Region.ready .any ops li := mem_ready.2 ⟨hu, ops[0], Array.getElem?_eq_getElem hlt, fun e he hbd => by
     have := List.all_eq_true.1 hb 0 (List.mem_range.2 hlt)
     rw [Array.getElem?_eq_getElem hlt] at this
     have := Array.all_eq_true_iff_forall_mem.1 this e he
     simp at this⟩
    rw [h] at this; cases this
  · have hl : 0 < li.size := by omega
    simp [Array.getD_eq_getD_getElem?, Array.getElem?_eq_getElem hl] at hu |-; exact hu
 | succ n ih =>
  intro i hi hlt
  by_cases hu : li.getD i true = false
  · have : i ∈ Region.ready .any ops li := mem_ready.2 ⟨hu, ops[i], Array.getElem?_eq_getElem hlt, fun e he hbd => by
     have := List.all_eq_true.1 hb i (List.mem_range.2 hlt)
     rw [Array.getElem?_eq_getElem hlt] at this
     have hlt' := Array.all_eq_true_iff_forall_mem.1 this e he
     simp at hlt'
     exact ih e.on (by omega) (by omega)⟩
    rw [h] at this; cases this
  · have hl : i < li.size := by omega
    simp [Array.getD_eq_getD_getElem?, Array.getElem?_eq_getElem hl] at hu |-; exact hu
end
theorem addr_plus (b o j : Nat) : (⟨b, o, none⟩ : Addr).add j = ⟨b, o + j, none⟩ := by
 by_cases h : j = 0 <;> simp [Addr.add, h]
def dsts (ops : Array Oper) : List Nat := ops.toList.filterMap (·.dst)
def dstB (ops : Array Oper) (n : Nat) : Bool := ops.toList.all (fun o => match o.dst with | some d => decide (d < n) | none => false) && decide (dsts ops).Nodup
section
variable {P : Program} {ops : Array Oper}
theorem dst_of {n : Nat} (h : dstB ops n = true) {i : Nat} {o : Oper} (ho : ops[i]? = some o) : ∃ d, o.dst = some d /\ d < n := by
 unfold dstB at h
 rw [Bool.and_eq_true, List.all_eq_true] at h
 have hmem : o ∈ ops.toList := by rw [Array.mem_toList_iff]; exact Array.mem_of_getElem? ho
 have := h.1 o hmem
 cases hd : o.dst with
 | none => rw [hd] at this; cases this
 | some d => rw [hd] at this; exact ⟨d, rfl, by simpa using this⟩
theorem mem_dsts {i : Nat} {o : Oper} {d : Nat} (ho : ops[i]? = some o) (hd : o.dst = some d) : d ∈ dsts ops := by
 unfold dsts
 rw [List.mem_filterMap]
 exact ⟨o, by rw [Array.mem_toList_iff]; exact Array.mem_of_getElem? ho, hd⟩
theorem fm_inj {l : List Oper} (h : (l.filterMap (·.dst)).Nodup) : ∀ {i j : Nat} {o o' : Oper} {d : Nat}, l[i]? = some o -> l[j]? = some o' -> o.dst = some d -> o'.dst = some d -> i = j := by
 induction l with
 | nil => intro i j o o' d h1; simp at h1
 | cons x l ih =>
  intro i j o o' d h1 h2 d1 d2
  have hl : (l.filterMap (·.dst)).Nodup := by
   rw [List.filterMap_cons] at h
   split at h
   · exact h
   · exact (List.nodup_cons.1 h).2
  cases i with
  | zero =>
   cases j with
   | zero => rfl
   | succ j =>
    simp only [List.getElem?_cons_zero, Option.some.injEq] at h1
    simp only [List.getElem?_cons_succ] at h2
    subst h1
    rw [List.filterMap_cons, d1] at h
    exact absurd (List.mem_filterMap.2 ⟨o', List.mem_of_getElem? h2, d2⟩) (List.nodup_cons.1 h).1
  | succ i =>
   cases j with
   | zero =>
    simp only [List.getElem?_cons_zero, Option.some.injEq] at h2
    simp only [List.getElem?_cons_succ] at h1
    subst h2
    rw [List.filterMap_cons, d2] at h
    exact absurd (List.mem_filterMap.2 ⟨o, List.mem_of_getElem? h1, d1⟩) (List.nodup_cons.1 h).1
   | succ j =>
    simp only [List.getElem?_cons_succ] at h1 h2
    rw [ih hl h1 h2 d1 d2]
theorem dst_inj {n : Nat} (h : dstB ops n = true) {i j : Nat} {o o' : Oper} {d : Nat} (h1 : ops[i]? = some o) (h2 : ops[j]? = some o') (d1 : o.dst = some d) (d2 : o'.dst = some d) : i = j := by
 unfold dstB dsts at h
 rw [Bool.and_eq_true, decide_eq_true_eq] at h
 exact fm_inj h.2 (by rw [Array.getElem?_toList]; exact h1) (by rw [Array.getElem?_toList]; exact h2) d1 d2
theorem put_ne (a : Act) {d k : Nat} (v : Value) (h : k ≠ d) : (a.put (some d) v).eval (.tmp k) = a.eval (.tmp k) := by
 simp only [Act.put, Act.eval, Array.getD_eq_getD_getElem?]
 rw [Array.getElem?_setIfInBounds_ne (Ne.symm h)]
theorem put_eq (a : Act) {d : Nat} (v : Value) (h : d < a.tmps.size) : (a.put (some d) v).eval (.tmp d) = v := by
 simp only [Act.put, Act.eval, Array.getD_eq_getD_getElem?]
 rw [Array.getElem?_setIfInBounds_self_of_lt h]; rfl
theorem cnt_take (l : List Bool) (n i : Nat) (hi : i < n) (h : l[i]? = some false) : ((l.set i true).take n).count false + 1 = (l.take n).count false := by
 rw [List.take_set]
 exact cf_set (l.take n) i (by rw [List.getElem?_take_of_lt hi]; exact h)
def needB (ops : Array Oper) : Nat -> Nat -> Nat -> Bool
 | 0, _, _ => false
 | f + 1, i, j => match ops[i]? with | some o => o.after.any (fun e => Region.binds .any e && (e.on == j || needB ops f e.on j)) | none => false
def tailT (ops : Array Oper) (f n : Nat) : Bool := (List.range ops.size).all fun i => decide (i < n) || (List.range n).all (fun j => needB ops f i j)
def ClB (ops : Array Oper) (li : Array Bool) : Prop := ∀ i o, ops[i]? = some o -> li.getD i false = true -> ∀ e ∈ o.after, Region.binds .any e = true -> li.getD e.on false = true
theorem need_done {li : Array Bool} (hc : ClB ops li) : ∀ (f i j : Nat) (o : Oper), ops[i]? = some o -> (∀ e ∈ o.after, Region.binds .any e = true -> li.getD e.on false = true) -> needB ops f i j = true -> li.getD j false = true
 | 0, _, _, _, _, _, h => by cases h
 | f + 1, i, j, o, ho, hd, h => by
  unfold needB at h
  rw [ho] at h
  simp only [Array.any_eq_true', Bool.and_eq_true, Bool.or_eq_true, beq_iff_eq] at h
  obtain ⟨e, he, hb, hj⟩ := h
  have h1 := hd e he hb
  rcases hj with hj | hj
  · rw [<- hj]; exact h1
  · cases hoe : ops[e.on]? with
    | none => cases f <;> simp [needB, hoe] at hj
    | some o' => exact need_done hc f e.on j o' hoe (hc e.on o' hoe h1) hj
theorem tail_allT {f n : Nat} (h : tailT ops f n = true) {i : Nat} {o : Oper} (ho : ops[i]? = some o) (hi : n <= i) {li : Array Bool} (hc : ClB ops li) (hd : ∀ e ∈ o.after, Region.binds .any e = true -> li.getD e.on false = true) : ∀ j, j < n -> li.getD j false = true := by
 intro j hj
 have hlt : i < ops.size := (Array.getElem?_eq_some_iff.1 ho).1
 have h1 := List.all_eq_true.1 h i (List.mem_range.2 hlt)
 simp only [Bool.or_eq_true, decide_eq_true_eq, List.all_eq_true, List.mem_range] at h1
 rcases h1 with h1 | h1
 · omega
 · exact need_done hc f i j o ho hd (h1 j hj)
theorem getD_set {li : Array Bool} {i j : Nat} (h : li.getD j false = true) : (li.setIfInBounds i true).getD j false = true := by
 rw [Array.getD_eq_getD_getElem?] at h |-
 rw [Array.getElem?_setIfInBounds]
 split
 · split
   · rfl
   · rename_i h1 h2; subst h1; rw [Array.getElem?_eq_none (by omega)] at h; exact h
 · exact h
theorem ClB.set {li : Array Bool} (hc : ClB ops li) {i : Nat} {o : Oper} (ho : ops[i]? = some o) (hd : ∀ e ∈ o.after, Region.binds .any e = true -> li.getD e.on false = true) : ClB ops (li.setIfInBounds i true) := by
 intro k ok hk hkd e he hb
 by_cases hki : k = i
 · subst hki
   rw [hk] at ho; cases ho
   exact getD_set (hd e he hb)
 · refine getD_set (hc k ok hk ?_ e he hb)
   rw [Array.getD_eq_getD_getElem?, Array.getElem?_setIfInBounds_ne (Ne.symm hki)] at hkd
   rw [Array.getD_eq_getD_getElem?]; exact hkd
end
theorem arr_of (tm : Array Value) (l : List Value) (hs : tm.size = l.length) (h : (List.range l.length).map (fun k => tm.getD k undef) = l) : tm = l.toArray := by
 apply Array.ext
 · simpa using hs
 · intro i h1 h2
   have h2' : i < l.length := by simpa using h2
   have e : ((List.range l.length).map (fun k => tm.getD k undef))[i]? = l[i]? := by rw [h]
   rw [List.getElem?_map, List.getElem?_range h2', List.getElem?_eq_getElem h2'] at e
   simp only [Option.map_some, Option.some.injEq] at e
   rw [Array.getD_eq_getD_getElem?, Array.getElem?_eq_getElem h1] at e
   simpa using e
end Go.Proofs.YtmgfakfiiaeofaaGreat.Ho
