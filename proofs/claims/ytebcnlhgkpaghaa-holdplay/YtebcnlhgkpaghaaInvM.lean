/- What is so of a table stays so. -/
import Derived.Test.YtebcnlhgkpaghaaInv
namespace Go.Proofs.Ytebcnlhgkpaghaa
open Go.RowKit Go.Sort
section
variable {rt : Int} {S : Abs} {K : List Int}
/-- An entry more in a container: how often it is one. -/
theorem cnt_add {S' : Abs} {i x : Int} {o o1 : Ob} (hK : i ∈ K) (hnd : K.Nodup) (hi : S i = some o) (h1 : S' i = some o1) (he : o1.ents = o.ents ++ [x]) (hoth : ∀ c ∈ K, c ≠ i → ∀ y, occ S' y c = occ S y c) (y : Int) : cnt S' K y = cnt S K y + (if y = x then 1 else 0) := by
  unfold cnt
  rw [sum_erase hK, sum_erase hK]
  have e1 : occ S' y i = occ S y i + (if y = x then 1 else 0) := by
    unfold occ
    rw [h1, hi]
    simp only
    rw [he, List.count_append]
    congr 1
    by_cases e : y = x
    · subst e; simp
    · rw [if_neg e]; exact List.count_eq_zero.2 (by simpa using e)
  have e2 : ((K.erase i).map (occ S' y)).sum = ((K.erase i).map (occ S y)).sum := sum_congr (fun c hc => by
    have hci : c ≠ i := fun e => by subst e; exact (List.Nodup.not_mem_erase hnd) hc
    exact hoth c (List.mem_of_mem_erase hc) hci y)
  omega
theorem Inv.link (h : Inv rt S K) {i x : Int} {o p : Ob} (hi : S i = some o) (hx : S x = some p) (hix : i ≠ x) (hk : o.kind = 1) (hp : p.kind = 2 ∨ p.kind = 5) (hno : x ∉ o.ents) (hq : p.quota ≤ o.quota - o.used) :
    Inv rt (updS (updS S i { o with used := o.used + p.quota, ents := o.ents ++ [x] }) x { p with links := p.links + 1 }) K := by
  obtain ⟨S', hS'⟩ : ∃ S', updS (updS S i { o with used := o.used + p.quota, ents := o.ents ++ [x] }) x { p with links := p.links + 1 } = S' := ⟨_, rfl⟩
  rw [hS']
  have hiK := (h.bal.mem i).2 (by rw [hi]; rfl)
  have s1 : S' i = some { o with used := o.used + p.quota, ents := o.ents ++ [x] } := by rw [← hS', updS_ne _ _ hix, updS_at]
  have s2 : S' x = some { p with links := p.links + 1 } := by rw [← hS', updS_at]
  have s3 : ∀ k, k ≠ i → k ≠ x → S' k = S k := fun k h1 h2 => by rw [← hS', updS_ne _ _ h2, updS_ne _ _ h1]
  have hoth : ∀ c ∈ K, c ≠ i → ∀ y, occ S' y c = occ S y c := fun c _ hc y => by
    unfold occ
    by_cases e : c = x
    · subst e; rw [s2, hx]
    · rw [s3 c hc e]
  have hcnt := cnt_add hiK h.bal.nd hi s1 rfl hoth
  have hqs : ∀ y, qS S' y = qS S y := fun y => by
    unfold qS
    by_cases e1 : y = i
    · subst e1; rw [s1, hi]
    · by_cases e2 : y = x
      · subst e2; rw [s2, hx]
      · rw [s3 y e1 e2]
  have tr : ∀ {k : Int} {p : Ob}, Good1 S k p → Good1 S' k p := fun g => ⟨g.id, g.ct, g.kd, g.q, g.nd, by rw [g.us]; exact isum_congr (fun x _ => (hqs x).symm), g.le, g.non, g.lk, g.l1, g.slf, g.cat⟩
  have htop : Ranked S' := h.top.raise (K := K) x (fun t ht => by
      rw [s2] at ht; cases ht
      exact (h.ok x p hx).non (by rcases hp with e | e <;> rw [e] <;> decide)) (fun k hk hs => by
      by_cases e1 : k = i
      · rw [e1]; exact hiK
      · rw [s3 k e1 hk] at hs; exact (h.bal.mem k).2 hs) (fun k t ht y hy => by
      by_cases e1 : k = i
      · subst e1; rw [s1] at ht; cases ht
        rcases List.mem_append.1 hy with hm | hm
        · exact .inr ⟨o, hi, hm⟩
        · exact .inl (by simpa using hm)
      · by_cases e2 : k = x
        · subst e2; rw [s2] at ht; cases ht; exact .inr ⟨p, hx, hy⟩
        · rw [s3 k e1 e2] at ht; exact .inr ⟨t, ht, hy⟩)
  refine ⟨⟨h.bal.nd, fun k => ?_, fun y t ht => ?_, fun y hy => ?_⟩, fun k t ht => ?_, h.len, htop⟩
  · rw [h.bal.mem k]
    by_cases e1 : k = i
    · subst e1; rw [s1, hi]; simp
    · by_cases e2 : k = x
      · subst e2; rw [s2, hx]; simp
      · rw [s3 k e1 e2]
  · rw [hcnt]
    by_cases e2 : y = x
    · subst e2
      rw [s2] at ht; cases ht
      have := h.bal.lk y p hx
      rw [if_pos rfl]
      show p.links + 1 = _
      rw [this]; simp only [List.count_nil]; omega
    · rw [if_neg e2]
      by_cases e1 : y = i
      · subst e1
        rw [s1] at ht; cases ht
        exact h.bal.lk y o hi
      · rw [s3 y e1 e2] at ht; exact h.bal.lk y t ht
  · have e1 : y ≠ i := fun e => by subst e; rw [s1] at hy; cases hy
    have e2 : y ≠ x := fun e => by subst e; rw [s2] at hy; cases hy
    rw [s3 y e1 e2] at hy
    rw [hcnt, if_neg e2]
    exact h.bal.no y hy
  · by_cases e1 : k = i
    · subst e1
      rw [s1] at ht; cases ht
      have g := h.ok k o hi
      refine ⟨g.id, g.ct, g.kd, g.q, ?_, ?_, ?_, fun hh => absurd hk hh, g.lk, g.l1, ?_, g.cat⟩
      · show (o.ents ++ [x]).Nodup
        rw [List.nodup_append]
        exact ⟨g.nd, by simp, fun a ha b hb e => by simp at hb; subst hb; subst e; exact hno ha⟩
      · show o.used + p.quota = ((o.ents ++ [x]).map (qS S')).sum
        rw [isum_app, isum_congr (fun y _ => hqs y), ← g.us, hqs]
        unfold qS; rw [hx]
      · show o.used + p.quota ≤ o.quota; omega
      · show k ∉ o.ents ++ [x]
        intro hm
        rcases List.mem_append.1 hm with hm | hm
        · exact g.slf hm
        · simp at hm; exact hix hm
    · by_cases e2 : k = x
      · subst e2
        rw [s2] at ht; cases ht
        have g := h.ok k p hx
        refine tr ⟨g.id, g.ct, g.kd, g.q, g.nd, g.us, g.le, g.non, fun h2 h5 => ?_, ?_, g.slf, g.cat⟩
        · rcases hp with e | e
          · exact absurd e h2
          · exact absurd e h5
        · show 1 ≤ p.links + 1; have := g.l1; omega
      · rw [s3 k e1 e2] at ht; exact tr (h.ok k t ht)
theorem Inv.make (h : Inv rt S K) {i id kind quota d : Int} {xs : List (Int × Int)} {o : Ob} (hi : S i = some o) (hno : S id = none) (hk : o.kind = 1) (hkd : 1 ≤ kind ∧ kind ≤ 6) (hq : 1 ≤ quota ∧ quota ≤ 1099511627776) (hid : isCt id = true) (hqr : quota ≤ o.quota - o.used) (hlen : K.length < 4096) (hxs : xs.length < 1000000) :
    Inv rt (updS (updS S i { o with used := o.used + quota, ents := o.ents ++ [id] }) id (newOb id kind quota d xs)) (id :: K) := by
  have hix : i ≠ id := fun e => by subst e; rw [hi] at hno; cases hno
  obtain ⟨S', hS'⟩ : ∃ S', updS (updS S i { o with used := o.used + quota, ents := o.ents ++ [id] }) id (newOb id kind quota d xs) = S' := ⟨_, rfl⟩
  rw [hS']
  have hiK := (h.bal.mem i).2 (by rw [hi]; rfl)
  have hidK : id ∉ K := fun hm => by have := (h.bal.mem id).1 hm; rw [hno] at this; cases this
  have hne : ∀ c ∈ K, c ≠ id := fun c hc e => hidK (e ▸ hc)
  have s1 : S' i = some { o with used := o.used + quota, ents := o.ents ++ [id] } := by rw [← hS', updS_ne _ _ hix, updS_at]
  have s2 : S' id = some (newOb id kind quota d xs) := by rw [← hS', updS_at]
  have s3 : ∀ k, k ≠ i → k ≠ id → S' k = S k := fun k h1 h2 => by rw [← hS', updS_ne _ _ h2, updS_ne _ _ h1]
  have hoth : ∀ c ∈ K, c ≠ i → ∀ y, occ S' y c = occ S y c := fun c hcK hc y => by
    unfold occ; rw [s3 c hc (hne c hcK)]
  have hcnt0 := cnt_add hiK h.bal.nd hi s1 rfl hoth
  have hcnt : ∀ y, cnt S' (id :: K) y = cnt S K y + (if y = id then 1 else 0) := fun y => by
    rw [← hcnt0 y]
    unfold cnt
    rw [List.map_cons, List.sum_cons]
    have : occ S' y id = 0 := by unfold occ; rw [s2]; rfl
    omega
  obtain ⟨hc0, hr1⟩ := h.bal.no id hno
  have hnoent : ∀ k t, S k = some t → id ∉ t.ents := fun k t ht hm => by
    obtain ⟨p, hp⟩ := h.ent ht hm
    rw [hno] at hp; cases hp
  have hqs : ∀ y, y ≠ id → qS S' y = qS S y := fun y e2 => by
    unfold qS
    by_cases e1 : y = i
    · subst e1; rw [s1, hi]
    · rw [s3 y e1 e2]
  have tr : ∀ {k : Int} {t : Ob}, S k = some t → Good1 S k t → Good1 S' k t := fun {k t} ht g => ⟨g.id, g.ct, g.kd, g.q, g.nd, by rw [g.us]; exact isum_congr (fun x hx => (hqs x (fun e => hnoent k t ht (e ▸ hx))).symm), g.le, g.non, g.lk, g.l1, g.slf, g.cat⟩
  have htop : Ranked S' := h.top.raise (K := K) id (fun t ht => by rw [s2] at ht; cases ht; rfl) (fun k hk hs => by
      by_cases e1 : k = i
      · rw [e1]; exact hiK
      · rw [s3 k e1 hk] at hs; exact (h.bal.mem k).2 hs) (fun k t ht y hy => by
      by_cases e1 : k = i
      · subst e1; rw [s1] at ht; cases ht
        rcases List.mem_append.1 hy with hm | hm
        · exact .inr ⟨o, hi, hm⟩
        · exact .inl (by simpa using hm)
      · by_cases e2 : k = id
        · subst e2; rw [s2] at ht; cases ht; cases hy
        · rw [s3 k e1 e2] at ht; exact .inr ⟨t, ht, hy⟩)
  refine ⟨⟨List.nodup_cons.2 ⟨hidK, h.bal.nd⟩, fun k => ?_, fun y t ht => ?_, fun y hy => ?_⟩, fun k t ht => ?_, by simp; omega, htop⟩
  · by_cases e2 : k = id
    · subst e2; rw [s2]; simp
    · rw [List.mem_cons]
      by_cases e1 : k = i
      · subst e1; rw [s1]; simp [hiK]
      · rw [s3 k e1 e2, ← h.bal.mem k]; simp [e2]
  · rw [hcnt]
    by_cases e2 : y = id
    · subst e2
      rw [s2] at ht; cases ht
      rw [if_pos rfl, if_neg hr1]
      show (1 : Int) = _
      simp only [List.count_nil] at hc0 ⊢
      omega
    · rw [if_neg e2]
      by_cases e1 : y = i
      · subst e1; rw [s1] at ht; cases ht; exact h.bal.lk y o hi
      · rw [s3 y e1 e2] at ht; exact h.bal.lk y t ht
  · have e1 : y ≠ i := fun e => by subst e; rw [s1] at hy; cases hy
    have e2 : y ≠ id := fun e => by subst e; rw [s2] at hy; cases hy
    rw [s3 y e1 e2] at hy
    rw [hcnt, if_neg e2]
    exact h.bal.no y hy
  · by_cases e1 : k = i
    · subst e1
      rw [s1] at ht; cases ht
      have g := h.ok k o hi
      refine ⟨g.id, g.ct, g.kd, g.q, ?_, ?_, ?_, fun hh => absurd hk hh, g.lk, g.l1, ?_, g.cat⟩
      · show (o.ents ++ [id]).Nodup
        rw [List.nodup_append]
        exact ⟨g.nd, by simp, fun a ha b hb e => by simp at hb; subst hb; subst e; exact hnoent k o hi ha⟩
      · show o.used + quota = ((o.ents ++ [id]).map (qS S')).sum
        rw [isum_app, isum_congr (fun y hy => hqs y (fun e => hnoent k o hi (e ▸ hy))), ← g.us]
        unfold qS; rw [s2]; rfl
      · show o.used + quota ≤ o.quota; omega
      · show k ∉ o.ents ++ [id]
        intro hm
        rcases List.mem_append.1 hm with hm | hm
        · exact g.slf hm
        · simp at hm; exact hix hm
    · by_cases e2 : k = id
      · subst e2
        rw [s2] at ht; cases ht
        exact ⟨rfl, hid, hkd, hq, List.nodup_nil, rfl, by show (0 : Int) ≤ quota; omega, fun _ => rfl, fun _ _ => rfl, by show (1 : Int) ≤ 1; omega, (fun hm => by cases hm), hxs⟩
      · rw [s3 k e1 e2] at ht; exact tr ht (h.ok k t ht)
theorem count_without {x y : Int} {l : List Int} (hn : l.Nodup) (hx : x ∈ l) : (without x l).count y + (if y = x then 1 else 0) = l.count y := by
  by_cases e : y = x
  · subst e
    rw [if_pos rfl]
    have h1 : (without y l).count y = 0 := List.count_eq_zero.2 (fun hm => by unfold without at hm; simpa using (List.mem_filter.1 hm).2)
    have h2 : l.count y ≤ 1 := List.nodup_iff_count.1 hn y
    have h3 : 0 < l.count y := List.count_pos_iff.2 hx
    omega
  · rw [if_neg e, Nat.add_zero]
    unfold without
    exact List.count_filter (by simpa using e)
/-- An entry less, still to be taken from the object. -/
theorem Inv.cutBal (h : Inv rt S K) {i x q : Int} {o : Ob} (hi : S i = some o) (hx : x ∈ o.ents) : Bal (updS S i (dropO o q x)) K rt [x] := by
  have hiK := (h.bal.mem i).2 (by rw [hi]; rfl)
  have hcnt : ∀ y, cnt (updS S i (dropO o q x)) K y + (if y = x then 1 else 0) = cnt S K y := fun y => by
    unfold cnt
    rw [sum_erase hiK, sum_erase hiK]
    have e1 : occ (updS S i (dropO o q x)) y i + (if y = x then 1 else 0) = occ S y i := by
      unfold occ
      rw [updS_at, hi]
      exact count_without (h.ok i o hi).nd hx
    have e2 : ((K.erase i).map (occ (updS S i (dropO o q x)) y)).sum = ((K.erase i).map (occ S y)).sum := sum_congr (fun c hc => by
      have hci : c ≠ i := fun e => by subst e; exact (List.Nodup.not_mem_erase h.bal.nd) hc
      unfold occ; rw [updS_ne _ _ hci])
    omega
  refine ⟨h.bal.nd, fun k => ?_, fun y t ht => ?_, fun y hy => ?_⟩
  · rw [h.bal.mem k]
    by_cases e : k = i
    · subst e; rw [updS_at, hi]; simp
    · rw [updS_ne _ _ e]
  · have hL : t.links = ((cnt S K y + ([] : List Int).count y + (if y = rt then 1 else 0) : Nat) : Int) := by
      by_cases e : y = i
      · subst e; rw [updS_at] at ht; cases ht; exact h.bal.lk y o hi
      · rw [updS_ne _ _ e] at ht; exact h.bal.lk y t ht
    rw [hL, ← hcnt y]
    congr 1
    by_cases e : y = x
    · subst e; simp
    · rw [if_neg e, List.count_cons_of_ne (Ne.symm e)]
      simp
  · have e : y ≠ i := fun e => by subst e; rw [updS_at] at hy; cases hy
    rw [updS_ne _ _ e] at hy
    have h0 := h.bal.no y hy
    have h1 := hcnt y
    refine ⟨?_, h0.2⟩
    by_cases e2 : y = x
    · subst e2
      obtain ⟨p, hp⟩ := h.ent hi hx
      rw [hy] at hp; cases hp
    · rw [if_neg e2] at h1
      rw [List.count_cons_of_ne (Ne.symm e2)]
      have := h0.1
      simp only [List.count_nil] at this ⊢
      omega
/-- A link is dropped: what is left is as it should be. -/
theorem Inv.drop (h : Inv rt S K) {i x : Int} {o p : Ob} (hi : S i = some o) (hx : x ∈ o.ents) (hp : S x = some p) :
    ∃ S' g K', loosS K.length (updS S i (dropO o p.quota x)) x [] = some (S', g) ∧ Inv rt S' K' ∧ K.Perm (K' ++ g) ∧ Les (updS S i (dropO o p.quota x)) S' := by
  obtain ⟨S', g2, h1, ⟨K', g', hg, hb, hpm⟩, hles⟩ := loos_total rt K.length (updS S i (dropO o p.quota x)) K x [] [] (h.cutBal hi hx) (Nat.le_refl _)
  rw [List.nil_append] at hg
  subst hg
  have htop : Ranked S' := h.top.less (fun k t ht y hy => by
      obtain ⟨t1, ht1, e1, _, _⟩ := hles k t ht
      have hy1 : y ∈ t1.ents := by rw [e1] at hy; exact hy
      by_cases e : k = i
      · subst e
        rw [updS_at] at ht1
        have e2 : dropO o p.quota x = t1 := by simpa using ht1
        rw [← e2] at hy1
        exact ⟨o, hi, (List.mem_filter.1 hy1).1⟩
      · rw [updS_ne _ _ e] at ht1
        exact ⟨t1, ht1, hy1⟩)
  refine ⟨S', g2, K', h1, ⟨hb, fun k t ht => ?_, ?_, htop⟩, hpm, hles⟩
  · have hent : ∀ y ∈ t.ents, ∃ u, S' y = some u := fun y hy => by
      cases hS : S' y with
      | some u => exact ⟨u, rfl⟩
      | none =>
        have h0 := (hb.no y hS).1
        have hkK := (hb.mem k).2 (by rw [ht]; rfl)
        have h1 : occ S' y k ≤ cnt S' K' y := sum_le hkK
        have h2 : 0 < occ S' y k := by unfold occ; rw [ht]; exact List.count_pos_iff.2 hy
        omega
    have hq1 : ∀ y, qS (updS S i (dropO o p.quota x)) y = qS S y := fun y => by
      unfold qS
      by_cases e : y = i
      · subst e; rw [updS_at, hi]; rfl
      · rw [updS_ne _ _ e]
    have hqs : ∀ y ∈ t.ents, qS S' y = qS S y := fun y hy => by
      obtain ⟨u, hu⟩ := hent y hy
      obtain ⟨v, hv, e1, _⟩ := hles y u hu
      rw [← hq1 y]
      unfold qS
      rw [hu, hv]
      rw [e1]
    obtain ⟨t1, ht1, e1, l1, m1⟩ := hles k t ht
    have hcore : ∀ {v : Ob}, Good1 S k v → t1.id = v.id → t1.kind = v.kind → t1.quota = v.quota → t1.links = v.links → t1.cats = v.cats → t1.ents.Nodup → (∀ y ∈ t1.ents, y ∈ v.ents) → t1.used = (t1.ents.map (qS S)).sum → t1.used ≤ t1.quota → Good1 S' k t := fun {v} g a1 a2 a3 a4 a5 a6 a7 a8 a9 => by
      have te : t.ents = t1.ents := by rw [e1]
      have tk : t.kind = v.kind := by rw [e1]; exact a2
      have tl := g.l1
      refine ⟨by rw [e1]; exact a1.trans g.id, g.ct, by rw [tk]; exact g.kd, by rw [e1]; show 1 ≤ t1.quota ∧ t1.quota ≤ _; rw [a3]; exact g.q, by rw [te]; exact a6, ?_, by rw [e1]; exact a9, fun hh => ?_, fun h2 h5 => ?_, ?_, ?_, by rw [e1]; show t1.cats.length < _; rw [a5]; exact g.cat⟩
      · rw [isum_congr hqs, te, ← a8, e1]
      · rw [te]
        have := g.non (by rw [← tk]; exact hh)
        exact List.eq_nil_iff_forall_not_mem.2 (fun y hy => by have := a7 y hy; rw [g.non (by rw [← tk]; exact hh)] at this; cases this)
      · have h3 := g.lk (by rw [← tk]; exact h2) (by rw [← tk]; exact h5)
        have h4 := m1 (by omega)
        omega
      · exact m1 (by omega)
      · rw [te]; exact fun hm => g.slf (a7 k hm)
    by_cases e : k = i
    · subst e
      rw [updS_at] at ht1
      have e2 : dropO o p.quota x = t1 := by simpa using ht1
      have g := h.ok k o hi
      rw [← e2] at hcore
      refine hcore g rfl rfl rfl rfl rfl (g.nd.filter _) (fun y hy => (List.mem_filter.1 hy).1) ?_ ?_
      · show o.used - p.quota = ((without x o.ents).map (qS S)).sum
        rw [isum_without g.nd hx, ← g.us]
        unfold qS; rw [hp]
      · show o.used - p.quota ≤ o.quota
        have := g.le
        have := (h.ok x p hp).q
        omega
    · rw [updS_ne _ _ e] at ht1
      have g := h.ok k t1 ht1
      exact hcore g rfl rfl rfl rfl rfl g.nd (fun y hy => hy) g.us g.le
  · have := hpm.length_eq
    rw [List.length_append] at this
    have := h.len
    omega
theorem Inv.shift (h : Inv rt S K) {i x n : Int} {o p : Ob} (hi : S i = some o) (hxe : x ∈ o.ents) (hx : S x = some p) (hk : p.kind = 1) (hn1 : n ≤ o.quota - o.used) (hn2 : -n ≤ p.quota - p.used) (hn3 : 1 ≤ p.quota + n) :
    Inv rt (updS (updS S i { o with used := o.used + n }) x { p with quota := p.quota + n }) K := by
  have gi := h.ok i o hi
  have gx := h.ok x p hx
  have hix : i ≠ x := fun e => gi.slf (e ▸ hxe)
  have hl1 : p.links = 1 := gx.lk (by omega) (by omega)
  obtain ⟨S', hS'⟩ : ∃ S', updS (updS S i { o with used := o.used + n }) x { p with quota := p.quota + n } = S' := ⟨_, rfl⟩
  rw [hS']
  have s1 : S' i = some { o with used := o.used + n } := by rw [← hS', updS_ne _ _ hix, updS_at]
  have s2 : S' x = some { p with quota := p.quota + n } := by rw [← hS', updS_at]
  have s3 : ∀ k, k ≠ i → k ≠ x → S' k = S k := fun k h1 h2 => by rw [← hS', updS_ne _ _ h2, updS_ne _ _ h1]
  have hocc : ∀ y c, occ S' y c = occ S y c := fun y c => by
    unfold occ
    by_cases e1 : c = i
    · subst e1; rw [s1, hi]
    · by_cases e2 : c = x
      · subst e2; rw [s2, hx]
      · rw [s3 c e1 e2]
  have hcnt : ∀ y, cnt S' K y = cnt S K y := fun y => sum_congr (fun c _ => hocc y c)
  have hq1 : ∀ y, y ≠ x → qS S' y = qS S y := fun y e2 => by
    unfold qS
    by_cases e1 : y = i
    · subst e1; rw [s1, hi]
    · rw [s3 y e1 e2]
  have hq2 : qS S' x = qS S x + n := by unfold qS; rw [s2, hx]
  have honly : ∀ k t, S k = some t → k ≠ i → x ∉ t.ents := fun k t ht hk hm => hk (h.once hx hl1 ht hi hm hxe)
  have hsum : ∀ k t, S k = some t → k ≠ i → (t.ents.map (qS S')).sum = (t.ents.map (qS S)).sum := fun k t ht hk => isum_congr (fun y hy => hq1 y (fun e => honly k t ht hk (e ▸ hy)))
  have hsumi : (o.ents.map (qS S')).sum = (o.ents.map (qS S)).sum + n := by
    have a1 := isum_without (f := qS S') gi.nd hxe
    have a2 := isum_without (f := qS S) gi.nd hxe
    have a3 : ((without x o.ents).map (qS S')).sum = ((without x o.ents).map (qS S)).sum := isum_congr (fun y hy => hq1 y (by have := (List.mem_filter.1 hy).2; simpa using this))
    omega
  have htop : Ranked S' := h.top.less (fun k t ht y hy => by
      by_cases e1 : k = i
      · subst e1; rw [s1] at ht; cases ht; exact ⟨o, hi, hy⟩
      · by_cases e2 : k = x
        · subst e2; rw [s2] at ht; cases ht; exact ⟨p, hx, hy⟩
        · rw [s3 k e1 e2] at ht; exact ⟨t, ht, hy⟩)
  refine ⟨⟨h.bal.nd, fun k => ?_, fun y t ht => ?_, fun y hy => ?_⟩, fun k t ht => ?_, h.len, htop⟩
  · rw [h.bal.mem k]
    by_cases e1 : k = i
    · subst e1; rw [s1, hi]; simp
    · by_cases e2 : k = x
      · subst e2; rw [s2, hx]; simp
      · rw [s3 k e1 e2]
  · rw [hcnt]
    by_cases e1 : y = i
    · subst e1; rw [s1] at ht; cases ht; exact h.bal.lk y o hi
    · by_cases e2 : y = x
      · subst e2; rw [s2] at ht; cases ht; exact h.bal.lk y p hx
      · rw [s3 y e1 e2] at ht; exact h.bal.lk y t ht
  · have e1 : y ≠ i := fun e => by subst e; rw [s1] at hy; cases hy
    have e2 : y ≠ x := fun e => by subst e; rw [s2] at hy; cases hy
    rw [s3 y e1 e2] at hy
    rw [hcnt]
    exact h.bal.no y hy
  · by_cases e1 : k = i
    · subst e1
      rw [s1] at ht; cases ht
      exact ⟨gi.id, gi.ct, gi.kd, gi.q, gi.nd, by rw [hsumi, ← gi.us], by show o.used + n ≤ o.quota; omega, gi.non, gi.lk, gi.l1, gi.slf, gi.cat⟩
    · by_cases e2 : k = x
      · subst e2
        rw [s2] at ht; cases ht
        have hle : qS S k ≤ (o.ents.map (qS S)).sum := isum_mem (fun y _ => h.qpos y) hxe
        rw [← gi.us] at hle
        have hqk : qS S k = p.quota := by unfold qS; rw [hx]
        have := gi.q
        refine ⟨gx.id, gx.ct, gx.kd, ⟨hn3, ?_⟩, gx.nd, ?_, ?_, gx.non, gx.lk, gx.l1, gx.slf, gx.cat⟩
        · show p.quota + n ≤ _; omega
        · show p.used = _
          rw [hsum k p hx e1]; exact gx.us
        · show p.used ≤ p.quota + n; omega
      · rw [s3 k e1 e2] at ht
        have g := h.ok k t ht
        exact ⟨g.id, g.ct, g.kd, g.q, g.nd, by rw [hsum k t ht e1]; exact g.us, g.le, g.non, g.lk, g.l1, g.slf, g.cat⟩
end
end Go.Proofs.Ytebcnlhgkpaghaa
