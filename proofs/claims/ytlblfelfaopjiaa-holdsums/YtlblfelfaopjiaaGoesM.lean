/- What is gone when a link is dropped. -/
import Derived.Test.YtlblfelfaopjiaaRunT
namespace Go.Proofs.Ytlblfelfaopjiaa
open Go.RowKit Go.Sort
/-- x is an entry of the container i. -/
def entS (S : Abs) (i x : Int) : Prop := ∃ o, S i = some o ∧ o.kind = 1 ∧ x ∈ o.ents
theorem entE_iff {T : Tab} {S : Abs} (h : V T S) (i x : Int) : entE T i x = 0 ↔ entS S i x := by
  unfold entE entS
  rw [← h i]
  cases hT : T i with
  | none => simp
  | some r =>
    simp only [Option.map_some, Option.some.injEq, exists_eq_left']
    by_cases hk : r.ob.kind = 1
    · by_cases hc : r.ob.ents.contains x = true
      · have : x ∈ r.ob.ents := by simpa using hc
        simp [hk, this]
      · have : x ∉ r.ob.ents := by simpa using hc
        simp [hk, this]
    · simp [hk]
theorem loos_first {r : Int} {n : Nat} {S : Abs} {K P : List Int} {i : Int} {S' : Abs} {g : List Int} (hb : Bal S K r (i :: P)) (hK : K.length ≤ n + 1) (h : loosS (n + 1) S i [] = some (S', g)) : g = [] ∨ ∃ t, g = i :: t := by
  obtain ⟨o, ho⟩ := hb.has
  have hiK := (hb.mem i).2 (by rw [ho]; rfl)
  unfold loosS at h
  rw [ho] at h
  simp only at h
  by_cases hl : 1 < o.links
  · rw [if_pos hl] at h
    cases h
    exact .inl rfl
  · rw [if_neg hl] at h
    have hlen : (K.erase i).length ≤ n := by rw [List.length_erase_of_mem hiK]; omega
    obtain ⟨S2, g2, h2, ⟨K2, e2, hg2, _, _⟩, _⟩ := fold_total (loos_total r n) o.ents (delS S i) (K.erase i) ([] ++ [i]) P (hb.del ho hl) hlen
    rw [h2] at h
    cases h
    exact .inr ⟨e2, by rw [hg2]; rfl⟩
/-- What is left is as it was, but for links and sums. -/
def Les2 (S S' : Abs) : Prop := ∀ k o', S' k = some o' → ∃ o, S k = some o ∧ o'.kind = o.kind ∧ o'.quota = o.quota ∧ o'.df = o.df ∧ o'.cats = o.cats ∧ 1 ≤ o'.links ∧ o'.links ≤ o.links ∧ o'.used ≤ o.used
theorem inv_len {S : Abs} {K K' : List Int} (h : Inv S K) (h' : Inv S K') : K.length = K'.length :=
  ((List.perm_ext_iff_of_nodup h.bal.nd h'.bal.nd).2 (fun k => by rw [h.bal.mem k, h'.bal.mem k])).length_eq
structure Goes (S S' : Abs) (i x c : Int) (g : List Int) : Prop where
  ok : c = 0 ↔ entS S i x
  no : ¬ entS S' i x
  first : g = [] ∨ ∃ t, g = x :: t
  nd : g.Nodup
  out : ∀ y ∈ g, S' y = none ∧ ∃ o, S y = some o
  cnt : ∀ K K', Inv S K → Inv S' K' → K'.length + g.length = K.length
  les : Les2 S S'
theorem drop_go {w : World} {base tb mb : Nat} {F : Nat → Prop} {S : Abs} (h : HI w base tb mb F S) (i x : Int) (hi : i64 i) :
    Calls Try.prog 22 #[.pointer (some ⟨tb, 0, none⟩), .int .i64 i, .int .i64 x] w fun e w' => ∃ gv c g F' S', e = .returned (.tuple #[gv, .int .i64 c]) ∧ HI w' base tb mb F' S' ∧ Fm w w' F F' ∧ w'.ownsRow w.heap.size 3 1 gv g.length (ivs g) ∧ Goes S S' i x c g := by
  have H := h
  obtain ⟨K, D, T, h1, h2, rfl, h4⟩ := h
  have hlen := h4.len
  have hl : ∀ r, T i = some r → r.ob.ents.length < 1000000 := fun r hr => by
    have := h4.elen (k := i) (o := r.ob) (by rw [← h2 i, hr]; rfl)
    omega
  rcases entE_cases T i x with ⟨r, hr, hk, hc⟩ | hne
  · have hSi : S i = some r.ob := by rw [← h2 i, hr]; rfl
    have hxe : x ∈ r.ob.ents := by simpa using hc
    obtain ⟨p, hp⟩ := h4.ent hSi hxe
    obtain ⟨s, hs, rfl⟩ := h2.some hp
    have g := h4.ok i r.ob hSi
    have gx := h4.ok x s.ob hp
    have hup := h4.upos hSi
    have hsz := size_len h1 h2 h4
    obtain ⟨S', gg, K', hlo, hinv, hpm, hles⟩ := h4.drop hSi hxe hp
    have hix : i ≠ x := fun e => g.slf (e ▸ hxe)
    have hV : ∀ iv, V (upd T i (dropR r s x iv)) (updS S i (dropO r.ob s.ob.quota x)) := fun iv => h2.upd i _ rfl
    have hK0 : 0 < K.length := List.length_pos_of_mem ((h4.bal.mem i).2 (by rw [hSi]; rfl))
    have hfst : gg = [] ∨ ∃ t, gg = x :: t := by
      obtain ⟨n, hn⟩ : ∃ n, K.length = n + 1 := ⟨K.length - 1, by omega⟩
      rw [hn] at hlo
      exact loos_first (h4.cutBal (q := s.ob.quota) hSi hxe) (by omega) hlo
    have hKg : (K' ++ gg).Nodup := (hpm.nodup_iff).1 h4.bal.nd
    rw [List.nodup_append] at hKg
    have hgo : Goes S S' i x 0 gg := by
      refine ⟨⟨fun _ => ⟨r.ob, hSi, hk, hxe⟩, fun _ => rfl⟩, ?_, hfst, hKg.2.1, fun y hy => ⟨?_, ?_⟩, fun K1 K2 i1 i2 => ?_, fun k o' ho' => ?_⟩
      · rintro ⟨o, ho, _, hm⟩
        obtain ⟨o1, ho1, e1, _, _⟩ := hles i o ho
        rw [updS_at] at ho1
        have e2 : dropO r.ob s.ob.quota x = o1 := by simpa using ho1
        rw [e1, ← e2] at hm
        have : x ∈ without x r.ob.ents := hm
        unfold without at this
        simpa using (List.mem_filter.1 this).2
      · cases hS : S' y with
        | none => rfl
        | some u => exact absurd rfl (hKg.2.2 y ((hinv.bal.mem y).2 (by rw [hS]; rfl)) y hy)
      · have : y ∈ K := hpm.mem_iff.2 (List.mem_append_right _ hy)
        exact Option.isSome_iff_exists.1 ((h4.bal.mem y).1 this)
      · have a1 := inv_len h4 i1
        have a2 := inv_len hinv i2
        have a3 := hpm.length_eq
        rw [List.length_append] at a3
        omega
      · obtain ⟨o1, ho1, e1, l1, m1⟩ := hles k o' ho'
        by_cases e : k = i
        · subst e
          rw [updS_at] at ho1
          have e2 : dropO r.ob s.ob.quota x = o1 := by simpa using ho1
          have := gx.q
          rw [← e2] at e1 l1 m1
          refine ⟨r.ob, hSi, by rw [e1]; rfl, by rw [e1]; rfl, by rw [e1]; rfl, by rw [e1]; rfl, m1 g.l1, l1, ?_⟩
          rw [e1]
          show r.ob.used - s.ob.quota ≤ r.ob.used
          omega
        · rw [updS_ne _ _ e] at ho1
          exact ⟨o1, ho1, by rw [e1], by rw [e1], by rw [e1], by rw [e1], m1 (h4.ok k o1 ho1).l1, l1, by rw [e1]; exact Int.le_refl _⟩
    refine (Drop_ok h1 i x hi (ct_i64 gx.ct) r s hr hs hix hk hc (h2.good h4.good) (by omega) (by have := g.q; have := gx.q; have := g.le; unfold i64; omega) K.length (fun iv => ?_)).mono ?_
    · obtain ⟨T', h3, _⟩ := loosF_V K.length _ _ x [] S' gg (hV iv) hlo
      exact ⟨_, h3⟩
    · rintro e w' ⟨iv, T', gone', gv, D', a1, rfl, a3, a4, a5, a6, a7, a8⟩
      obtain ⟨T2, h3, h5⟩ := loosF_V K.length _ _ x [] S' gg (hV iv) hlo
      rw [a1] at h3
      cases h3
      exact ⟨gv, 0, _, _, _, rfl, ⟨K', D', T', a3, h5, rfl, hinv⟩, ⟨a8.os, a8.tape, a8.output, a8.size, a8.same, fun k hk => .inl (a6 k hk)⟩, a4, hgo⟩
  · refine (Drop_no h1 i x hi hl hne).mono ?_
    rintro e w' ⟨rfl, rfl⟩
    have hno : ¬ entS S i x := fun he => hne ((entE_iff h2 i x).2 he)
    exact ⟨_, _, [], _, S, rfl, H, Fm.stay (Below.refl _ _), World.ownsRow_nil _ _ _ _, ⟨⟨fun e => absurd e hne, fun e => absurd e hno⟩, hno, .inl rfl, List.nodup_nil, (fun y hy => by cases hy), (fun K1 K2 i1 i2 => by have := inv_len i1 i2; simp; omega), fun k o ho => ⟨o, ho, rfl, rfl, rfl, rfl, (h4.ok k o ho).l1, Int.le_refl _, Int.le_refl _⟩⟩⟩
end Go.Proofs.Ytlblfelfaopjiaa
