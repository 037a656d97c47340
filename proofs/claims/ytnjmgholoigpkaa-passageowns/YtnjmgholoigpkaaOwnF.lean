/- Own and Floor: both ways come to the same. -/
import Derived.Test.YtnjmgholoigpkaaOwnR
import Derived.Test.YtnjmgholoigpkaaRFlr
namespace Go.Proofs.Ytnjmgholoigpkaa
open Go.RowKit Go.Sort
theorem nmB_iff {l : ML} {cat : Int} : nmB l cat = true ↔ cat ∈ catL l := by
  unfold nmB namL
  rw [List.any_eq_true]
  constructor
  · rintro ⟨x, hx, he⟩
    have hx' : x ∈ catL l := by simpa using hx
    have : cat = x := by simpa using he
    rw [this]; exact hx'
  · intro h
    exact ⟨cat, by simpa using h, by simp⟩
theorem ins_mem {c z : Int} {cs : List Int} (h : z ∈ ins c cs) : z = c ∨ z ∈ cs := by
  unfold ins at h
  split at h
  · exact .inr h
  · rw [List.append_assoc, List.mem_append] at h
    rcases h with h | h
    · exact .inr (List.mem_of_mem_take h)
    · rcases List.mem_append.1 h with h | h
      · exact .inl (List.mem_singleton.1 h)
      · exact .inr (List.mem_of_mem_drop h)
theorem insAll_mem {z : Int} : ∀ (xs : List (Int × Int)) {cs : List Int}, z ∈ insAll xs cs → z ∈ xs.map (·.1) ∨ z ∈ cs
  | [], _, h => .inr h
  | x :: xs, cs, h => by
    have h' : z ∈ insAll xs (ins x.1 cs) := h
    rcases insAll_mem xs h' with h1 | h1
    · exact .inl (List.mem_cons_of_mem _ h1)
    · rcases ins_mem h1 with h2 | h2
      · exact .inl (by rw [h2]; exact List.mem_cons_self ..)
      · exact .inr h2
theorem nm2_mem {a b : ML} {z : Int} : z ∈ nmM [a, b] ↔ z ∈ catL a ∨ z ∈ catL b := by
  constructor
  · intro h
    have h' : z ∈ insAll b.2 (insAll a.2 []) := h
    rcases insAll_mem _ h' with h1 | h1
    · exact .inr h1
    · rcases insAll_mem _ h1 with h2 | h2
      · exact .inl h2
      · simp at h2
  · intro h
    apply Classical.byContradiction
    intro hn
    have m1 : a ∈ [a, b] := List.mem_cons_self ..
    have m2 : b ∈ [a, b] := List.mem_cons_of_mem _ (List.mem_cons_self ..)
    rcases h with h | h
    · exact nm_mem m1 hn h
    · exact nm_mem m2 hn h
theorem nm2_any {a b : ML} {cat : Int} : ((nmM [a, b]).any fun y => y == cat) = true ↔ nmB a cat = true ∨ nmB b cat = true := by
  rw [nmB_iff, nmB_iff, ← nm2_mem, List.any_eq_true]
  constructor
  · rintro ⟨x, hx, he⟩
    have : x = cat := by simpa using he
    rw [← this]; exact hx
  · intro h; exact ⟨cat, h, by simp⟩
theorem cat_can {l : ML} (h : rightM l = true) {c : Int} (hc : c ∈ catL l) : isCt c = true := by
  unfold catL at hc
  obtain ⟨y, hy, rfl⟩ := List.mem_map.1 hc
  have := right_can h y hy
  unfold can at this
  rw [Bool.and_eq_true] at this
  exact this.1
theorem wX_no {l : ML} {cat lv : Int} (h : isCt cat = false) : wX l cat lv = 1 := by
  unfold wX wE wOk can
  rw [h]; rfl
theorem wX_yes {l : ML} {cat lv : Int} (h : isCt cat = true) (hl : lev lv = true) : wX l cat lv = 0 ∨ wX l cat lv = 7 := by
  unfold wX wE wOk can
  rw [h, hl]
  simp only [Bool.and_self, if_true]
  unfold fitE
  split
  · exact .inl rfl
  · exact .inr rfl
theorem own_eq {t c : ML} (rt : rightM t = true) (rc : rightM c = true) (cat : Int) : ownM t c cat = rownM t c cat := by
  unfold ownM rownM
  by_cases hct : isCt cat = true
  · rw [if_pos hct]
    by_cases h1 : nmB t cat = true
    · rw [if_pos h1, if_pos (nm2_any.2 (.inl h1))]
    · rw [if_neg h1]
      by_cases h2 : nmB c cat = true
      · rw [if_pos h2, if_pos (nm2_any.2 (.inr h2))]
      · rw [if_neg h2, if_neg (fun h => (nm2_any.1 h).elim h1 h2)]
        rcases wX_yes (l := t) (lv := 0) hct (by decide) with e1 | e1
        · rw [e1]
          rcases wX_yes (l := c) (lv := 4) hct (by decide) with e2 | e2
          · rw [e2]; rfl
          · rw [e2]; rfl
        · rw [e1]; rfl
  · have hf : isCt cat = false := by simpa using hct
    rw [if_neg hct]
    have h1 : ¬ nmB t cat = true := fun h => by rw [cat_can rt (nmB_iff.1 h)] at hf; cases hf
    have h2 : ¬ nmB c cat = true := fun h => by rw [cat_can rc (nmB_iff.1 h)] at hf; cases hf
    rw [if_neg h1, if_neg h2, wX_no hf]; rfl
/- Floor. -/
theorem fl_flZ {t g : ML} (ht : OkL t) (hg : OkL g) (c : Int) : fl t g c = flZ t g c := by rw [fl_at ht hg, flZ_eq ht hg]
theorem fU_rng {t g : ML} (ht : OkL t) (hg : OkL g) (c : Int) : 1 ≤ fU t g c ∧ fU t g c ≤ 5 := by
  unfold fU
  rw [aZ_at ht.up, aZ_at hg.up, aM_up ht, aM_up hg]
  have h1 := ht.lo c
  have h2 := hg.lo c
  unfold ot
  split <;> split <;> simp_all <;> omega
theorem flZ_fU {t g : ML} (ht : OkL t) (hg : OkL g) (c : Int) : flZ t g c = flo (fU t g c) := by
  rw [flZ_eq ht hg]
  unfold fU
  rw [aZ_at ht.up, aZ_at hg.up, aM_up ht, aM_up hg]
theorem flo_inj {x y : Int} (hx : 1 ≤ x ∧ x ≤ 5) (hy : 1 ≤ y ∧ y ≤ 5) : (flo x != flo y) = (x != y) := by
  have hx' : x = 1 ∨ x = 2 ∨ x = 3 ∨ x = 4 ∨ x = 5 := by omega
  have hy' : y = 1 ∨ y = 2 ∨ y = 3 ∨ y = 4 ∨ y = 5 := by omega
  rcases hx' with rfl | rfl | rfl | rfl | rfl <;> rcases hy' with rfl | rfl | rfl | rfl | rfl <;> decide
theorem short_len {f h : Int → Int} {d e : Int} (hq : ∀ c, (f c != d) = (h c != e)) : ∀ cs : List Int, (shortS d (rowS f cs)).length = (shortS e (rowS h cs)).length
  | [] => rfl
  | c :: cs => by
    have ih := short_len hq cs
    unfold shortS rowS at ih ⊢
    rw [List.map_cons, List.map_cons, List.filter_cons, List.filter_cons]
    simp only [hq c]
    split
    · simp only [List.length_cons]; rw [ih]
    · exact ih
theorem up_ou {t g : ML} (ht : OkL t) (hg : OkL g) (cs : List Int) : (ouR t g cs).length = (upR t g cs).length := by
  unfold ouR upR
  exact short_len (fun c => by rw [flZ_fU ht hg, flZ_fU ht hg]; exact flo_inj (fU_rng ht hg c) (fU_rng ht hg 0)) cs
theorem fold_map (f : Int → Int) : ∀ (cs out : List Int), insAll (rowS f cs) out = cs.foldl (fun o c => ins c o) out
  | [], _ => rfl
  | c :: cs, out => fold_map f cs (ins c out)
theorem insAll_cats : ∀ (xs : List (Int × Int)) (out : List Int), insAll xs out = (xs.map (·.1)).foldl (fun o c => ins c o) out
  | [], _ => rfl
  | x :: xs, out => insAll_cats xs (ins x.1 out)
theorem named_row (d : Int) (f : Int → Int) (t g : ML) : namedS [allLab d (rowS f (namL [t, g]))] = nmM [t, g] := by
  show insAll (rowS f (namL [t, g])) [] = insAll g.2 (insAll t.2 [])
  rw [fold_map, insAll_cats t.2, insAll_cats g.2, ← List.foldl_append]
  congr 1
  simp [namL, catL]
theorem row_at {d : Int} {f : Int → Int} {cs : List Int} {c : Int} (hc : c ∈ cs) : atS d (rowS f cs) c = f c := by
  obtain ⟨y, hy, h1, h2⟩ := at_first (d := d) (c := c) (xs := rowS f cs) ⟨(c, f c), List.mem_map.2 ⟨c, hc, rfl⟩, rfl⟩
  rw [h2]
  unfold rowS at hy
  obtain ⟨z, _, rfl⟩ := List.mem_map.1 hy
  simp only at h1
  rw [h1]
theorem no_clash (f : Int → Int) (cs : List Int) : ¬ clT (rowS f cs) (rowS f cs).length = true := by
  rw [clT_clash]
  rintro ⟨x, hx, y, hy, h1, h2⟩
  unfold rowS at hx hy
  obtain ⟨a, _, rfl⟩ := List.mem_map.1 hx
  obtain ⟨b, _, rfl⟩ := List.mem_map.1 hy
  simp only at h1 h2
  rw [h1] at h2
  exact h2 rfl
theorem make_row {t g : ML} (rt : rightM t = true) (rg : rightM g = true) : rmakeS (fl t g 0) (flX t g (namL [t, g])) = ouR t g (nmM [t, g]) := by
  have ht := okL rt
  have hg := okL rg
  unfold rmakeS flX ouR
  rw [named_row, fl_flZ ht hg]
  congr 1
  unfold rowS
  apply List.map_congr_left
  intro c hc
  have hcn : c ∈ namL [t, g] := by
    rcases nm2_mem.1 hc with h | h
    · exact List.mem_flatMap.2 ⟨t, List.mem_cons_self .., h⟩
    · exact List.mem_flatMap.2 ⟨g, List.mem_cons_of_mem _ (List.mem_cons_self ..), h⟩
  have e := row_at (d := flZ t g 0) (f := fl t g) hcn
  unfold rowS at e
  rw [e, fl_flZ ht hg]
theorem floor_eq {t g : ML} (rt : rightM t = true) (rg : rightM g = true) : floM t g = rfloM t g ∧ floE t g = rfloE t g := by
  have ht := okL rt
  have hg := okL rg
  have hcan := fl_can rt rg
  have hcl : ¬ clT (flX t g (namL [t, g])) (flX t g (namL [t, g])).length = true := no_clash _ _
  have hcan' : ¬ ((flX t g (namL [t, g])).any fun x => !can x) = true := by rw [hcan]; decide
  have hm := make_row rt rg
  have hl := up_ou ht hg (nmM [t, g])
  unfold floM floE rfloM rfloE rkD rkL rkE
  rw [if_neg hcan', if_neg hcan', if_neg hcan', if_neg hcl, if_neg hcl, if_neg hcl, hm]
  unfold fitD fitL fitE
  rw [← hl, fl_flZ ht hg]
  constructor
  · split <;> rfl
  · rfl
end Go.Proofs.Ytnjmgholoigpkaa
