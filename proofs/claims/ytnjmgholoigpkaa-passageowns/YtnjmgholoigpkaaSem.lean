/- Plain facts: what is asked category by category, for right labels. -/
import Derived.Test.YtnjmgholoigpkaaPEnter
import Derived.Test.YtnjmgholoigpkaaRMk
namespace Go.Proofs.Ytnjmgholoigpkaa
open Go.RowKit Go.Sort
/-- What is used of a right label. -/
structure OkL (l : ML) : Prop where
  rise : Rise 0 l.2
  d0 : 0 ≤ l.1
  d5 : l.1 ≤ 5
  lv : ∀ x ∈ l.2, 0 ≤ x.2 ∧ x.2 ≤ 5
theorem rOk_lv {d : Int} : ∀ {l : Int} {xs : List (Int × Int)}, rOk d l xs = true → ∀ x ∈ xs, 0 ≤ x.2 ∧ x.2 ≤ 5
  | _, [], _, x, hx => by simp at hx
  | l, y :: xs, h, x, hx => by
    simp only [rOk, Bool.and_eq_true, can, lev, decide_eq_true_eq] at h
    rcases List.mem_cons.1 hx with rfl | hx
    · exact h.1.1.1.2
    · exact rOk_lv h.2 x hx
theorem okL {l : ML} (h : rightS l.1 l.2 = true) : OkL l := by
  obtain ⟨h1, h2, h3, h4, h5⟩ := right_rise h
  unfold rightS at h
  rw [Bool.and_eq_true] at h
  exact ⟨h1, h4, h5, rOk_lv h.2⟩
theorem ok_one (c : Int) (h0 : 0 ≤ c) (h5 : c ≤ 5) : OkL (c, []) := ⟨trivial, h0, h5, fun x hx => by simp at hx⟩
theorem at_or {d c : Int} : ∀ (xs : List (Int × Int)), atS d xs c = d ∨ ∃ x ∈ xs, x.1 = c ∧ atS d xs c = x.2
  | [] => .inl rfl
  | x :: xs => by
    simp only [atS]
    by_cases h : (x.1 == c) = true
    · rw [if_pos h]; exact .inr ⟨x, List.mem_cons_self .., by simpa using h, rfl⟩
    · rw [if_neg h]
      rcases at_or xs with h | ⟨y, hy, h1, h2⟩
      · exact .inl h
      · exact .inr ⟨y, List.mem_cons_of_mem _ hy, h1, h2⟩
theorem OkL.at0 {l : ML} (h : OkL l) : aM l 0 = l.1 := at_none (Int.le_refl _) h.rise
theorem OkL.lo {l : ML} (h : OkL l) (c : Int) : 0 ≤ aM l c ∧ aM l c ≤ 5 := by
  unfold aM
  rcases at_or (d := l.1) (c := c) l.2 with e | ⟨x, hx, _, e⟩
  · rw [e]; exact ⟨h.d0, h.d5⟩
  · rw [e]; exact h.lv x hx
theorem OkL.out {l : ML} (h : OkL l) {c : Int} (hc : c ∉ catL l) : aM l c = aM l 0 := by
  rw [h.at0]
  exact at_out fun x hx e => hc (by unfold catL; rw [← e]; exact List.mem_map.2 ⟨x, hx, rfl⟩)
theorem ot_rng {x : Int} (h : 0 ≤ x ∧ x ≤ 5) : 0 ≤ ot 0 5 x ∧ ot 0 5 x ≤ 5 := by
  unfold ot; split <;> omega
theorem OkL.up {l : ML} (h : OkL l) : OkL (upM l) := by
  refine ⟨Rise.up h.rise, (ot_rng ⟨h.d0, h.d5⟩).1, (ot_rng ⟨h.d0, h.d5⟩).2, fun x hx => ?_⟩
  have hx' : x ∈ turnS 0 5 l.2 := (List.mem_filter.1 hx).1
  unfold turnS at hx'
  obtain ⟨y, hy, rfl⟩ := List.mem_map.1 hx'
  exact ot_rng (h.lv y hy)
theorem rise_gt : ∀ {l : Int} {xs : List (Int × Int)}, Rise l xs → ∀ x ∈ xs, l < x.1
  | _, [], _, x, hx => by simp at hx
  | l, y :: xs, h, x, hx => by
    rcases List.mem_cons.1 hx with rfl | hx
    · exact h.1
    · exact Int.lt_trans h.1 (rise_gt h.2 x hx)
theorem at_up {d : Int} : ∀ {l : Int} {xs : List (Int × Int)}, Rise l xs → ∀ c, atS (ot 0 5 d) (shortS (ot 0 5 d) (turnS 0 5 xs)) c = ot 0 5 (atS d xs c)
  | _, [], _, c => rfl
  | l, x :: xs, h, c => by
    have ih := at_up (d := d) h.2 c
    have e : turnS 0 5 (x :: xs) = (x.1, ot 0 5 x.2) :: turnS 0 5 xs := rfl
    unfold shortS at ih ⊢
    rw [e, List.filter_cons]
    by_cases hc : (x.1 == c) = true
    · have hx : atS d (x :: xs) c = x.2 := by simp only [atS]; rw [if_pos hc]
      rw [hx]
      by_cases hd : (ot 0 5 x.2 != ot 0 5 d) = true
      · rw [if_pos (by simpa using hd)]
        simp only [atS]; rw [if_pos hc]
      · rw [if_neg (by simpa using hd)]
        have hc' : x.1 = c := by simpa using hc
        have hr : Rise x.1 (turnS 0 5 xs) := Rise.turn h.2
        have hf : Rise x.1 ((turnS 0 5 xs).filter fun x => x.2 != ot 0 5 d) := Rise.filter hr
        rw [at_none (by omega) hf]
        have hd' : ot 0 5 x.2 = ot 0 5 d := by simpa using hd
        exact hd'.symm
    · have hx : atS d (x :: xs) c = atS d xs c := by simp only [atS]; rw [if_neg hc]
      rw [hx, ← ih]
      by_cases hd : (ot 0 5 x.2 != ot 0 5 d) = true
      · rw [if_pos (by simpa using hd)]
        simp only [atS]; rw [if_neg hc]
      · rw [if_neg (by simpa using hd)]
theorem aM_up {l : ML} (h : OkL l) (c : Int) : aM (upM l) c = ot 0 5 (aM l c) := at_up h.rise c
theorem cat_up {l : ML} {c : Int} (h : c ∈ catL (upM l)) : c ∈ catL l := by
  unfold catL upM upS shortS turnS at *
  obtain ⟨x, hx, rfl⟩ := List.mem_map.1 h
  obtain ⟨y, hy, rfl⟩ := List.mem_map.1 (List.mem_filter.1 hx).1
  exact List.mem_map.2 ⟨y, hy, rfl⟩
/- The greatest level. -/
theorem gr1 {l : ML} (h : OkL l) (c : Int) : gr [l] c = aM l c := by
  have := (h.lo c).1
  show max 0 (aM l c) = _
  omega
theorem gr2 {a b : ML} (h : OkL a) (c : Int) : gr [a, b] c = max (aM a c) (aM b c) := by
  have := (h.lo c).1
  show max (max 0 (aM a c)) (aM b c) = _
  omega
theorem namL_mem {ls : List ML} {l : ML} {c : Int} (hl : l ∈ ls) (h : c ∉ namL ls) : c ∉ catL l := fun hc => h (List.mem_flatMap.2 ⟨l, hl, hc⟩)
theorem und_iff {F F' : Int → Int} {cs : List Int} (h : ∀ c, c ∉ cs → F c = F 0 ∧ F' c = F' 0) : undB F F' cs = true ↔ ∀ c, F c ≤ F' c := by
  unfold undB
  simp only [Bool.and_eq_true, Bool.not_eq_true', decide_eq_false_iff_not, List.any_eq_false, decide_eq_true_eq]
  constructor
  · rintro ⟨h0, h1⟩ c
    by_cases hc : c ∈ cs
    · have := h1 c hc; omega
    · have := h c hc; omega
  · intro hh
    exact ⟨by have := hh 0; omega, fun c _ => by have := hh c; omega⟩
theorem atM1_iff {l a : ML} (hl : OkL l) (ha : OkL a) : atMB l [a] = true ↔ ∀ c, aM l c ≤ aM a c := by
  unfold atMB
  rw [und_iff (fun c hc => ?_)]
  · constructor
    · intro h c; have := h c; rw [gr1 hl, gr1 ha] at this; exact this
    · intro h c; rw [gr1 hl, gr1 ha]; exact h c
  · rw [List.mem_append, not_or] at hc
    rw [gr1 hl, gr1 hl, gr1 ha, gr1 ha]
    exact ⟨hl.out (namL_mem (List.mem_cons_self ..) hc.1), ha.out (namL_mem (List.mem_cons_self ..) hc.2)⟩
theorem atM2_iff {l a b : ML} (hl : OkL l) (ha : OkL a) (hb : OkL b) : atMB l [a, b] = true ↔ ∀ c, aM l c ≤ max (aM a c) (aM b c) := by
  unfold atMB
  rw [und_iff (fun c hc => ?_)]
  · constructor
    · intro h c; have := h c; rw [gr1 hl, gr2 ha] at this; exact this
    · intro h c; rw [gr1 hl, gr2 ha]; exact h c
  · rw [List.mem_append, not_or] at hc
    rw [gr1 hl, gr1 hl, gr2 ha, gr2 ha]
    rw [ha.out (namL_mem (List.mem_cons_self ..) hc.2), hb.out (namL_mem (List.mem_cons_of_mem _ (List.mem_cons_self ..)) hc.2)]
    exact ⟨hl.out (namL_mem (List.mem_cons_self ..) hc.1), rfl⟩
theorem fl_at {t g : ML} (ht : OkL t) (hg : OkL g) (c : Int) : fl t g c = flo (max (ot 0 5 (aM t c)) (ot 0 5 (aM g c))) := by
  unfold fl
  rw [gr2 ht.up, aM_up ht, aM_up hg]
theorem undF_iff {t g a : ML} (ht : OkL t) (hg : OkL g) (ha : OkL a) : undB (fl t g) (gr [a]) (namL [t, g, a]) = true ↔ ∀ c, flo (max (ot 0 5 (aM t c)) (ot 0 5 (aM g c))) ≤ aM a c := by
  rw [und_iff (fun c hc => ?_)]
  · constructor
    · intro h c; have := h c; rw [fl_at ht hg, gr1 ha] at this; exact this
    · intro h c; rw [fl_at ht hg, gr1 ha]; exact h c
  · rw [fl_at ht hg, fl_at ht hg, gr1 ha, gr1 ha]
    have m1 : t ∈ [t, g, a] := List.mem_cons_self ..
    have m2 : g ∈ [t, g, a] := List.mem_cons_of_mem _ (List.mem_cons_self ..)
    have m3 : a ∈ [t, g, a] := List.mem_cons_of_mem _ (List.mem_cons_of_mem _ (List.mem_cons_self ..))
    rw [ht.out (namL_mem m1 hc), hg.out (namL_mem m2 hc), ha.out (namL_mem m3 hc)]
    exact ⟨rfl, rfl⟩
/- The reference. -/
theorem rle_iff {a b : ML} (ha : OkL a) (hb : OkL b) : rleM a b = true ↔ ∀ c, aM a c ≤ aM b c := by
  unfold rleM
  rw [rleq_eq (A := ⟨a.1, none, 0, a.2⟩) (B := ⟨b.1, none, 0, b.2⟩) ha.rise hb.rise]
  exact leq_iff ha.rise hb.rise
theorem ralt_eq {a b : ML} (ha : OkL a) (hb : OkL b) : raltM a b = altersS a.1 b.1 a.2 b.2 := ralters_eq (A := ⟨a.1, none, 0, a.2⟩) (B := ⟨b.1, none, 0, b.2⟩) ha.rise hb.rise
theorem alt_iff {t o : ML} (ht : OkL t) (ho : OkL o) : altersS t.1 o.1 t.2 o.2 = true ↔ ∀ c, aM t c ≤ aM o c ∧ aM o c ≤ ot 0 5 (aM t c) := by
  unfold altersS seesS
  rw [Bool.and_eq_true, leq_iff ht.rise ho.rise, leq_iff ho.rise (Rise.up ht.rise)]
  constructor
  · rintro ⟨h1, h2⟩ c
    exact ⟨h1 c, by rw [← aM_up ht]; exact h2 c⟩
  · intro h
    exact ⟨fun c => (h c).1, fun c => by have := (h c).2; rw [← aM_up ht] at this; exact this⟩
theorem aZ_at {l : ML} (h : OkL l) (c : Int) : aZ l c = aM l c := by
  unfold aZ
  split
  · next e => rw [e, h.at0]
  · rfl
theorem fold_old {z : Int} : ∀ (ls : List ML) {cs : List Int}, z ∈ cs → z ∈ ls.foldl (fun out l => insAll l.2 out) cs
  | [], _, h => h
  | l :: ls, _, h => fold_old ls (insAll_old l.2 h)
theorem fold_new {l : ML} {c : Int} (hc : c ∈ catL l) : ∀ (ls : List ML) (cs : List Int), l ∈ ls → c ∈ ls.foldl (fun out l => insAll l.2 out) cs
  | m :: ls, cs, hl => by
    rcases List.mem_cons.1 hl with rfl | hl
    · unfold catL at hc
      obtain ⟨x, hx, rfl⟩ := List.mem_map.1 hc
      exact fold_old ls (insAll_new _ hx)
    · exact fold_new hc ls _ hl
theorem nm_mem {ls : List ML} {l : ML} {c : Int} (hl : l ∈ ls) (h : c ∉ nmM ls) : c ∉ catL l := fun hc => h (fold_new hc ls [] hl)
theorem all0_iff {P : Int → Bool} {cs : List Int} (h : ∀ c, c ∉ cs → P c = P 0) : (cs ++ [0]).all P = true ↔ ∀ c, P c = true := by
  rw [List.all_append, Bool.and_eq_true]
  simp only [List.all_eq_true, List.mem_singleton, forall_eq]
  constructor
  · rintro ⟨h1, h2⟩ c
    by_cases hc : c ∈ cs
    · exact h1 c hc
    · rw [h c hc]; exact h2
  · intro hh; exact ⟨fun c _ => hh c, hh 0⟩
theorem bel_iff {l a b : ML} (hl : OkL l) (ha : OkL a) (hb : OkL b) : belM l a b = true ↔ ∀ c, aM l c ≤ max (aM a c) (aM b c) := by
  have e : ∀ c, belP l a b c = decide (aM l c ≤ max (aM a c) (aM b c)) := fun c => by
    unfold belP
    rw [aZ_at hl, aZ_at ha, aZ_at hb, Bool.eq_iff_iff]
    simp only [Bool.not_eq_true', decide_eq_false_iff_not, decide_eq_true_eq]
    omega
  unfold belM
  rw [all0_iff (fun c hc => ?_)]
  · constructor
    · intro h c; have := h c; rw [e] at this; simpa using this
    · intro h c; rw [e]; simpa using h c
  · rw [e, e]
    have m1 : l ∈ [l, a, b] := List.mem_cons_self ..
    have m2 : a ∈ [l, a, b] := List.mem_cons_of_mem _ (List.mem_cons_self ..)
    have m3 : b ∈ [l, a, b] := List.mem_cons_of_mem _ (List.mem_cons_of_mem _ (List.mem_cons_self ..))
    rw [hl.out (nm_mem m1 hc), ha.out (nm_mem m2 hc), hb.out (nm_mem m3 hc)]
theorem eq1 {l a : ML} (hl : OkL l) (ha : OkL a) : atMB l [a] = rleM l a := by rw [Bool.eq_iff_iff, atM1_iff hl ha, rle_iff hl ha]
theorem eq2 {l a b : ML} (hl : OkL l) (ha : OkL a) (hb : OkL b) : atMB l [a, b] = belM l a b := by rw [Bool.eq_iff_iff, atM2_iff hl ha hb, bel_iff hl ha hb]
theorem allow_say2 (a b : Bool) : allowI [a, b] = sayI (a && b) := by cases a <;> cases b <;> rfl
theorem allow_say3 (a b c : Bool) : allowI [a, b, c] = sayI ((a && b) && c) := by cases a <;> cases b <;> cases c <;> rfl
theorem allow_say4 (a b c d : Bool) : allowI [a, b, c, d] = sayI (((a && b) && c) && d) := by cases a <;> cases b <;> cases c <;> cases d <;> rfl
theorem make_eq {t c box l : ML} (ht : OkL t) (hc : OkL c) (hb : OkL box) (hl : OkL l) : makeI t c box l = rmakeI t c box l := by
  unfold makeI rmakeI
  rw [allow_say4, ralt_eq ht hb, eq1 ht hl, eq1 hl hc, eq2 hb hl.up (ok_one 2 (by decide) (by decide))]
theorem rise_eq {t c want : ML} (ht : OkL t) (hc : OkL c) (hw : OkL want) : riseI t c want = rriseI t c want := by
  unfold riseI rriseI
  rw [allow_say2, eq1 ht hw, eq1 hw hc]
theorem clear_eq {t c want : ML} (ht : OkL t) (hc : OkL c) (hw : OkL want) : clearI t c want = rclearI t c want := by
  unfold clearI rclearI
  rw [allow_say2, eq1 ht hw, eq2 hw hc ht.up]
theorem lend_eq {t c l m : ML} (ht : OkL t) (hc : OkL c) (hl : OkL l) (hm : OkL m) : lendI t c l m = rlendI t c l m := by
  unfold lendI rlendI
  rw [allow_say3, eq1 ht hl, eq1 hl hm, eq1 hm hc]
end Go.Proofs.Ytnjmgholoigpkaa
