/- Plain facts: mixing two right labels level by level, as package label does it and as the reference does it, comes to one row. -/
import Derived.Test.YtnjmgholoigpkaaRmix
import Derived.Test.YtnjmgholoigpkaaLmix
namespace Go.Proofs.Ytnjmgholoigpkaa

theorem stM_fold (m : Int → Int → Int) (L : List (Int × Int × Int)) (h : ∀ x ∈ L, x.1 ≠ 0) (s : Int × List (Int × Int)) :
    L.foldl (fun s x => if (x.1 == 0) = true then (m x.2.1 x.2.2, s.2) else (s.1, s.2 ++ [(x.1, m x.2.1 x.2.2)])) s = (s.1, s.2 ++ L.map fun x => (x.1, m x.2.1 x.2.2)) := by
  induction L generalizing s with
  | nil => simp
  | cons x L ih =>
    rw [List.foldl_cons, if_neg (by simpa using h x (List.mem_cons_self ..)), ih (fun y hy => h y (List.mem_cons_of_mem _ hy))]
    simp
def mixR (m : Int → Int → Int) (da db : Int) (f : Nat) (xs ys : List (Int × Int)) : List (Int × Int) := (prs da db f xs ys).map fun x => (x.1, m x.2.1 x.2.2)
theorem least_gt {l : Int} {xs ys : List (Int × Int)} (hx : Rise l xs) (hy : Rise l ys) (hne : 0 < xs.length + ys.length) : l < leastS xs ys := by
  cases xs with
  | nil => cases ys with
    | nil => simp at hne
    | cons y ys => exact hy.1
  | cons x xs => cases ys with
    | nil => exact hx.1
    | cons y ys => have := hx.1; have := hy.1; simp only [leastS]; omega
theorem mixR_facts (m : Int → Int → Int) (da db : Int) : ∀ (f : Nat) (l : Int) (xs ys : List (Int × Int)), Rise l xs → Rise l ys → xs.length + ys.length ≤ f →
    Rise l (mixR m da db f xs ys) ∧ ∀ c, atS (m da db) (mixR m da db f xs ys) c = m (atS da xs c) (atS db ys c) := by
  intro f
  induction f with
  | zero =>
    intro l xs ys _ _ hf
    obtain rfl : xs = [] := List.eq_nil_of_length_eq_zero (by omega)
    obtain rfl : ys = [] := List.eq_nil_of_length_eq_zero (by omega)
    exact ⟨trivial, fun _ => rfl⟩
  | succ f ih =>
    intro l xs ys hx hy hf
    by_cases hne : 0 < xs.length + ys.length
    · obtain ⟨hx', hy'⟩ := least_rise hx hy hne
      obtain ⟨ex, rx, ox⟩ := tk_at (d := da) hx'
      obtain ⟨ey, ry, oy⟩ := tk_at (d := db) hy'
      have hlt := tkR_lt xs ys hne
      obtain ⟨h1, h2⟩ := ih (leastS xs ys) _ _ rx ry (by omega)
      have hp := prs_cons da db (f + 1) xs ys hne hf
      rw [Nat.add_sub_cancel] at hp
      have e : mixR m da db (f + 1) xs ys = (leastS xs ys, m (tkL da (leastS xs ys) xs) (tkL db (leastS xs ys) ys)) :: mixR m da db f (tkR (leastS xs ys) xs) (tkR (leastS xs ys) ys) := by
        unfold mixR; rw [hp]; rfl
      rw [e]
      refine ⟨⟨least_gt hx hy hne, h1⟩, fun c => ?_⟩
      simp only [atS]
      by_cases hc : leastS xs ys = c
      · rw [if_pos (by simpa using hc), ex, ey, hc]
      · rw [if_neg (by simpa using hc), h2 c, ox c (Ne.symm hc), oy c (Ne.symm hc)]
    · obtain rfl : xs = [] := List.eq_nil_of_length_eq_zero (by omega)
      obtain rfl : ys = [] := List.eq_nil_of_length_eq_zero (by omega)
      have e : mixR m da db (f + 1) [] [] = [] := by simp [mixR, prs]
      rw [e]
      exact ⟨trivial, fun _ => rfl⟩
theorem Rise.gt {l : Int} {xs : List (Int × Int)} (h : Rise l xs) : ∀ x ∈ xs, l < x.1 := by
  induction xs generalizing l with
  | nil => intro x hx; simp at hx
  | cons y xs ih =>
    intro x hx
    rcases List.mem_cons.1 hx with rfl | hx
    · exact h.1
    · have := ih h.2 x hx; have := h.1; omega
theorem at_short {d c : Int} : ∀ {l : Int} {xs : List (Int × Int)}, Rise l xs → atS d (shortS d xs) c = atS d xs c
  | _, [], _ => rfl
  | l, x :: xs, h => by
    have ih := at_short (d := d) (c := c) h.2
    unfold shortS at ih ⊢
    rw [List.filter_cons]
    by_cases hx : (x.2 != d) = true
    · rw [if_pos hx]; simp only [atS]; rw [ih]
    · rw [if_neg hx]
      have hx' : x.2 = d := by simpa using hx
      simp only [atS]
      by_cases hc : (x.1 == c) = true
      · rw [if_pos hc, hx']
        have hc' : x.1 = c := by simpa using hc
        have := at_none (d := d) (c := c) (l := x.1) (by omega) h.2
        rw [ih, this]
      · rw [if_neg hc, ih]
theorem nodef_short (d : Int) (xs : List (Int × Int)) : NoDef d (shortS d xs) := fun x hx => by
  unfold shortS at hx; simpa using (List.mem_filter.1 hx).2

/- The rising row of what is named. -/
def insR (c : Int) : List Int → List Int
  | [] => [c]
  | y :: ys => if y < c then y :: insR c ys else if y = c then y :: ys else c :: y :: ys
theorem ins_of {c : Int} {cs : List Int} {k : Nat} (h : sc c cs = k) : ins c cs = if cs[k]? = some c then cs else cs.take k ++ [c] ++ cs.drop k := by subst h; rfl
theorem ins_eq (c : Int) (cs : List Int) : ins c cs = insR c cs := by
  induction cs with
  | nil => rw [ins_of (k := 0) rfl]; simp [insR]
  | cons y ys ih =>
    rw [insR]
    by_cases h1 : y < c
    · rw [if_pos h1, ← ih, ins_of (cs := y :: ys) (k := sc c ys + 1) (by simp [sc, h1]), ins_of (cs := ys) (k := sc c ys) rfl]
      simp only [List.getElem?_cons_succ, List.take_succ_cons, List.drop_succ_cons]
      split <;> simp
    · rw [if_neg h1, ins_of (cs := y :: ys) (k := 0) (by simp [sc, h1])]
      by_cases h2 : y = c
      · simp [h2]
      · simp [h2]
theorem rise_ins {f : Int → Int} {c : Int} : ∀ {l : Int} {cs : List Int}, Rise l (rowS f cs) → l < c → Rise l (rowS f (ins c cs)) := by
  intro l cs
  rw [ins_eq]
  induction cs generalizing l with
  | nil => intro _ h; exact ⟨h, trivial⟩
  | cons y ys ih =>
    intro h hl
    simp only [insR]
    by_cases h1 : y < c
    · rw [if_pos h1]; exact ⟨h.1, ih h.2 h1⟩
    · rw [if_neg h1]
      by_cases h2 : y = c
      · rw [if_pos h2]; exact h
      · rw [if_neg h2]; exact ⟨hl, by show c < y; omega, h.2⟩
theorem rise_insAll {f : Int → Int} {l : Int} {xs : List (Int × Int)} (hx : ∀ x ∈ xs, l < x.1) : ∀ {cs : List Int}, Rise l (rowS f cs) → Rise l (rowS f (insAll xs cs)) := by
  induction xs with
  | nil => intro cs h; exact h
  | cons x xs ih =>
    intro cs h
    exact ih (fun y hy => hx y (List.mem_cons_of_mem _ hy)) (rise_ins h (hx x (List.mem_cons_self ..)))
theorem rise_named2 {f : Int → Int} {A B : Lab} (ha : Rise 0 A.xs) (hb : Rise 0 B.xs) : Rise 0 (rowS f (namedS [A, B])) :=
  rise_insAll (f := f) (xs := B.xs) hb.gt (rise_insAll (f := f) (xs := A.xs) ha.gt (cs := []) trivial)
theorem at_row {d : Int} {f : Int → Int} {c : Int} {cs : List Int} : atS d (rowS f cs) c = if c ∈ cs then f c else d := by
  induction cs with
  | nil => simp [rowS, atS]
  | cons y ys ih =>
    show (if (y == c) = true then f y else atS d (rowS f ys) c) = _
    by_cases h : y = c
    · simp [h]
    · rw [if_neg (by simpa using h), ih]; simp [Ne.symm h]

theorem mixed_at {m : Int → Int → Int} {A B : Lab} (ha : Rise 0 A.xs) (hb : Rise 0 B.xs) (c : Int) : atS (m A.d B.d) (rmixS m A B) c = m (atS A.d A.xs c) (atS B.d B.xs c) := by
  unfold rmixS
  rw [at_short (rise_named2 ha hb), at_row]
  split
  · rfl
  · next hc => rw [at_out (c := c) (xs := A.xs) (fun x hx e => hc (by rw [← e]; exact named2_left hx)), at_out (c := c) (xs := B.xs) (fun x hx e => hc (by rw [← e]; exact named2_right hx))]
theorem mixed_rise {m : Int → Int → Int} {A B : Lab} (ha : Rise 0 A.xs) (hb : Rise 0 B.xs) : Rise 0 (rmixS m A B) := Rise.filter (rise_named2 ha hb)

theorem stM_mix {m : Int → Int → Int} {da db : Int} {xs ys : List (Int × Int)} (hx : Rise 0 xs) (hy : Rise 0 ys) : stM m (allP da db xs ys) = (m da db, mixR m da db (xs.length + ys.length) xs ys) := by
  have h := (mixR_facts m da db (xs.length + ys.length) 0 xs ys hx hy (Nat.le_refl _)).1
  unfold stM allP
  rw [List.foldl_cons, if_pos (by rfl), stM_fold m _ (fun x hx => ?_)]
  · rfl
  · have := h.gt (x.1, m x.2.1 x.2.2) (List.mem_map.2 ⟨x, hx, rfl⟩)
    simp only at this; omega
theorem mix_eq {m : Int → Int → Int} {A B : Lab} (ha : Rise 0 A.xs) (hb : Rise 0 B.xs) :
    (stM m (allP A.d B.d A.xs B.xs)).1 = m A.d B.d ∧ shortS (stM m (allP A.d B.d A.xs B.xs)).1 (stM m (allP A.d B.d A.xs B.xs)).2 = rmixS m A B := by
  rw [stM_mix ha hb]
  refine ⟨rfl, ?_⟩
  obtain ⟨h1, h2⟩ := mixR_facts m A.d B.d (A.xs.length + B.xs.length) 0 A.xs B.xs ha hb (Nat.le_refl _)
  refine same_of_at (d := m A.d B.d) (l := 0) (Rise.filter h1) (mixed_rise ha hb) (nodef_short _ _) (nodef_short _ _) (fun c _ => ?_)
  rw [mixed_at ha hb]
  show atS (m A.d B.d) (shortS (m A.d B.d) (mixR m A.d B.d (A.xs.length + B.xs.length) A.xs B.xs)) c = _
  rw [at_short h1, h2]
end Go.Proofs.Ytnjmgholoigpkaa
