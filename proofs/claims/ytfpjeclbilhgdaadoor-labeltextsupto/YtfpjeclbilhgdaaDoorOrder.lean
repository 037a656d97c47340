/- Plain facts on labels as lists: comparing right labels is comparing their levels at every category, and is an order. -/
import Derived.Test.YtfpjeclbilhgdaaDoorLeq
namespace Go.Proofs.YtfpjeclbilhgdaaDoor

def Rise : Int → List (Int × Int) → Prop
  | _, [] => True
  | l, x :: xs => l < x.1 ∧ Rise x.1 xs
theorem Rise.mono {l l' : Int} (h : l' ≤ l) : ∀ {xs : List (Int × Int)}, Rise l xs → Rise l' xs
  | [], _ => trivial
  | _ :: _, h1 => ⟨Int.lt_of_le_of_lt h h1.1, h1.2⟩
theorem at_none {d l c : Int} (hc : c ≤ l) : ∀ {xs : List (Int × Int)}, Rise l xs → atS d xs c = d
  | [], _ => rfl
  | x :: xs, h => by
    have h1 := h.1
    have : ¬ (x.1 == c) = true := by simp; omega
    simp only [atS]; rw [if_neg this]
    exact at_none (l := x.1) (by omega) h.2
theorem tk_at {d c : Int} {xs : List (Int × Int)} (h : Rise (c - 1) xs) : tkL d c xs = atS d xs c ∧ Rise c (tkR c xs) ∧ ∀ c', c' ≠ c → atS d (tkR c xs) c' = atS d xs c' := by
  cases xs with
  | nil => exact ⟨rfl, trivial, fun _ _ => rfl⟩
  | cons x xs =>
    have h1 := h.1
    by_cases hx : (x.1 == c) = true
    · have e : x.1 = c := by simpa using hx
      refine ⟨?_, ?_, fun c' hc => ?_⟩
      · simp only [tkL, atS]; rw [if_pos hx, if_pos hx]
      · simp only [tkR]; rw [if_pos hx, ← e]; exact h.2
      · simp only [tkR, atS]; rw [if_pos hx, if_neg (by simp; omega)]
    · have e : x.1 ≠ c := by simpa using hx
      refine ⟨?_, ?_, fun c' _ => ?_⟩
      · simp only [tkL, atS]; rw [if_neg hx, if_neg hx, at_none (l := x.1) (by omega) h.2]
      · simp only [tkR]; rw [if_neg hx]; exact ⟨by omega, h.2⟩
      · simp only [tkR]; rw [if_neg hx]
theorem least_rise {l : Int} {xs ys : List (Int × Int)} (hx : Rise l xs) (hy : Rise l ys) (hne : 0 < xs.length + ys.length) : Rise (leastS xs ys - 1) xs ∧ Rise (leastS xs ys - 1) ys := by
  cases xs with
  | nil => cases ys with
    | nil => simp at hne
    | cons y ys => exact ⟨trivial, ⟨by simp only [leastS]; omega, hy.2⟩⟩
  | cons x xs => cases ys with
    | nil => exact ⟨⟨by simp only [leastS]; omega, hx.2⟩, trivial⟩
    | cons y ys => exact ⟨⟨by simp only [leastS]; omega, hx.2⟩, ⟨by simp only [leastS]; omega, hy.2⟩⟩

theorem prs_iff {da db : Int} (hd : da ≤ db) : ∀ (f : Nat) (l : Int) (xs ys : List (Int × Int)), Rise l xs → Rise l ys → xs.length + ys.length ≤ f → (AllLe (prs da db f xs ys) ↔ ∀ c, atS da xs c ≤ atS db ys c) := by
  intro f
  induction f with
  | zero =>
    intro l xs ys _ _ hf
    obtain rfl : xs = [] := List.eq_nil_of_length_eq_zero (by omega)
    obtain rfl : ys = [] := List.eq_nil_of_length_eq_zero (by omega)
    exact ⟨fun _ _ => hd, fun _ x hx => by simp [prs] at hx⟩
  | succ f ih =>
    intro l xs ys hx hy hf
    by_cases hne : 0 < xs.length + ys.length
    · obtain ⟨hx', hy'⟩ := least_rise hx hy hne
      obtain ⟨ex, rx, ox⟩ := tk_at (d := da) hx'
      obtain ⟨ey, ry, oy⟩ := tk_at (d := db) hy'
      have hlt := tkR_lt xs ys hne
      have hI := ih (leastS xs ys) _ _ rx ry (by omega)
      have hp := prs_cons da db (f + 1) xs ys hne hf
      rw [Nat.add_sub_cancel] at hp
      rw [hp]
      constructor
      · intro h c
        by_cases hc : c = leastS xs ys
        · subst hc
          have := h _ (List.mem_cons_self ..)
          simp only at this
          rwa [ex, ey] at this
        · have := hI.1 (fun x hx => h x (List.mem_cons_of_mem _ hx)) c
          rwa [ox c hc, oy c hc] at this
      · intro h x hxm
        rcases List.mem_cons.1 hxm with rfl | hxm
        · simp only; rw [ex, ey]; exact h _
        · refine hI.2 (fun c => ?_) x hxm
          by_cases hc : c = leastS xs ys
          · subst hc; rw [at_none (Int.le_refl _) rx, at_none (Int.le_refl _) ry]; exact hd
          · rw [ox c hc, oy c hc]; exact h c
    · obtain rfl : xs = [] := List.eq_nil_of_length_eq_zero (by omega)
      obtain rfl : ys = [] := List.eq_nil_of_length_eq_zero (by omega)
      exact ⟨fun _ _ => hd, fun _ x hx => by simp [prs] at hx⟩

theorem leq_iff {da db : Int} {xs ys : List (Int × Int)} (hx : Rise 0 xs) (hy : Rise 0 ys) : leqS da db xs ys = true ↔ ∀ c, atS da xs c ≤ atS db ys c := by
  have e : leqS da db xs ys = true ↔ (da ≤ db ∧ AllLe (prs da db (xs.length + ys.length) xs ys)) := by
    unfold leqS allP
    rw [List.all_cons, Bool.and_eq_true, List.all_eq_true]
    simp [AllLe]
  rw [e]
  constructor
  · rintro ⟨hd, h⟩
    exact (prs_iff hd _ 0 xs ys hx hy (Nat.le_refl _)).1 h
  · intro h
    have hd : da ≤ db := by
      have := h 0
      rwa [at_none (Int.le_refl _) hx, at_none (Int.le_refl _) hy] at this
    exact ⟨hd, (prs_iff hd _ 0 xs ys hx hy (Nat.le_refl _)).2 h⟩

def NoDef (d : Int) (xs : List (Int × Int)) : Prop := ∀ x ∈ xs, x.2 ≠ d
theorem same_of_at {d : Int} : ∀ {l : Int} {xs ys : List (Int × Int)}, Rise l xs → Rise l ys → NoDef d xs → NoDef d ys → (∀ c, l < c → atS d xs c = atS d ys c) → xs = ys := by
  intro l xs
  induction xs generalizing l with
  | nil =>
    intro ys _ hy _ ny h
    cases ys with
    | nil => rfl
    | cons y ys =>
      have h1 := h y.1 hy.1
      simp only [atS, beq_self_eq_true, if_true] at h1
      exact absurd h1.symm (ny y (List.mem_cons_self ..))
  | cons x xs ih =>
    intro ys hx hy nx ny h
    cases ys with
    | nil =>
      have h1 := h x.1 hx.1
      simp only [atS, beq_self_eq_true, if_true] at h1
      exact absurd h1 (nx x (List.mem_cons_self ..))
    | cons y ys =>
      have hxy : x.1 = y.1 := by
        rcases Int.lt_trichotomy x.1 y.1 with hlt | he | hgt
        · have h1 := h x.1 hx.1
          rw [at_none (l := y.1 - 1) (by omega) (show Rise (y.1 - 1) (y :: ys) from ⟨by omega, hy.2⟩)] at h1
          simp only [atS, beq_self_eq_true, if_true] at h1
          exact absurd h1 (nx x (List.mem_cons_self ..))
        · exact he
        · have h1 := h y.1 hy.1
          rw [at_none (l := x.1 - 1) (by omega) (show Rise (x.1 - 1) (x :: xs) from ⟨by omega, hx.2⟩)] at h1
          simp only [atS, beq_self_eq_true, if_true] at h1
          exact absurd h1.symm (ny y (List.mem_cons_self ..))
      have h2 := h x.1 hx.1
      simp only [atS, beq_self_eq_true, if_true] at h2
      rw [if_pos (by simp [hxy])] at h2
      have ht := ih hx.2 (by rw [hxy]; exact hy.2) (fun z hz => nx z (List.mem_cons_of_mem _ hz)) (fun z hz => ny z (List.mem_cons_of_mem _ hz)) (fun c hc => by
        have h3 := h c (by have := hx.1; omega)
        simp only [atS] at h3
        rwa [if_neg (by simp; omega), if_neg (by simp; omega)] at h3)
      rw [ht, show x = y from Prod.ext hxy h2]

theorem rOk_rise {d : Int} : ∀ {l : Int} {xs : List (Int × Int)}, rOk d l xs = true → Rise l xs ∧ NoDef d xs
  | _, [], _ => ⟨trivial, fun x hx => by simp at hx⟩
  | l, x :: xs, h => by
    simp only [rOk, Bool.and_eq_true, Bool.not_eq_true', decide_eq_false_iff_not, beq_eq_false_iff_ne] at h
    obtain ⟨⟨⟨_, h2⟩, h3⟩, h4⟩ := h
    obtain ⟨r, n⟩ := rOk_rise h4
    exact ⟨⟨by omega, r⟩, fun y hy => by rcases List.mem_cons.1 hy with rfl | hy; exact h2; exact n y hy⟩
theorem right_rise {d : Int} {xs : List (Int × Int)} (h : rightS d xs = true) : Rise 0 xs ∧ NoDef d xs ∧ xs.length ≤ 16 ∧ 0 ≤ d ∧ d ≤ 5 := by
  simp only [rightS, Bool.and_eq_true, decide_eq_true_eq, lev] at h
  obtain ⟨⟨⟨h0, h1⟩, h2⟩, h3⟩ := h
  obtain ⟨r, n⟩ := rOk_rise h3
  exact ⟨r, n, h2, h0, h1⟩

def sameS (da db : Int) (xs ys : List (Int × Int)) : Bool := decide (da = db) && decide (xs = ys)
theorem leq_refl {d : Int} {xs : List (Int × Int)} (h : rightS d xs = true) : leqS d d xs xs = true :=
  (leq_iff (right_rise h).1 (right_rise h).1).2 fun _ => Int.le_refl _
theorem leq_trans {da db dc : Int} {xs ys zs : List (Int × Int)} (ha : rightS da xs = true) (hb : rightS db ys = true) (hc : rightS dc zs = true) (h1 : leqS da db xs ys = true) (h2 : leqS db dc ys zs = true) : leqS da dc xs zs = true := by
  rw [leq_iff (right_rise ha).1 (right_rise hb).1] at h1
  rw [leq_iff (right_rise hb).1 (right_rise hc).1] at h2
  exact (leq_iff (right_rise ha).1 (right_rise hc).1).2 fun c => Int.le_trans (h1 c) (h2 c)
theorem leq_anti {da db : Int} {xs ys : List (Int × Int)} (ha : rightS da xs = true) (hb : rightS db ys = true) (h1 : leqS da db xs ys = true) : leqS db da ys xs = sameS da db xs ys := by
  obtain ⟨rx, nx, _⟩ := right_rise ha
  obtain ⟨ry, ny, _⟩ := right_rise hb
  rw [Bool.eq_iff_iff]
  constructor
  · intro h2
    rw [leq_iff rx ry] at h1
    rw [leq_iff ry rx] at h2
    have he : ∀ c, atS da xs c = atS db ys c := fun c => Int.le_antisymm (h1 c) (h2 c)
    have hd : da = db := by
      have := he 0
      rwa [at_none (Int.le_refl _) rx, at_none (Int.le_refl _) ry] at this
    subst hd
    have := same_of_at rx ry nx ny (fun c _ => he c)
    simp [sameS, this]
  · intro hs
    simp only [sameS, Bool.and_eq_true, decide_eq_true_eq] at hs
    obtain ⟨rfl, rfl⟩ := hs
    exact leq_refl ha
end Go.Proofs.YtfpjeclbilhgdaaDoor
