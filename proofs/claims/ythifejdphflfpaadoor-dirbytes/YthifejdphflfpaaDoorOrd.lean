/- The order of names. -/
import Derived.Test.YthifejdphflfpaaDoorName
namespace Go.Proofs.YthifejdphflfpaaDoor
open Go.RowKit Go.Sort
/-- Does the first name stand ahead of the second? -/
def ltB (a b : ByteArray) : Bool := Op.bytesLess a.toList b.toList
theorem bl_irr : ∀ x : List UInt8, Op.bytesLess x x = false
  | [] => rfl
  | a :: x => by simp [Op.bytesLess, bl_irr x]
theorem bl_trans : ∀ x y z : List UInt8, Op.bytesLess x y = true → Op.bytesLess y z = true → Op.bytesLess x z = true
  | [], [], _, h, _ => by cases h
  | _ :: _, [], _, h, _ => by cases h
  | _, _ :: _, [], _, h => by simp [Op.bytesLess] at h
  | [], _ :: _, _ :: _, _, _ => rfl
  | a :: x, b :: y, c :: z, h1, h2 => by
    simp only [Op.bytesLess, Bool.or_eq_true, decide_eq_true_eq, Bool.and_eq_true, beq_iff_eq] at h1 h2 ⊢
    rcases h1 with h1 | ⟨rfl, h1⟩ <;> rcases h2 with h2 | ⟨rfl, h2⟩
    · exact .inl (UInt8.lt_trans h1 h2)
    · exact .inl h1
    · exact .inl h2
    · exact .inr ⟨rfl, bl_trans x y z h1 h2⟩
theorem bl_tri : ∀ x y : List UInt8, Op.bytesLess x y = false → x ≠ y → Op.bytesLess y x = true
  | [], [], _, h => absurd rfl h
  | [], _ :: _, h, _ => by cases h
  | _ :: _, [], _, _ => rfl
  | a :: x, b :: y, h1, h2 => by
    simp only [Op.bytesLess, Bool.or_eq_false_iff, decide_eq_false_iff_not, Bool.and_eq_false_iff, beq_eq_false_iff_ne, Bool.or_eq_true, decide_eq_true_eq, Bool.and_eq_true, beq_iff_eq] at h1 ⊢
    by_cases hab : a = b
    · subst hab
      refine .inr ⟨rfl, bl_tri x y (by rcases h1.2 with h | h; exact absurd rfl h; exact h) (fun h => h2 (by rw [h]))⟩
    · left
      have := h1.1
      rw [UInt8.lt_iff_toNat_lt] at this ⊢
      have hne : a.toNat ≠ b.toNat := fun h => hab (UInt8.toNat_inj.1 h)
      omega
theorem cmp_lt : ∀ x y : List UInt8, decide (Lib.compareBytes x y < 0) = Op.bytesLess x y
  | [], [] => rfl
  | [], _ :: _ => rfl
  | _ :: _, [] => rfl
  | a :: x, b :: y => by
    unfold Lib.compareBytes Op.bytesLess
    by_cases h : a < b
    · simp [h]
    · by_cases h2 : b < a
      · have hne : ¬ a = b := fun e => by subst e; exact h h2
        simp [h, h2, hne]
      · have e : a = b := by
          rw [UInt8.lt_iff_toNat_lt] at h h2
          exact UInt8.toNat_inj.1 (by omega)
        subst e
        simp only [h, if_false, decide_false, Bool.false_or, beq_self_eq_true, Bool.true_and]
        exact cmp_lt x y
theorem cmp_eq : ∀ x y : List UInt8, (Lib.compareBytes x y == 0) = (x == y)
  | [], [] => rfl
  | [], _ :: _ => rfl
  | _ :: _, [] => rfl
  | a :: x, b :: y => by
    unfold Lib.compareBytes
    by_cases h : a < b
    · have hne : ¬ a = b := fun e => by subst e; exact absurd h (UInt8.lt_irrefl _)
      simp [h, hne]
    · by_cases h2 : b < a
      · have hne : ¬ a = b := fun e => by subst e; exact h h2
        simp [h, h2, hne]
      · have e : a = b := by
          rw [UInt8.lt_iff_toNat_lt] at h h2
          exact UInt8.toNat_inj.1 (by omega)
        subst e
        simp only [h, if_false]
        rw [cmp_eq x y]
        simp
/-- Rising: each behind the one ahead of it. -/
theorem rk_rise : ∀ (l : List Nm) (z : Int) (b : ByteArray), rk z b l = true → ∀ (i : Nat) (h : i < l.length), goodN l[i] = true ∧ ltB b l[i].nm = true ∧ ∀ (j : Nat) (hj : j < l.length), i < j → ltB l[i].nm l[j].nm = true
  | [], _, _, _, i, h => absurd h (by simp)
  | m :: l, z, b, hr, i, h => by
    simp only [rk, Bool.and_eq_true, Bool.not_eq_true', decide_eq_true_eq] at hr
    obtain ⟨⟨⟨h1, h2⟩, _⟩, h4⟩ := hr
    have ih := rk_rise l _ _ h4
    have hbm : ltB b m.nm = true := by
      unfold leB at h2
      simp only [Bool.or_eq_false_iff, beq_eq_false_iff_ne] at h2
      exact bl_tri _ _ h2.1 h2.2
    cases i with
    | zero =>
      refine ⟨h1, hbm, fun j hj hij => ?_⟩
      cases j with
      | zero => omega
      | succ j => exact (ih j (by simpa using hj)).2.1
    | succ i =>
      obtain ⟨a1, a2, a3⟩ := ih i (by simpa using h)
      refine ⟨a1, bl_trans _ _ _ hbm a2, fun j hj hij => ?_⟩
      cases j with
      | zero => omega
      | succ j => exact a3 j (by simpa using hj) (by omega)
/-- How many bytes. -/
def sizeL (l : List Nm) : Int := (l.map fun m => ((m.nm.size : Int) + 10)).sum
/-- Each name ahead of the next. -/
def risesB : ByteArray → List Nm → Bool
  | _, [] => true
  | b, m :: l => ltB b m.nm && risesB m.nm l
theorem leB_not (a b : ByteArray) : (!leB a b) = ltB b a := by
  unfold leB ltB
  cases h : Op.bytesLess a.toList b.toList
  · cases h2 : (a.toList == b.toList)
    · exact (bl_tri _ _ h (by simpa using h2)).symm
    · have e : a.toList = b.toList := by simpa using h2
      rw [e, bl_irr]; rfl
  · cases h3 : Op.bytesLess b.toList a.toList
    · rfl
    · have := bl_trans _ _ _ h h3; rw [bl_irr] at this; cases this
theorem sizeL_nonneg (l : List Nm) : 0 ≤ sizeL l := by
  unfold sizeL
  induction l with
  | nil => simp
  | cons m l ih => simp only [List.map_cons, List.sum_cons]; omega
/-- A directory: right entries, rising names, at most 4096 bytes. -/
theorem rk_eq : ∀ (l : List Nm) (z : Int) (b : ByteArray), z ≤ 4096 → rk z b l = (l.all goodN && risesB b l && decide (z + sizeL l ≤ 4096))
  | [], z, b, hz => by simp [rk, risesB, sizeL, hz]
  | m :: l, z, b, hz => by
    simp only [rk, List.all_cons, risesB, leB_not]
    have hs : sizeL (m :: l) = (m.nm.size + 10) + sizeL l := rfl
    have hn := sizeL_nonneg l
    by_cases h4 : z + (m.nm.size + 10) ≤ 4096
    · rw [rk_eq l _ _ h4, decide_eq_true h4, hs, show z + ((m.nm.size : Int) + 10 + sizeL l) = z + (m.nm.size + 10) + sizeL l by omega]
      cases goodN m <;> cases ltB b m.nm <;> cases l.all goodN <;> cases risesB m.nm l <;> simp
    · rw [decide_eq_false h4, hs, decide_eq_false (by omega)]
      simp
end Go.Proofs.YthifejdphflfpaaDoor
