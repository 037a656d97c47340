/- Plain facts of rows of mappings. -/
import Derived.Test.YtddllchobojmlaaPut
import Derived.Test.YtddllchobojmlaaCut
namespace Go.Proofs.Ytddllchobojmlaa
def bef (x y : Mp) : Prop := x.at_ + x.pg ≤ y.at_
theorem rOk_iff : ∀ (l : List Mp) (t : Int), rOk t l = true ↔ (∀ x ∈ l, goodM x = true) ∧ l.Pairwise bef ∧ ∀ x ∈ l, t ≤ x.at_
  | [], t => by simp [rOk]
  | x :: l, t => by
    simp only [rOk, Bool.and_eq_true, Bool.not_eq_true', decide_eq_false_iff_not, Int.not_lt, rOk_iff l, List.mem_cons, forall_eq_or_imp, List.pairwise_cons]
    constructor
    · rintro ⟨⟨h1, h2⟩, h3, h4, h5⟩
      refine ⟨⟨h1, h3⟩, ⟨fun y hy => h5 y hy, h4⟩, h2, fun y hy => ?_⟩
      have := h5 y hy
      have := ((goodM_iff _).1 h1).1
      omega
    · rintro ⟨⟨h1, h3⟩, ⟨h5, h4⟩, h2, _⟩
      exact ⟨⟨h1, h2⟩, h3, h4, fun y hy => h5 y hy⟩
theorem rightS_iff (l : List Mp) : rightS l = true ↔ l.length ≤ 16 ∧ (∀ x ∈ l, goodM x = true) ∧ l.Pairwise bef := by
  unfold rightS
  rw [Bool.and_eq_true, decide_eq_true_eq, rOk_iff]
  constructor
  · rintro ⟨h1, h2, h3, _⟩; exact ⟨h1, h2, h3⟩
  · rintro ⟨h1, h2, h3⟩; exact ⟨h1, h2, h3, fun x hx => ((goodM_iff _).1 (h2 x hx)).1.2.2.1⟩
theorem ahd_split (m : Mp) : ∀ l : List Mp, (∀ x ∈ l, goodM x = true) → l.Pairwise bef → (∀ x ∈ l.take (ahd m l), x.at_ < m.at_) ∧ ∀ x ∈ l.drop (ahd m l), m.at_ ≤ x.at_
  | [], _, _ => by simp
  | x :: l, hg, hp => by
    rw [List.pairwise_cons] at hp
    have hgx := ((goodM_iff _).1 (hg x (List.mem_cons_self ..))).1
    by_cases h : x.at_ < m.at_
    · have e : ahd m (x :: l) = ahd m l + 1 := by simp [ahd, h]
      obtain ⟨h1, h2⟩ := ahd_split m l (fun y hy => hg y (List.mem_cons_of_mem _ hy)) hp.2
      rw [e, List.take_succ_cons, List.drop_succ_cons]
      refine ⟨fun y hy => ?_, h2⟩
      rcases List.mem_cons.1 hy with rfl | hy
      · exact h
      · exact h1 y hy
    · have e : ahd m (x :: l) = 0 := by
        unfold ahd
        rw [List.length_eq_zero_iff, List.filter_eq_nil_iff]
        intro y hy
        rcases List.mem_cons.1 hy with rfl | hy
        · simpa using h
        · have := hp.1 y hy
          unfold bef at this
          simp; omega
      rw [e]
      refine ⟨by simp, fun y hy => ?_⟩
      rw [List.drop_zero] at hy
      rcases List.mem_cons.1 hy with rfl | hy
      · omega
      · have := hp.1 y hy
        unfold bef at this
        omega
theorem putE_zero {l : List Mp} {m : Mp} (h : putE l m = 0) : rightS l = true ∧ goodM m = true ∧ l.any (meet m) = false ∧ l.length < 16 := by
  unfold putE at h
  split at h
  · omega
  · rename_i h1
    split at h
    · omega
    · rename_i h2
      split at h
      · omega
      · rename_i h3
        simp only [Bool.not_eq_false, Bool.and_eq_true] at h1
        refine ⟨h1.1, h1.2, by simpa using h2, ?_⟩
        have := ((rightS_iff l).1 h1.1).1
        omega
/-- What is put in lies between what is ahead of it and what is behind. -/
theorem put_parts {l : List Mp} {m : Mp} (h : putE l m = 0) : ∃ A B, l = A ++ B ∧ putL l m = A ++ m :: B ∧ (∀ x ∈ A, bef x m) ∧ ∀ x ∈ B, bef m x := by
  obtain ⟨hr, hg, ha, hl⟩ := putE_zero h
  obtain ⟨_, hgs, hp⟩ := (rightS_iff l).1 hr
  obtain ⟨h1, h2⟩ := ahd_split m l hgs hp
  have hgm := ((goodM_iff _).1 hg).1
  have hno : ∀ x ∈ l, ¬ (x.at_ < m.at_ + m.pg ∧ m.at_ < x.at_ + x.pg) := fun x hx hh => by
    have : l.any (meet m) = true := List.any_eq_true.2 ⟨x, hx, by simp [meet, hh.1, hh.2]⟩
    rw [ha] at this; cases this
  refine ⟨l.take (ahd m l), l.drop (ahd m l), (List.take_append_drop _ _).symm, by unfold putL; rw [if_pos h]; simp, fun x hx => ?_, fun x hx => ?_⟩
  · have h3 := h1 x hx
    have h4 := hno x (List.mem_of_mem_take hx)
    unfold bef; omega
  · have h3 := h2 x hx
    have h4 := hno x (List.mem_of_mem_drop hx)
    have h5 := ((goodM_iff _).1 (hgs x (List.mem_of_mem_drop hx))).1
    unfold bef; omega
theorem put_right {l : List Mp} {m : Mp} (h : putE l m = 0) : rightS (putL l m) = true := by
  obtain ⟨hr, hg, ha, hl⟩ := putE_zero h
  obtain ⟨h16, hgs, hp⟩ := (rightS_iff l).1 hr
  obtain ⟨A, B, hl2, hL, h1, h2⟩ := put_parts h
  rw [hL, rightS_iff]
  subst hl2
  rw [List.pairwise_append] at hp
  refine ⟨by simp at hl ⊢; omega, fun x hx => ?_, ?_⟩
  · rcases List.mem_append.1 hx with hx | hx
    · exact hgs x (List.mem_append_left _ hx)
    · rcases List.mem_cons.1 hx with rfl | hx
      · exact hg
      · exact hgs x (List.mem_append_right _ hx)
  · rw [List.pairwise_append, List.pairwise_cons]
    refine ⟨hp.1, ⟨h2, hp.2.1⟩, fun x hx y hy => ?_⟩
    rcases List.mem_cons.1 hy with rfl | hy
    · exact h1 x hx
    · exact hp.2.2 x hx y hy
theorem idxJ_append (x : Int) : ∀ (A : List Mp) (k : Nat) (m : Mp) (B : List Mp), (∀ y ∈ A, y.at_ ≠ x) → m.at_ = x → idxJ x (A ++ m :: B) k = some (k + A.length)
  | [], k, m, B, _, hm => by simp [idxJ, hm]
  | y :: A, k, m, B, hA, hm => by
    have := hA y (List.mem_cons_self ..)
    simp only [List.cons_append, idxJ, beq_iff_eq, if_neg this]
    rw [idxJ_append x A (k + 1) m B (fun z hz => hA z (List.mem_cons_of_mem _ hz)) hm]
    simp; omega
theorem put_cut {l : List Mp} {m : Mp} (h : putE l m = 0) : cutE (putL l m) m.at_ = 0 ∧ cutL (putL l m) m.at_ = l := by
  obtain ⟨hr, hg, ha, hl⟩ := putE_zero h
  obtain ⟨_, hgs, hp⟩ := (rightS_iff l).1 hr
  obtain ⟨A, B, hl2, hL, h1, h2⟩ := put_parts h
  have hR := put_right h
  have hi : idxJ m.at_ (putL l m) 0 = some A.length := by
    rw [hL, idxJ_append m.at_ A 0 m B (fun y hy => ?_) rfl, Nat.zero_add]
    have h3 := h1 y hy
    have h4 := ((goodM_iff _).1 (hgs y (by rw [hl2]; exact List.mem_append_left _ hy))).1
    unfold bef at h3; omega
  refine ⟨by unfold cutE; simp [hR, hi], ?_⟩
  unfold cutL
  simp only [hR, hi, Bool.true_eq_false, if_false]
  rw [hL, hl2, List.take_left, List.drop_append]
  simp
theorem find_none_of {A : List Mp} {g : Int} (h : ∀ x ∈ A, inM g x = false) : A.find? (inM g) = none := by
  rw [List.find?_eq_none]; intro x hx; simp [h x hx]
theorem put_find {l : List Mp} {m : Mp} (h : putE l m = 0) (g : Int) : findM (putL l m) g = if inM g m = true then some m else findM l g := by
  obtain ⟨hr, hg, ha, hl⟩ := putE_zero h
  obtain ⟨_, hgs, hp⟩ := (rightS_iff l).1 hr
  obtain ⟨A, B, hl2, hL, h1, h2⟩ := put_parts h
  unfold findM
  rw [hL, hl2, List.find?_append, List.find?_append, List.find?_cons]
  by_cases hi : inM g m = true
  · have : A.find? (inM g) = none := find_none_of fun x hx => by
      have h3 := h1 x hx
      simp only [inM, Bool.and_eq_true, decide_eq_true_eq] at hi
      unfold bef at h3
      simp [inM]; omega
    simp [this, hi]
  · simp [hi]
theorem spans_one (l : List Mp) (a need : Int) (f : Nat) (hg : ∀ x ∈ l, goodM x = true) : spans l need (f + 1) a 1 = match findM l (a / 64) with | none => none | some m => if srv m need = true then some [pcOf m a 1] else none := by
  cases hf : findM l (a / 64) with
  | none => exact spans_none (by omega) hf
  | some m =>
    obtain ⟨hm, hi⟩ := findM_in hf
    have hk := pcOf_n (hg m hm) hi (Int.le_refl 1)
    by_cases hs : srv m need = true
    · rw [spans_step (by omega) hf hs, spans_zero _ _ _ _ _ (by omega)]; simp [hs]
    · have hs' : srv m need = false := by simpa using hs
      rw [spans_not (by omega) hf hs']; simp [hs']
theorem pcOf_one {m : Mp} {a : Int} (hg : goodM m = true) (hi : inM (a / 64) m = true) : pcOf m a 1 = ⟨m.inn, m.id, 64 * (m.fr + a / 64 - m.at_) + a % 64, 1⟩ := by
  have hk := pcOf_n hg hi (Int.le_refl 1)
  have h1 : (pcOf m a 1).n = 1 := by omega
  have h2 : (pcOf m a 1).off = 64 * (m.fr + a / 64 - m.at_) + a % 64 := by simp only [pcOf]; omega
  have : pcOf m a 1 = ⟨m.inn, m.id, (pcOf m a 1).off, (pcOf m a 1).n⟩ := rfl
  rw [this, h1, h2]
end Go.Proofs.Ytddllchobojmlaa
