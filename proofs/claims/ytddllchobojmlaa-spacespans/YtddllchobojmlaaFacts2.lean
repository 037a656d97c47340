/- Plain facts of spans. -/
import Derived.Test.YtddllchobojmlaaFacts
namespace Go.Proofs.Ytddllchobojmlaa
/-- The pieces of the d bytes from c on. -/
inductive Ch (l : List Mp) (need : Int) : Int → Int → List Pc → Prop
  | nil (c : Int) : Ch l need c 0 []
  | cons (c d : Int) (m : Mp) (ps : List Pc) (hd : 1 ≤ d) (hf : findM l (c / 64) = some m) (hs : srv m need = true) (hr : Ch l need (c + (pcOf m c d).n) (d - (pcOf m c d).n) ps) : Ch l need c d (pcOf m c d :: ps)
theorem spans_ch (l : List Mp) (need : Int) (hg : ∀ x ∈ l, goodM x = true) : ∀ (f : Nat) (c d : Int) (ps : List Pc), 0 ≤ d → d ≤ f → spans l need (f + 1) c d = some ps → Ch l need c d ps
  | 0, c, d, ps, h0, h1, h => by
    obtain rfl : d = 0 := by omega
    rw [spans_zero _ _ _ _ _ (Int.le_refl 0)] at h
    cases h; exact Ch.nil c
  | f + 1, c, d, ps, h0, h1, h => by
    by_cases hd : 1 ≤ d
    · cases hf : findM l (c / 64) with
      | none => rw [spans_none hd hf] at h; cases h
      | some m =>
        by_cases hs : srv m need = true
        · obtain ⟨hm, hi⟩ := findM_in hf
          obtain ⟨k1, k2, _⟩ := pcOf_n (hg m hm) hi hd
          rw [spans_step hd hf hs] at h
          obtain ⟨qs, hq, rfl⟩ := Option.map_eq_some_iff.1 h
          exact Ch.cons c d m qs hd hf hs (spans_ch l need hg f _ _ qs (by omega) (by omega) hq)
        · have hs' : srv m need = false := by simpa using hs
          rw [spans_not hd hf hs'] at h; cases h
    · obtain rfl : d = 0 := by omega
      rw [spans_zero _ _ _ _ _ (Int.le_refl 0)] at h
      cases h; exact Ch.nil c
theorem find_unique {l : List Mp} (hg : ∀ x ∈ l, goodM x = true) (hp : l.Pairwise bef) {g : Int} {m : Mp} (hm : m ∈ l) (hi : inM g m = true) : findM l g = some m := by
  unfold findM
  induction l with
  | nil => cases hm
  | cons x l ih =>
    rw [List.pairwise_cons] at hp
    rw [List.find?_cons]
    rcases List.mem_cons.1 hm with rfl | hm'
    · rw [hi]
    · have hb := hp.1 m hm'
      have : inM g x = false := by
        simp only [inM, Bool.and_eq_true, decide_eq_true_eq] at hi
        unfold bef at hb
        simp [inM]; omega
      rw [this]
      exact ih (fun y hy => hg y (List.mem_cons_of_mem _ hy)) hp.2 hm'
/-- A byte of a piece is found by itself. -/
theorem ch_find {l : List Mp} (hr : rightS l = true) {need c d k : Int} {m : Mp} (hf : findM l (c / 64) = some m) (hs : srv m need = true) (hk0 : 0 ≤ k) (hk : k < (pcOf m c d).n) (hn0 : 0 ≤ need) (hn2 : need ≤ 2) :
    spanE l (c + k) 1 need = 0 ∧ spanL l (c + k) 1 need = [⟨m.inn, m.id, (pcOf m c d).off + k, 1⟩] := by
  obtain ⟨_, hg, hp⟩ := (rightS_iff l).1 hr
  obtain ⟨hm, hi⟩ := findM_in hf
  have hgm := ((goodM_iff _).1 (hg m hm)).1
  have hi2 : inM ((c + k) / 64) m = true := by
    simp only [inM, Bool.and_eq_true, decide_eq_true_eq] at hi ⊢
    simp only [pcOf] at hk
    omega
  have hf2 := find_unique hg hp hm hi2
  have hA : argOk l 1 need = true := by simp [argOk, hr]; omega
  have hpc : pcOf m (c + k) 1 = ⟨m.inn, m.id, (pcOf m c d).off + k, 1⟩ := by
    have hk2 := pcOf_n (hg m hm) hi2 (Int.le_refl 1)
    have h1 : (pcOf m (c + k) 1).n = 1 := by omega
    have h2 : (pcOf m (c + k) 1).off = (pcOf m c d).off + k := by simp only [pcOf]; omega
    have : pcOf m (c + k) 1 = ⟨m.inn, m.id, (pcOf m (c + k) 1).off, (pcOf m (c + k) 1).n⟩ := rfl
    rw [this, h1, h2]
  have hO : spanO l (c + k) 1 need = some [⟨m.inn, m.id, (pcOf m c d).off + k, 1⟩] := by
    unfold spanO
    rw [spans_one _ _ _ _ hg, hf2]
    simp only [hs, if_true]
    rw [hpc]
  exact ⟨by unfold spanE; rw [if_neg (by simp [hA]), hO], by unfold spanL; rw [if_neg (by simp [hA]), hO]; rfl⟩
/-- What may be written or run may be read. -/
theorem spans_read (l : List Mp) (need : Int) : ∀ (f : Nat) (c d : Int) (ps : List Pc), spans l need f c d = some ps → spans l 0 f c d = some ps
  | 0, c, d, ps, h => h
  | f + 1, c, d, ps, h => by
    by_cases hd : 1 ≤ d
    · cases hf : findM l (c / 64) with
      | none => rw [spans_none hd hf] at h; cases h
      | some m =>
        by_cases hs : srv m need = true
        · rw [spans_step hd hf hs] at h
          obtain ⟨qs, hq, rfl⟩ := Option.map_eq_some_iff.1 h
          rw [spans_step hd hf (by simp [srv]), spans_read l need f _ _ qs hq]; rfl
        · have hs' : srv m need = false := by simpa using hs
          rw [spans_not hd hf hs'] at h; cases h
    · rw [spans_zero _ _ _ _ _ (by omega)] at h ⊢; exact h
/-- A mapping without leave. -/
def bareM (m : Mp) : Mp := { m with wr := false, rn := false }
theorem good_bare (m : Mp) : goodM (bareM m) = goodM m := rfl
theorem rOk_bare : ∀ (l : List Mp) (t : Int), rOk t (l.map bareM) = rOk t l
  | [], _ => rfl
  | x :: l, t => by simp only [List.map_cons, rOk, good_bare, rOk_bare l]; rfl
theorem right_bare (l : List Mp) : rightS (l.map bareM) = rightS l := by unfold rightS; rw [rOk_bare, List.length_map]
theorem find_bare (l : List Mp) (g : Int) : findM (l.map bareM) g = (findM l g).map bareM := by
  unfold findM
  rw [List.find?_map]; rfl
theorem spans_bare (l : List Mp) : ∀ (f : Nat) (c d : Int), spans (l.map bareM) 0 f c d = spans l 0 f c d
  | 0, c, d => rfl
  | f + 1, c, d => by
    by_cases hd : 1 ≤ d
    · cases hf : findM l (c / 64) with
      | none => rw [spans_none hd hf, spans_none hd (by rw [find_bare, hf]; rfl)]
      | some m =>
        rw [spans_step hd hf (by simp [srv]), spans_step (m := bareM m) hd (by rw [find_bare, hf]; rfl) (by simp [srv]), spans_bare l f]; rfl
    · rw [spans_zero _ _ _ _ _ (by omega), spans_zero _ _ _ _ _ (by omega)]
theorem arg_bare (l : List Mp) (n need : Int) : argOk (l.map bareM) n need = argOk l n need := by unfold argOk; rw [right_bare]
theorem bare_read (l : List Mp) (a n : Int) : spanE (l.map bareM) a n 0 = spanE l a n 0 ∧ spanL (l.map bareM) a n 0 = spanL l a n 0 := by
  unfold spanE spanL spanO; rw [arg_bare, spans_bare]; exact ⟨rfl, rfl⟩
theorem bare_not (l : List Mp) (a n need : Int) (hn : need = 1 ∨ need = 2) : spanE (l.map bareM) a n need ≠ 0 := by
  unfold spanE
  split
  · omega
  · rename_i hA
    simp only [argOk, Bool.not_eq_false, Bool.and_eq_true, decide_eq_true_eq] at hA
    have : spanO (l.map bareM) a n need = none := by
      unfold spanO
      cases hf : findM (l.map bareM) (a / 64) with
      | none => exact spans_none (by omega) hf
      | some m =>
        refine spans_not (by omega) hf ?_
        obtain ⟨hm, _⟩ := findM_in hf
        obtain ⟨y, _, rfl⟩ := List.mem_map.1 hm
        rcases hn with rfl | rfl <;> simp [srv, bareM]
    rw [this]; simp
theorem read_of (l : List Mp) (a n need : Int) (h : spanE l a n need = 0) : spanE l a n 0 = 0 ∧ spanL l a n 0 = spanL l a n need := by
  unfold spanE at h
  split at h
  · omega
  · rename_i hA
    have hA0 : argOk l n 0 = true := by simp only [argOk, Bool.not_eq_false, Bool.and_eq_true, decide_eq_true_eq] at hA ⊢; simp [hA]
    cases hO : spanO l a n need with
    | none => rw [hO] at h; simp at h
    | some ps =>
      have hO2 : spanO l a n 0 = some ps := spans_read l need _ _ _ _ hO
      refine ⟨by unfold spanE; rw [if_neg (by simp [hA0]), hO2], ?_⟩
      unfold spanL; rw [if_neg (by simp [hA0]), if_neg hA, hO2, hO]
theorem ch_len {l : List Mp} (hg : ∀ x ∈ l, goodM x = true) {need c d : Int} {ps : List Pc} (h : Ch l need c d ps) : (ps.length : Int) ≤ d := by
  induction h with
  | nil c => simp
  | cons c d m ps hd hf hs hr ih =>
    obtain ⟨hm, hi⟩ := findM_in hf
    have := pcOf_n (hg m hm) hi hd
    simp; omega
theorem spanL_len (l : List Mp) (a n need : Int) : (spanL l a n need).length ≤ 4096 := by
  unfold spanL
  split
  · simp
  · rename_i hA
    simp only [argOk, Bool.not_eq_false, Bool.and_eq_true, decide_eq_true_eq] at hA
    cases hO : spanO l a n need with
    | none => simp
    | some ps =>
      have hg := ((rightS_iff l).1 hA.1.1.1.1).2.1
      have := ch_len hg (spans_ch l need hg 4096 a n ps (by omega) (by omega) hO)
      simp; omega
end Go.Proofs.Ytddllchobojmlaa
