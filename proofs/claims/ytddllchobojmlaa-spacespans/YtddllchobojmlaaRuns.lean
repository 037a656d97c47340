/- A span, byte by byte: plain facts. -/
import Derived.Test.YtddllchobojmlaaByte
namespace Go.Proofs.Ytddllchobojmlaa
def mAt (l : List Mp) (k : Nat) : Mp := l.getD k mp0
theorem mAt_eq {l : List Mp} {k : Nat} (h : k < l.length) : mAt l k = l[k] := by unfold mAt; rw [List.getD_eq_getElem?_getD, List.getElem?_eq_getElem h]; rfl
def bump (ps : List Pc) : List Pc := ps.dropLast ++ (ps.getLast?.map fun x => { x with n := x.n + 1 }).toList
theorem bump_snoc (qs : List Pc) (x : Pc) : bump (qs ++ [x]) = qs ++ [{ x with n := x.n + 1 }] := by simp [bump]
/-- One byte more. -/
def stepB (l : List Mp) (need c : Int) (st : List Pc × Option Nat) : Option (List Pc × Option Nat) :=
  match fI (c / 64) l 0 with
  | none => none
  | some k => if srv (mAt l k) need = true then (if st.2 = some k then some (bump st.1, some k) else some (st.1 ++ [⟨(mAt l k).inn, (mAt l k).id, offM (mAt l k) c, 1⟩], some k)) else none
def run (l : List Mp) (need : Int) : Nat → Int → List Pc × Option Nat → Option (List Pc × Option Nat)
  | 0, _, st => some st
  | k + 1, c, st => (stepB l need c st).bind (run l need k (c + 1))
theorem run_add (l : List Mp) (need : Int) : ∀ (j k : Nat) (c : Int) (st : List Pc × Option Nat), run l need (j + k) c st = (run l need j c st).bind (run l need k (c + j))
  | 0, k, c, st => by simp [run]
  | j + 1, k, c, st => by
    rw [show j + 1 + k = (j + k) + 1 from by omega]
    simp only [run]
    cases stepB l need c st with
    | none => rfl
    | some st' =>
      simp only [Option.bind_some]
      rw [run_add l need j k (c + 1) st']
      congr 2
      push_cast; omega
theorem run_last (l : List Mp) (need : Int) (k : Nat) (c : Int) (st : List Pc × Option Nat) : run l need (k + 1) c st = (run l need k c st).bind (stepB l need (c + k)) := by
  rw [run_add]
  congr 1
  funext s
  simp only [run]
  cases stepB l need (c + k) s <;> rfl
theorem fI_unique {l : List Mp} (hr : rightS l = true) {k : Nat} (h : k < l.length) {g : Int} (hi : inM g l[k] = true) : fI g l 0 = some k := by
  obtain ⟨_, hg, hp⟩ := (rightS_iff l).1 hr
  have hf := find_unique hg hp (List.getElem_mem h) hi
  have hs := fI_spec g l 0
  cases hj : fI g l 0 with
  | none => rw [hj] at hs; simp only at hs; rw [hf] at hs; cases hs
  | some i =>
    rw [hj] at hs
    simp only [Nat.sub_zero] at hs
    obtain ⟨_, h2, h3⟩ := hs
    rw [hf] at h3
    have h4 : l[k] = l[i] := Option.some.inj h3
    have h5 := List.pairwise_iff_getElem.1 hp
    have h6 := ((goodM_iff _).1 (hg _ (List.getElem_mem h))).1
    rcases Nat.lt_trichotomy i k with hh | hh | hh
    · have := h5 i k h2 h hh
      unfold bef at this; rw [← h4] at this; omega
    · rw [hh]
    · have := h5 k i h h2 hh
      unfold bef at this; rw [← h4] at this; omega
theorem run_bump {l : List Mp} (hr : rightS l = true) {need : Int} {k : Nat} (h : k < l.length) (hs : srv l[k] need = true) (qs : List Pc) : ∀ (t : Nat) (c : Int) (x : Pc), (∀ j : Nat, j < t → inM ((c + j) / 64) l[k] = true) →
    run l need t c (qs ++ [x], some k) = some (qs ++ [{ x with n := x.n + t }], some k)
  | 0, c, x, _ => by simp [run]
  | t + 1, c, x, hi => by
    have h0 := hi 0 (by omega)
    have hf := fI_unique hr h (g := c / 64) (by simpa using h0)
    simp only [run, stepB, hf, mAt_eq h, hs, if_true, Option.bind_some, bump_snoc]
    rw [run_bump hr h hs qs t (c + 1) _ (fun j hj => by have := hi (j + 1) (by omega); rw [show c + 1 + (j : Int) = c + ((j + 1 : Nat) : Int) from by push_cast; omega]; exact this)]
    simp only [Option.some.injEq, Prod.mk.injEq, List.append_cancel_left_eq, List.cons.injEq, and_true, Pc.mk.injEq, true_and]
    push_cast; omega
theorem off_eq {m : Mp} {c d : Int} : offM m c = (pcOf m c d).off := by unfold offM; simp only [pcOf]; omega
theorem run_spans {l : List Mp} (hr : rightS l = true) (need : Int) : ∀ (f : Nat) (c d : Int) (qs : List Pc) (last : Option Nat), 0 ≤ d → d ≤ f → (1 ≤ d → ∀ k, last = some k → fI (c / 64) l 0 ≠ some k) →
    match spans l need (f + 1) c d with
    | none => run l need d.toNat c (qs, last) = none
    | some ps => ∃ last', run l need d.toNat c (qs, last) = some (qs ++ ps, last') := by
  obtain ⟨_, hg, hp⟩ := (rightS_iff l).1 hr
  intro f
  induction f with
  | zero =>
    intro c d qs last h0 h1 _
    obtain rfl : d = 0 := by omega
    rw [spans_zero _ _ _ _ _ (Int.le_refl 0)]
    exact ⟨last, by simp [run]⟩
  | succ f ih =>
    intro c d qs last h0 h1 hl
    by_cases hd : 1 ≤ d
    · have hs := fI_spec (c / 64) l 0
      obtain ⟨e, he⟩ : ∃ e, d.toNat = e + 1 := ⟨d.toNat - 1, by omega⟩
      cases hj : fI (c / 64) l 0 with
      | none =>
        rw [hj] at hs
        simp only at hs
        rw [spans_none hd hs]
        simp only
        rw [he]
        simp only [run, stepB, hj, Option.bind_none]
      | some k =>
        rw [hj] at hs
        simp only [Nat.sub_zero] at hs
        obtain ⟨_, hk, hf⟩ := hs
        by_cases hsv : srv l[k] need = true
        · rw [spans_step hd hf hsv]
          have hin := (findM_in hf).2
          obtain ⟨k1, k2, k3, k4, k5⟩ := pcOf_n (hg _ (List.getElem_mem hk)) hin hd
          have hgk := ((goodM_iff _).1 (hg _ (List.getElem_mem hk))).1
          obtain ⟨t, ht⟩ : ∃ t : Nat, (pcOf l[k] c d).n = (t : Int) + 1 := ⟨((pcOf l[k] c d).n - 1).toNat, by omega⟩
          have hne : ¬ last = some k := fun hh => hl hd k hh hj
          have h2 : run l need (t + 1) c (qs, last) = some (qs ++ [pcOf l[k] c d], some k) := by
            simp only [run, stepB, hj, mAt_eq hk, hsv, if_true, if_neg hne, Option.bind_some]
            rw [run_bump hr hk hsv qs t (c + 1) _ (fun j hj' => by
              simp only [inM, Bool.and_eq_true, decide_eq_true_eq] at hin ⊢
              simp only [pcOf] at ht
              omega)]
            simp only [Option.some.injEq, Prod.mk.injEq, List.append_cancel_left_eq, List.cons.injEq, and_true]
            have : pcOf l[k] c d = ⟨l[k].inn, l[k].id, (pcOf l[k] c d).off, (pcOf l[k] c d).n⟩ := rfl
            rw [this, ht, off_eq (d := d)]
            simp only [Pc.mk.injEq, true_and]
            omega
          have h3 : d.toNat = (t + 1) + (d - (pcOf l[k] c d).n).toNat := by omega
          rw [h3, run_add, h2]
          simp only [Option.bind_some]
          have h4 : c + ((t + 1 : Nat) : Int) = c + (pcOf l[k] c d).n := by rw [ht]; push_cast; omega
          rw [h4]
          have h5 := ih (c + (pcOf l[k] c d).n) (d - (pcOf l[k] c d).n) (qs ++ [pcOf l[k] c d]) (some k) (by omega) (by omega) (fun hd2 k' hk' => by
            obtain rfl : k = k' := Option.some.inj hk'
            intro hcon
            have hs2 := fI_spec ((c + (pcOf l[k] c d).n) / 64) l 0
            rw [hcon] at hs2
            simp only [Nat.sub_zero] at hs2
            obtain ⟨_, _, hf2⟩ := hs2
            have hin2 := (findM_in hf2).2
            simp only [inM, Bool.and_eq_true, decide_eq_true_eq] at hin2 hin
            simp only [pcOf] at hd2 hin2
            omega)
          cases hsp : spans l need (f + 1) (c + (pcOf l[k] c d).n) (d - (pcOf l[k] c d).n) with
          | none => rw [hsp] at h5; simp only [Option.map_none] at h5 ⊢; exact h5
          | some ps =>
            rw [hsp] at h5
            simp only [Option.map_some] at h5 ⊢
            obtain ⟨last', h6⟩ := h5
            exact ⟨last', by rw [h6]; simp⟩
        · have hsv' : srv l[k] need = false := by simpa using hsv
          rw [spans_not hd hf hsv']
          simp only
          rw [he]
          simp only [run, stepB, hj, mAt_eq hk, hsv', Bool.false_eq_true, if_false, Option.bind_none]
    · obtain rfl : d = 0 := by omega
      rw [spans_zero _ _ _ _ _ (Int.le_refl 0)]
      exact ⟨last, by simp [run]⟩
end Go.Proofs.Ytddllchobojmlaa
