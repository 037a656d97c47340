/- What Join and Meet of package label answer, for every two labels. -/
import Derived.Test.YtnjmgholoigpkaaMx
import Derived.Test.YtnjmgholoigpkaaMake
import Derived.OwnWalkIn
namespace Go.Proofs.Ytnjmgholoigpkaa
open Go.RowKit Go.Sort Go.Shelf
attribute [local go_sem] Oper.semAt_some

theorem Fit_any (d : Int) (v : Value) (B : Nat) (zs : List (Int × Int)) (w : World) (h : w.ownsRow B 50 2 v zs.length (flat zs)) :
    Calls Try.prog 77 #[.agg #[.int .i64 d, v]] w fun e w' => ∃ v', e = .returned (.tuple #[.agg #[.int .i64 (fitD d zs), v'], .int .i64 (fitE zs)]) ∧ w'.ownsRow B 50 2 v' (fitL zs).length (flat (fitL zs)) ∧ Below w.heap.size w w' := by
  by_cases hl : zs.length ≤ 16
  · refine (fit_any d v B zs w h hl).mono ?_
    rintro e w' ⟨rfl, hb⟩
    exact ⟨v, by simp [fitD, fitE, hl], by simp only [fitL, hl, if_true]; exact own_below h hb, hb⟩
  · refine (fit_full d v B zs w h (by omega)).mono ?_
    rintro e w' ⟨rfl, hb⟩
    exact ⟨.slice none 0 0, by simp [fitD, fitE, hl], by simp only [fitL, hl, if_false]; exact World.ownsRow_nil _ _ _ _, hb⟩

/-- What mix has gathered behind some pairs: the default's level, and the row. -/
def stM (m : Int → Int → Int) (pre : List (Int × Int × Int)) : Int × List (Int × Int) :=
  pre.foldl (fun s x => if (x.1 == 0) = true then (m x.2.1 x.2.2, s.2) else (s.1, s.2 ++ [(x.1, m x.2.1 x.2.2)])) (0, [])
theorem stM_snoc (m : Int → Int → Int) (pre : List (Int × Int × Int)) (x : Int × Int × Int) : stM m (pre ++ [x]) = if (x.1 == 0) = true then (m x.2.1 x.2.2, (stM m pre).2) else ((stM m pre).1, (stM m pre).2 ++ [(x.1, m x.2.1 x.2.2)]) := by
  unfold stM; rw [List.foldl_append]; rfl
theorem stM_len (m : Int → Int → Int) (pre : List (Int × Int × Int)) : (stM m pre).2.length ≤ pre.length := by
  suffices h : ∀ (pre : List (Int × Int × Int)) (s : Int × List (Int × Int)), (pre.foldl (fun s x => if (x.1 == 0) = true then (m x.2.1 x.2.2, s.2) else (s.1, s.2 ++ [(x.1, m x.2.1 x.2.2)])) s).2.length ≤ s.2.length + pre.length by
    have := h pre (0, []); simpa [stM] using this
  intro pre
  induction pre with
  | nil => intro s; simp
  | cons x pre ih =>
    intro s
    rw [List.foldl_cons]
    refine Nat.le_trans (ih _) ?_
    split <;> simp <;> omega
theorem prs_len (da db : Int) (f : Nat) : ∀ (xs ys : List (Int × Int)), (prs da db f xs ys).length ≤ f := by
  induction f with
  | zero => intro xs ys; simp [prs]
  | succ f ih =>
    intro xs ys
    unfold prs
    split
    · simp
    · simp only [List.length_cons]; have := ih (tkR (leastS xs ys) xs) (tkR (leastS xs ys) ys); omega
theorem allP_len (da db : Int) (xs ys : List (Int × Int)) : (allP da db xs ys).length ≤ xs.length + ys.length + 1 := by
  unfold allP; simp only [List.length_cons]; have := prs_len da db (xs.length + ys.length) xs ys; omega
theorem boxed_own {β : Type} (B : Nat) (t : TypeId) (f : β → Value) : Own (fun s W => Boxed W B t (f s)) := fun s X Y row hv hg hrow => hv.kept hg (fun e' => by
  obtain ⟨o, ho, hc⟩ := hrow B e'.symm
  rw [show X.heap[B]? = _ from hv] at ho; cases ho; cases hc)

/-- The label that package label mixes of two. -/
def JoinD (da db : Int) (xs ys : List (Int × Int)) : Int := (stM mx (allP da db xs ys)).1
def JoinZ (da db : Int) (xs ys : List (Int × Int)) : List (Int × Int) := shortS (stM mx (allP da db xs ys)).1 (stM mx (allP da db xs ys)).2
/-- The label that package label mixes of two. -/
def MeetD (da db : Int) (xs ys : List (Int × Int)) : Int := (stM mn (allP da db xs ys)).1
def MeetZ (da db : Int) (xs ys : List (Int × Int)) : List (Int × Int) := shortS (stM mn (allP da db xs ys)).1 (stM mn (allP da db xs ys)).2
end Go.Proofs.Ytnjmgholoigpkaa
