/- What short and fit of package label answer, for every row of entries. -/
import Derived.Test.YtonhdkldacghoaaTake
import Derived.Lib.SmallJoins
import Derived.RangeFuncBox
namespace Go.Proofs.Ytonhdkldacghoaa
open Go.RowKit Go.Sort

def flat : List (Int × Int) → List Value
  | [] => []
  | x :: xs => .int .i64 x.1 :: .int .i64 x.2 :: flat xs
theorem flat_length (xs : List (Int × Int)) : (flat xs).length = xs.length * 2 := by
  induction xs with
  | nil => rfl
  | cons x xs ih => simp only [flat, List.length_cons, ih]; omega
theorem flat_append (xs ys : List (Int × Int)) : flat (xs ++ ys) = flat xs ++ flat ys := by
  induction xs with
  | nil => rfl
  | cons x xs ih => simp [flat, ih]
theorem flat_get (xs : List (Int × Int)) (j : Nat) (h : j < xs.length) : (flat xs)[j * 2]? = some (.int .i64 xs[j].1) ∧ (flat xs)[j * 2 + 1]? = some (.int .i64 xs[j].2) := by
  induction xs generalizing j with
  | nil => simp at h
  | cons x xs ih =>
    cases j with
    | zero => simp [flat]
    | succ j =>
      have := ih j (by simpa using h)
      rw [show (j + 1) * 2 = j * 2 + 1 + 1 from by omega]
      simpa [flat] using this
theorem info30 : (Try.prog.info? 50).map (fun i => (i.zero, i.size, i.bytes)) = some (some (.agg #[.int .i64 0, .int .i64 0]), 2, 16) := by kernel_rfl

/-- An owned row of entries, read. -/
theorem own_out {w : World} {B : Nat} {v : Value} {zs : List (Int × Int)} (h : w.ownsRow B 50 2 v zs.length (flat zs)) : ∃ p cap, v = .slice p zs.length cap ∧ CatsAt w p zs ∧ zs.length ≤ cap := by
  have h' := h
  obtain ⟨_, h2⟩ := h
  rcases h2 with ⟨rfl, hn⟩ | ⟨g, cap, cur, rfl, hg, hh, hn, hcap, hsz, htake⟩
  · refine ⟨none, 0, by rw [hn], fun j hj => by omega, by omega⟩
  · refine ⟨some ⟨g, 0, none⟩, cap, rfl, fun j hj => ⟨g, 0, rfl, ?_, ?_, ?_⟩, hn⟩
    · exact (h'.lt g rfl).2
    · have := (h'.cellAt (j * 2) (by omega)).trans (flat_get zs j hj).1
      simpa using this
    · have := (h'.cellAt (j * 2 + 1) (by omega)).trans (flat_get zs j hj).2
      simpa using this

def shortS (d : Int) (xs : List (Int × Int)) : List (Int × Int) := xs.filter fun x => x.2 != d
theorem short_le (d : Int) (xs : List (Int × Int)) : (shortS d xs).length ≤ xs.length := List.length_filter_le _ _
theorem short_snoc (d : Int) (xs : List (Int × Int)) (k : Nat) (h : k < xs.length) : shortS d (xs.take (k + 1)) = if (xs[k].2 != d) = true then shortS d (xs.take k) ++ [xs[k]] else shortS d (xs.take k) := by
  unfold shortS
  rw [List.take_succ_eq_append_getElem h, List.filter_append]
  by_cases h : (xs[k].2 != d) = true <;> simp [h]

end Go.Proofs.Ytonhdkldacghoaa
