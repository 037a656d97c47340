/- What Down of package label answers, and plain facts on raising and lowering plain and free labels. -/
import Derived.Test.YtibnmiigfiofmabDoorSame
import Derived.Test.YtibnmiigfiofmabDoorTurn
namespace Go.Proofs.YtibnmiigfiofmabDoor
open Go.RowKit Go.Sort

theorem Down_any (d : Int) (p : Option Addr) (cap : Nat) (xs : List (Int × Int)) (w : World) (hm : xs.length * 16 ≤ 140737488355328) (hc : CatsAt w p xs) :
    Calls Tryd.prog 19 #[.agg #[.int .i64 d, .slice p xs.length cap]] w fun e w' => ∃ v, e = .returned (.agg #[.int .i64 (ot 5 0 d), v]) ∧
      w'.ownsRow w.heap.size 39 2 v (shortS (ot 5 0 d) (turnS 5 0 xs)).length (flat (shortS (ot 5 0 d) (turnS 5 0 xs))) ∧ Below w.heap.size w w' := by
  have hW : Below w.heap.size w ((w.alloc (.cells #[.int .i64 d, .slice p xs.length cap] 24)).alloc (.cells #[.int .i64 0, .slice none 0 0] 24)) := by go_grown
  have hT := turn_any d 5 0 p cap xs _ hm (hc.below hW)
  go_enter Tryd.func19, Tryd.ntmps19
  go_wp2_with (go_at_call 40; refine hT.mono ?_; rintro e w5 ⟨v, rfl, hown5, hb5⟩; have s0 : w5.cell? ⟨w.heap.size + 1, 0, none⟩ = some (.int .i64 0) := (hb5.cell (p := ⟨w.heap.size + 1, 0, none⟩) (by simp)).trans (by simp [go_sem]); have s1 : w5.cell? ⟨w.heap.size + 1, 1, none⟩ = some (.slice none 0 0) := (hb5.cell (p := ⟨w.heap.size + 1, 1, none⟩) (by simp)).trans (by simp [go_sem]); have sf : ∀ o, w5.frozen? ⟨w.heap.size + 1, o, none⟩ = false := (fun o => (hb5.frozen (p := ⟨w.heap.size + 1, o, none⟩) (by simp)).trans (by simp [go_sem])); obtain ⟨p5, cap5, rfl, hc5, hcap5⟩ := own_out hown5)
  refine bodyPost_ret (by simp [results, Tryd.results19, go_sem, s0, s1]; rfl) rfl ⟨_, rfl, ?_, ?_⟩
  · exact Joins.ownsRow_le (ownsRow_setCell_below (ownsRow_setCell_below hown5 (by simp) _) (by simp) _) (by simp <;> omega)
  · exact ((hW.trans (hb5.mono hW.size)).setCell (p := ⟨w.heap.size + 1, 0, none⟩) (by simp) _).setCell (p := ⟨w.heap.size + 1, 1, none⟩) (by simp) _

def dnD (d : Int) : Int := ot 5 0 d
def dnS (d : Int) (xs : List (Int × Int)) : List (Int × Int) := shortS (ot 5 0 d) (turnS 5 0 xs)
theorem short_self {d : Int} {xs : List (Int × Int)} (h : NoDef d xs) : shortS d xs = xs := by
  unfold shortS; exact List.filter_eq_self.2 fun x hx => by simpa using h x hx
theorem plain_parts {d : Int} {xs : List (Int × Int)} (h : plainS d xs = true) : rightS d xs = true ∧ d ≠ 5 ∧ ∀ x ∈ xs, x.2 ≠ 5 := by
  simp only [plainS, hasS, Bool.and_eq_true, Bool.not_eq_true', Bool.or_eq_false_iff, List.any_eq_false, beq_iff_eq, beq_eq_false_iff_ne] at h
  exact ⟨h.1, h.2.2, h.2.1⟩
theorem free_parts {d : Int} {xs : List (Int × Int)} (h : freeS d xs = true) : rightS d xs = true ∧ d ≠ 0 ∧ ∀ x ∈ xs, x.2 ≠ 0 := by
  simp only [freeS, hasS, Bool.and_eq_true, Bool.not_eq_true', Bool.or_eq_false_iff, List.any_eq_false, beq_iff_eq, beq_eq_false_iff_ne] at h
  exact ⟨(plain_parts h.1).1, h.2.2, h.2.1⟩
theorem ot_back {l : Int} (h : l ≠ 5) : ot 5 0 (ot 0 5 l) = l := by
  unfold ot; by_cases h0 : l = 0
  · subst h0; rfl
  · simp [h0, h]
theorem ot_apart {l d : Int} (hl : l ≠ 5) (hd : d ≠ 5) (h : l ≠ d) : ot 0 5 l ≠ ot 0 5 d := fun e => h (by rw [← ot_back hl, e, ot_back hd])
theorem up_plain {d : Int} {xs : List (Int × Int)} (h : plainS d xs = true) : upS d xs = turnS 0 5 xs := by
  obtain ⟨r, hd, hx⟩ := plain_parts h
  refine short_self fun y hy => ?_
  obtain ⟨x, hm, rfl⟩ := List.mem_map.1 hy
  exact ot_apart (hx x hm) hd ((right_rise r).2.1 x hm)
theorem down_up {d : Int} {xs : List (Int × Int)} (h : plainS d xs = true) : dnS (upD d) (upS d xs) = xs := by
  obtain ⟨r, hd, hx⟩ := plain_parts h
  rw [up_plain h]
  unfold dnS upD
  rw [ot_back hd]
  have e : turnS 5 0 (turnS 0 5 xs) = xs := by
    unfold turnS
    rw [List.map_map]
    conv => rhs; rw [← List.map_id xs]
    exact List.map_congr_left fun x hm => by simp [ot_back (hx x hm)]
  rw [e]; exact short_self (right_rise r).2.1
theorem down_upD {d : Int} {xs : List (Int × Int)} (h : plainS d xs = true) : dnD (upD d) = d := ot_back (plain_parts h).2.1
theorem up_free {d : Int} {xs : List (Int × Int)} (h : freeS d xs = true) : upD d = d ∧ upS d xs = xs := by
  obtain ⟨r, hd, hx⟩ := free_parts h
  have e1 : ot 0 5 d = d := by simp [ot, hd]
  refine ⟨e1, ?_⟩
  have e : turnS 0 5 xs = xs := by
    unfold turnS
    conv => rhs; rw [← List.map_id xs]
    exact List.map_congr_left fun x hm => by simp [ot, hx x hm]
  unfold upS
  rw [e1, e]; exact short_self (right_rise r).2.1
theorem sees_free {dt dO : Int} {xs ys : List (Int × Int)} (h : freeS dt xs = true) : seesS dt dO xs ys = leqS dO dt ys xs := by
  unfold seesS; rw [(up_free h).1, (up_free h).2]
theorem flow_on {dt du dO : Int} {xs us ys : List (Int × Int)} (ht : freeS dt xs = true) (hu : freeS du us = true) (ho : rightS dO ys = true) (h1 : leqS dt du xs us = true) (h2 : seesS dt dO xs ys = true) : seesS du dO us ys = true := by
  rw [sees_free ht] at h2
  rw [sees_free hu]
  exact leq_trans ho (free_parts ht).1 (free_parts hu).1 h2 h1
theorem alters_same {dt dO : Int} {xs ys : List (Int × Int)} (ht : freeS dt xs = true) (ho : rightS dO ys = true) (h : altersS dt dO xs ys = true) : sameS dt dO xs ys = true := by
  simp only [altersS, Bool.and_eq_true] at h
  rw [sees_free ht] at h
  rw [← leq_anti (free_parts ht).1 ho h.1]; exact h.2
theorem alters_sees {dt dO : Int} {xs ys : List (Int × Int)} (h : altersS dt dO xs ys = true) : seesS dt dO xs ys = true := by
  simp only [altersS, Bool.and_eq_true] at h; exact h.2
end Go.Proofs.YtibnmiigfiofmabDoor
