/- What right of package label answers. -/
import Derived.Test.YtfpjeclbilhgdaaDoorPut
import Derived.Laws.Strings2
namespace Go.Proofs.YtfpjeclbilhgdaaDoor
open Go.RowKit Go.Sort

def rD (d : Int) (xs : List (Int × Int)) : Int := if rightS d xs = true then d else 0
def rL (d : Int) (xs : List (Int × Int)) : List (Int × Int) := if rightS d xs = true then xs else []
def rE (d : Int) (xs : List (Int × Int)) : Int := if rightS d xs = true then 0 else 2

set_option maxHeartbeats 400000 in
theorem rightL_any (B : Nat) (d : Int) (v : Value) (xs : List (Int × Int)) (w : World) (hm : xs.length ≤ maxLen) (hR : Rw B w v xs) :
    Calls Tryd.prog 21 #[.agg #[.int .i64 d, v]] w fun e w' => ∃ v', e = .returned (.tuple #[.agg #[.int .i64 (rD d xs), v'], .int .i64 (rE d xs)]) ∧ Rw B w' v' (rL d xs) ∧ Below w.heap.size w w' := by
  obtain ⟨p, cap, rfl, hc, hcap⟩ := hR.out
  have hW : Below w.heap.size w ((w.alloc (.cells #[.int .i64 d, .slice p xs.length cap] 24)).alloc (.cells #[.int .i64 0, .slice none 0 0] 24)) := by go_grown
  have hRi := Right_any d p cap xs _ hm (hc.below hW)
  clear hc
  by_cases hr : rightS d xs = true
  · rw [hr] at hRi
    have HD : Hid (rD d xs = d ∧ rL d xs = xs ∧ rE d xs = 0) := by simp [Hid, rD, rL, rE, hr]
    go_enter Tryd.func21, Tryd.ntmps21
    go_wp2_with (go_at_call 44; refine hRi.mono ?_; rintro e w5 ⟨rfl, hb5⟩; refine Hid.out ?_)
    refine Lib.hid ?_
    have a0 : w5.cell? ⟨w.heap.size, 0, none⟩ = some (.int .i64 d) := (hb5.cell (p := ⟨w.heap.size, 0, none⟩) (by simp; omega)).trans (by simp [go_sem])
    have a1 : w5.cell? ⟨w.heap.size, 1, none⟩ = some (.slice p xs.length cap) := (hb5.cell (p := ⟨w.heap.size, 1, none⟩) (by simp; omega)).trans (by simp [go_sem])
    have s0 : w5.cell? ⟨w.heap.size + 1, 0, none⟩ = some (.int .i64 0) := (hb5.cell (p := ⟨w.heap.size + 1, 0, none⟩) (by simp)).trans (by simp [go_sem])
    have s1 : w5.cell? ⟨w.heap.size + 1, 1, none⟩ = some (.slice none 0 0) := (hb5.cell (p := ⟨w.heap.size + 1, 1, none⟩) (by simp)).trans (by simp [go_sem])
    have sf : ∀ o, w5.frozen? ⟨w.heap.size + 1, o, none⟩ = false := fun o => (hb5.frozen (p := ⟨w.heap.size + 1, o, none⟩) (by simp)).trans (by simp [go_sem])
    have hB5 : Below w.heap.size w w5 := hW.trans (hb5.mono hW.size)
    clear hRi
    go_wp2
    refine bodyPost_ret (by simp [results, Tryd.results21, go_sem, s0, s1]; rfl) rfl ⟨.slice p xs.length cap, ?_, ?_, ?_⟩
    · rw [HD.out.1, HD.out.2.2]
    · rw [HD.out.2.1]; exact hR.below ((hB5.setCell (p := ⟨w.heap.size + 1, 0, none⟩) (by simp) _).setCell (p := ⟨w.heap.size + 1, 1, none⟩) (by simp) _)
    · exact (hB5.setCell (p := ⟨w.heap.size + 1, 0, none⟩) (by simp) _).setCell (p := ⟨w.heap.size + 1, 1, none⟩) (by simp) _
  · have hr' : rightS d xs = false := by simpa using hr
    rw [hr'] at hRi
    have HD : Hid (rD d xs = 0 ∧ rL d xs = [] ∧ rE d xs = 2) := by simp [Hid, rD, rL, rE, hr]
    go_enter Tryd.func21, Tryd.ntmps21
    go_wp2_with (go_at_call 44; refine hRi.mono ?_; rintro e w5 ⟨rfl, hb5⟩; refine Hid.out ?_)
    refine Lib.hid ?_
    have s0 : w5.cell? ⟨w.heap.size + 1, 0, none⟩ = some (.int .i64 0) := (hb5.cell (p := ⟨w.heap.size + 1, 0, none⟩) (by simp)).trans (by simp [go_sem])
    have s1 : w5.cell? ⟨w.heap.size + 1, 1, none⟩ = some (.slice none 0 0) := (hb5.cell (p := ⟨w.heap.size + 1, 1, none⟩) (by simp)).trans (by simp [go_sem])
    have sf : ∀ o, w5.frozen? ⟨w.heap.size + 1, o, none⟩ = false := fun o => (hb5.frozen (p := ⟨w.heap.size + 1, o, none⟩) (by simp)).trans (by simp [go_sem])
    have hB5 : Below w.heap.size w w5 := hW.trans (hb5.mono hW.size)
    clear hRi
    go_wp2
    refine bodyPost_ret (by simp [results, Tryd.results21, go_sem, s0, s1]; rfl) rfl ⟨.slice none 0 0, ?_, ?_, ?_⟩
    · rw [HD.out.1, HD.out.2.2]
    · rw [HD.out.2.1]; exact .inl ⟨rfl, rfl⟩
    · exact (hB5.setCell (p := ⟨w.heap.size + 1, 0, none⟩) (by simp) _).setCell (p := ⟨w.heap.size + 1, 1, none⟩) (by simp) _

/- The entries that bytes say. -/
end Go.Proofs.YtfpjeclbilhgdaaDoor
