/- lives of the statements' package. -/
import Derived.Test.YtnjmgholoigpkaaPEnter
import Derived.Test.YtnjmgholoigpkaaMonoF
import Derived.Deep.Cut
namespace Go.Proofs.Ytnjmgholoigpkaa
open Go.RowKit Go.Sort
theorem ent_passage_Make : Enters 11 := fun args W => by go_simp
theorem ent_passage_Enter : Enters 25 := fun args W => by go_simp
theorem run_eqE {ev : Operand → Value} {W : World} {dst : Option Nat} {ty : TypeId} {pos : String} {af : Array Edge} {gd : Option (Nat × Bool)} {a b : Int} {x y : Operand} {t : TypeId} (hx : ev x = .int .i64 a) (hy : ev y = .int .i64 b) :
    (execOp ev { dst := dst, op := .binOp .eql 29 x y t, type := ty, pos := pos, after := af, guard := gd }).run Try.prog W = .ok (.value (.bool (a == b))) W := by
  go_simp
theorem lbox1 {W : World} {b g : Nat} {d c x : Int} (hb : b < W.heap.size) (h0 : W.cell? ⟨b, 0, none⟩ = some (.int .i64 d)) (h1 : W.cell? ⟨b, 1, none⟩ = some (.slice (some ⟨g, 0, none⟩) 1 1)) (hg : g < W.heap.size) (e0 : W.cell? ⟨g, 0, none⟩ = some (.int .i64 c)) (e1 : W.cell? ⟨g, 1, none⟩ = some (.int .i64 x)) : LBox (d, [(c, x)]) W b 0 :=
  ⟨some ⟨g, 0, none⟩, 1, hb, h0, h1, fun j hj => by
    obtain rfl : j = 0 := by simp at hj; exact hj
    exact ⟨g, 0, rfl, hg, e0, e1⟩, by simp, by simp⟩
theorem lbox0 {W : World} {b : Nat} {d : Int} (hb : b < W.heap.size) (h0 : W.cell? ⟨b, 0, none⟩ = some (.int .i64 d)) (h1 : W.cell? ⟨b, 1, none⟩ = some (.slice none 0 0)) : LBox (d, []) W b 0 :=
  ⟨none, 0, hb, h0, h1, fun j hj => absurd hj (by simp), by simp, by simp⟩
set_option maxRecDepth 100000 in
set_option maxHeartbeats 2000000 in
theorem lives_c (w : World) : Calls Try.prog 9 #[] w fun e w' => e = .returned (.bool true) ∧ Below w.heap.size w w' := by
  obtain ⟨W0, hW0⟩ : ∃ W0, W0 = (((((((w.alloc (.cells #[.int .i64 5, .int .i64 0] 50)).alloc (.cells #[.int .i64 2, .slice (some ⟨w.heap.size, 0, none⟩) 1 1] 24)).alloc (.cells #[.int .i64 2, .slice none 0 0] 24)).alloc (.cells #[.int .i64 3, .slice none 0 0] 24)).alloc (.cells #[.int .i64 4, .slice none 0 0] 24)).alloc (.cells #[.int .i64 7, .int .i64 4] 50)).alloc (.cells #[.int .i64 2, .slice (some ⟨w.heap.size + 1 + 1 + 1 + 1 + 1, 0, none⟩) 1 1] 24)) := ⟨_, rfl⟩
  have hA : Below w.heap.size w W0 := by rw [hW0]; go_grown
  have hown : LBox (2, [(5, 0)]) W0 (w.heap.size + 1) 0 := by rw [hW0]; exact lbox1 (g := w.heap.size) (by simp <;> omega) (by simp [go_sem]) (by simp [go_sem]) (by simp <;> omega) (by simp [go_sem]) (by simp [go_sem])
  have hone : LBox (2, []) W0 (w.heap.size + 1 + 1) 0 := by rw [hW0]; exact lbox0 (by simp <;> omega) (by simp [go_sem]) (by simp [go_sem])
  have htwo : LBox (3, []) W0 (w.heap.size + 1 + 1 + 1) 0 := by rw [hW0]; exact lbox0 (by simp <;> omega) (by simp [go_sem]) (by simp [go_sem])
  have hthree : LBox (4, []) W0 (w.heap.size + 1 + 1 + 1 + 1) 0 := by rw [hW0]; exact lbox0 (by simp <;> omega) (by simp [go_sem]) (by simp [go_sem])
  have hdirty : LBox (2, [(7, 4)]) W0 (w.heap.size + 1 + 1 + 1 + 1 + 1 + 1) 0 := by rw [hW0]; exact lbox1 (g := w.heap.size + 1 + 1 + 1 + 1 + 1) (by simp <;> omega) (by simp [go_sem]) (by simp [go_sem]) (by simp <;> omega) (by simp [go_sem]) (by simp [go_sem])
  go_enter Try.func9, Try.ntmps9
  go_upto_region 4 with fail
  rw [← hW0]
  refine wp_region_monoF 42 (fun kq v W => match kq with | 15 => LV ((2, [(5, 0)]) : ML) v W | 16 => LV ((4, []) : ML) v W | 17 => LV ((2, []) : ML) v W | 18 => LV ((2, [(7, 4)]) : ML) v W | 19 => v = .int .i64 (makeI ((2, [(5, 0)]) : ML) ((4, []) : ML) ((2, []) : ML) ((2, [(7, 4)]) : ML)) | 20 => v = .bool ((makeI ((2, [(5, 0)]) : ML) ((4, []) : ML) ((2, []) : ML) ((2, [(7, 4)]) : ML)) == 0) | 21 => v = .bool ((makeI ((2, [(5, 0)]) : ML) ((4, []) : ML) ((2, []) : ML) ((2, [(7, 4)]) : ML)) == 0) | 22 => (((makeI ((2, [(5, 0)]) : ML) ((4, []) : ML) ((2, []) : ML) ((2, [(7, 4)]) : ML)) == 0) = true → LV ((2, [(5, 0)]) : ML) v W) | 23 => (((makeI ((2, [(5, 0)]) : ML) ((4, []) : ML) ((2, []) : ML) ((2, [(7, 4)]) : ML)) == 0) = true → LV ((4, []) : ML) v W) | 24 => (((makeI ((2, [(5, 0)]) : ML) ((4, []) : ML) ((2, []) : ML) ((2, [(7, 4)]) : ML)) == 0) = true → LV ((2, []) : ML) v W) | 25 => (((makeI ((2, [(5, 0)]) : ML) ((4, []) : ML) ((2, []) : ML) ((2, [(7, 4)]) : ML)) == 0) = true → LV ((1, []) : ML) v W) | 26 => (((makeI ((2, [(5, 0)]) : ML) ((4, []) : ML) ((2, []) : ML) ((2, [(7, 4)]) : ML)) == 0) = true → v = .int .i64 (makeI ((2, [(5, 0)]) : ML) ((4, []) : ML) ((2, []) : ML) ((1, []) : ML))) | 27 => (((makeI ((2, [(5, 0)]) : ML) ((4, []) : ML) ((2, []) : ML) ((2, [(7, 4)]) : ML)) == 0) = true → v = .bool ((makeI ((2, [(5, 0)]) : ML) ((4, []) : ML) ((2, []) : ML) ((1, []) : ML)) == 3)) | 28 => v = .bool (((makeI ((2, [(5, 0)]) : ML) ((4, []) : ML) ((2, []) : ML) ((2, [(7, 4)]) : ML)) == 0) && ((makeI ((2, [(5, 0)]) : ML) ((4, []) : ML) ((2, []) : ML) ((1, []) : ML)) == 3)) | 29 => v = .bool (((makeI ((2, [(5, 0)]) : ML) ((4, []) : ML) ((2, []) : ML) ((2, [(7, 4)]) : ML)) == 0) && ((makeI ((2, [(5, 0)]) : ML) ((4, []) : ML) ((2, []) : ML) ((1, []) : ML)) == 3)) | 30 => ((((makeI ((2, [(5, 0)]) : ML) ((4, []) : ML) ((2, []) : ML) ((2, [(7, 4)]) : ML)) == 0) && ((makeI ((2, [(5, 0)]) : ML) ((4, []) : ML) ((2, []) : ML) ((1, []) : ML)) == 3)) = true → LV ((2, [(7, 4)]) : ML) v W) | 31 => ((((makeI ((2, [(5, 0)]) : ML) ((4, []) : ML) ((2, []) : ML) ((2, [(7, 4)]) : ML)) == 0) && ((makeI ((2, [(5, 0)]) : ML) ((4, []) : ML) ((2, []) : ML) ((1, []) : ML)) == 3)) = true → LV ((4, []) : ML) v W) | 32 => ((((makeI ((2, [(5, 0)]) : ML) ((4, []) : ML) ((2, []) : ML) ((2, [(7, 4)]) : ML)) == 0) && ((makeI ((2, [(5, 0)]) : ML) ((4, []) : ML) ((2, []) : ML) ((1, []) : ML)) == 3)) = true → LV ((2, []) : ML) v W) | 33 => ((((makeI ((2, [(5, 0)]) : ML) ((4, []) : ML) ((2, []) : ML) ((2, [(7, 4)]) : ML)) == 0) && ((makeI ((2, [(5, 0)]) : ML) ((4, []) : ML) ((2, []) : ML) ((1, []) : ML)) == 3)) = true → LV ((2, [(7, 4)]) : ML) v W) | 34 => ((((makeI ((2, [(5, 0)]) : ML) ((4, []) : ML) ((2, []) : ML) ((2, [(7, 4)]) : ML)) == 0) && ((makeI ((2, [(5, 0)]) : ML) ((4, []) : ML) ((2, []) : ML) ((1, []) : ML)) == 3)) = true → v = .int .i64 (makeI ((2, [(7, 4)]) : ML) ((4, []) : ML) ((2, []) : ML) ((2, [(7, 4)]) : ML))) | 35 => ((((makeI ((2, [(5, 0)]) : ML) ((4, []) : ML) ((2, []) : ML) ((2, [(7, 4)]) : ML)) == 0) && ((makeI ((2, [(5, 0)]) : ML) ((4, []) : ML) ((2, []) : ML) ((1, []) : ML)) == 3)) = true → v = .bool ((makeI ((2, [(7, 4)]) : ML) ((4, []) : ML) ((2, []) : ML) ((2, [(7, 4)]) : ML)) == 3)) | 36 => v = .bool ((((makeI ((2, [(5, 0)]) : ML) ((4, []) : ML) ((2, []) : ML) ((2, [(7, 4)]) : ML)) == 0) && ((makeI ((2, [(5, 0)]) : ML) ((4, []) : ML) ((2, []) : ML) ((1, []) : ML)) == 3)) && ((makeI ((2, [(7, 4)]) : ML) ((4, []) : ML) ((2, []) : ML) ((2, [(7, 4)]) : ML)) == 3)) | 37 => v = .bool ((((makeI ((2, [(5, 0)]) : ML) ((4, []) : ML) ((2, []) : ML) ((2, [(7, 4)]) : ML)) == 0) && ((makeI ((2, [(5, 0)]) : ML) ((4, []) : ML) ((2, []) : ML) ((1, []) : ML)) == 3)) && ((makeI ((2, [(7, 4)]) : ML) ((4, []) : ML) ((2, []) : ML) ((2, [(7, 4)]) : ML)) == 3)) | 38 => (((((makeI ((2, [(5, 0)]) : ML) ((4, []) : ML) ((2, []) : ML) ((2, [(7, 4)]) : ML)) == 0) && ((makeI ((2, [(5, 0)]) : ML) ((4, []) : ML) ((2, []) : ML) ((1, []) : ML)) == 3)) && ((makeI ((2, [(7, 4)]) : ML) ((4, []) : ML) ((2, []) : ML) ((2, [(7, 4)]) : ML)) == 3)) = true → LV ((2, []) : ML) v W) | 39 => (((((makeI ((2, [(5, 0)]) : ML) ((4, []) : ML) ((2, []) : ML) ((2, [(7, 4)]) : ML)) == 0) && ((makeI ((2, [(5, 0)]) : ML) ((4, []) : ML) ((2, []) : ML) ((1, []) : ML)) == 3)) && ((makeI ((2, [(7, 4)]) : ML) ((4, []) : ML) ((2, []) : ML) ((2, [(7, 4)]) : ML)) == 3)) = true → LV ((3, []) : ML) v W) | 40 => (((((makeI ((2, [(5, 0)]) : ML) ((4, []) : ML) ((2, []) : ML) ((2, [(7, 4)]) : ML)) == 0) && ((makeI ((2, [(5, 0)]) : ML) ((4, []) : ML) ((2, []) : ML) ((1, []) : ML)) == 3)) && ((makeI ((2, [(7, 4)]) : ML) ((4, []) : ML) ((2, []) : ML) ((2, [(7, 4)]) : ML)) == 3)) = true → LV ((2, [(5, 0)]) : ML) v W) | 41 => (((((makeI ((2, [(5, 0)]) : ML) ((4, []) : ML) ((2, []) : ML) ((2, [(7, 4)]) : ML)) == 0) && ((makeI ((2, [(5, 0)]) : ML) ((4, []) : ML) ((2, []) : ML) ((1, []) : ML)) == 3)) && ((makeI ((2, [(7, 4)]) : ML) ((4, []) : ML) ((2, []) : ML) ((2, [(7, 4)]) : ML)) == 3)) = true → LV ((3, []) : ML) v W) | 42 => (((((makeI ((2, [(5, 0)]) : ML) ((4, []) : ML) ((2, []) : ML) ((2, [(7, 4)]) : ML)) == 0) && ((makeI ((2, [(5, 0)]) : ML) ((4, []) : ML) ((2, []) : ML) ((1, []) : ML)) == 3)) && ((makeI ((2, [(7, 4)]) : ML) ((4, []) : ML) ((2, []) : ML) ((2, [(7, 4)]) : ML)) == 3)) = true → LV ((2, [(5, 0)]) : ML) v W) | 43 => (((((makeI ((2, [(5, 0)]) : ML) ((4, []) : ML) ((2, []) : ML) ((2, [(7, 4)]) : ML)) == 0) && ((makeI ((2, [(5, 0)]) : ML) ((4, []) : ML) ((2, []) : ML) ((1, []) : ML)) == 3)) && ((makeI ((2, [(7, 4)]) : ML) ((4, []) : ML) ((2, []) : ML) ((2, [(7, 4)]) : ML)) == 3)) = true → LV ((3, []) : ML) v W) | 44 => (((((makeI ((2, [(5, 0)]) : ML) ((4, []) : ML) ((2, []) : ML) ((2, [(7, 4)]) : ML)) == 0) && ((makeI ((2, [(5, 0)]) : ML) ((4, []) : ML) ((2, []) : ML) ((1, []) : ML)) == 3)) && ((makeI ((2, [(7, 4)]) : ML) ((4, []) : ML) ((2, []) : ML) ((2, [(7, 4)]) : ML)) == 3)) = true → v = .int .i64 (enterI ((2, []) : ML) ((3, []) : ML) ((2, [(5, 0)]) : ML) ((3, []) : ML) ((2, [(5, 0)]) : ML) ((3, []) : ML))) | 45 => (((((makeI ((2, [(5, 0)]) : ML) ((4, []) : ML) ((2, []) : ML) ((2, [(7, 4)]) : ML)) == 0) && ((makeI ((2, [(5, 0)]) : ML) ((4, []) : ML) ((2, []) : ML) ((1, []) : ML)) == 3)) && ((makeI ((2, [(7, 4)]) : ML) ((4, []) : ML) ((2, []) : ML) ((2, [(7, 4)]) : ML)) == 3)) = true → v = .bool ((enterI ((2, []) : ML) ((3, []) : ML) ((2, [(5, 0)]) : ML) ((3, []) : ML) ((2, [(5, 0)]) : ML) ((3, []) : ML)) == 0)) | 46 => v = .bool (((((makeI ((2, [(5, 0)]) : ML) ((4, []) : ML) ((2, []) : ML) ((2, [(7, 4)]) : ML)) == 0) && ((makeI ((2, [(5, 0)]) : ML) ((4, []) : ML) ((2, []) : ML) ((1, []) : ML)) == 3)) && ((makeI ((2, [(7, 4)]) : ML) ((4, []) : ML) ((2, []) : ML) ((2, [(7, 4)]) : ML)) == 3)) && ((enterI ((2, []) : ML) ((3, []) : ML) ((2, [(5, 0)]) : ML) ((3, []) : ML) ((2, [(5, 0)]) : ML) ((3, []) : ML)) == 0)) | 47 => v = .bool (((((makeI ((2, [(5, 0)]) : ML) ((4, []) : ML) ((2, []) : ML) ((2, [(7, 4)]) : ML)) == 0) && ((makeI ((2, [(5, 0)]) : ML) ((4, []) : ML) ((2, []) : ML) ((1, []) : ML)) == 3)) && ((makeI ((2, [(7, 4)]) : ML) ((4, []) : ML) ((2, []) : ML) ((2, [(7, 4)]) : ML)) == 3)) && ((enterI ((2, []) : ML) ((3, []) : ML) ((2, [(5, 0)]) : ML) ((3, []) : ML) ((2, [(5, 0)]) : ML) ((3, []) : ML)) == 0)) | 48 => ((((((makeI ((2, [(5, 0)]) : ML) ((4, []) : ML) ((2, []) : ML) ((2, [(7, 4)]) : ML)) == 0) && ((makeI ((2, [(5, 0)]) : ML) ((4, []) : ML) ((2, []) : ML) ((1, []) : ML)) == 3)) && ((makeI ((2, [(7, 4)]) : ML) ((4, []) : ML) ((2, []) : ML) ((2, [(7, 4)]) : ML)) == 3)) && ((enterI ((2, []) : ML) ((3, []) : ML) ((2, [(5, 0)]) : ML) ((3, []) : ML) ((2, [(5, 0)]) : ML) ((3, []) : ML)) == 0)) = true → LV ((2, [(7, 4)]) : ML) v W) | 49 => ((((((makeI ((2, [(5, 0)]) : ML) ((4, []) : ML) ((2, []) : ML) ((2, [(7, 4)]) : ML)) == 0) && ((makeI ((2, [(5, 0)]) : ML) ((4, []) : ML) ((2, []) : ML) ((1, []) : ML)) == 3)) && ((makeI ((2, [(7, 4)]) : ML) ((4, []) : ML) ((2, []) : ML) ((2, [(7, 4)]) : ML)) == 3)) && ((enterI ((2, []) : ML) ((3, []) : ML) ((2, [(5, 0)]) : ML) ((3, []) : ML) ((2, [(5, 0)]) : ML) ((3, []) : ML)) == 0)) = true → LV ((4, []) : ML) v W) | 50 => ((((((makeI ((2, [(5, 0)]) : ML) ((4, []) : ML) ((2, []) : ML) ((2, [(7, 4)]) : ML)) == 0) && ((makeI ((2, [(5, 0)]) : ML) ((4, []) : ML) ((2, []) : ML) ((1, []) : ML)) == 3)) && ((makeI ((2, [(7, 4)]) : ML) ((4, []) : ML) ((2, []) : ML) ((2, [(7, 4)]) : ML)) == 3)) && ((enterI ((2, []) : ML) ((3, []) : ML) ((2, [(5, 0)]) : ML) ((3, []) : ML) ((2, [(5, 0)]) : ML) ((3, []) : ML)) == 0)) = true → LV ((2, [(5, 0)]) : ML) v W) | 51 => ((((((makeI ((2, [(5, 0)]) : ML) ((4, []) : ML) ((2, []) : ML) ((2, [(7, 4)]) : ML)) == 0) && ((makeI ((2, [(5, 0)]) : ML) ((4, []) : ML) ((2, []) : ML) ((1, []) : ML)) == 3)) && ((makeI ((2, [(7, 4)]) : ML) ((4, []) : ML) ((2, []) : ML) ((2, [(7, 4)]) : ML)) == 3)) && ((enterI ((2, []) : ML) ((3, []) : ML) ((2, [(5, 0)]) : ML) ((3, []) : ML) ((2, [(5, 0)]) : ML) ((3, []) : ML)) == 0)) = true → LV ((3, []) : ML) v W) | 52 => ((((((makeI ((2, [(5, 0)]) : ML) ((4, []) : ML) ((2, []) : ML) ((2, [(7, 4)]) : ML)) == 0) && ((makeI ((2, [(5, 0)]) : ML) ((4, []) : ML) ((2, []) : ML) ((1, []) : ML)) == 3)) && ((makeI ((2, [(7, 4)]) : ML) ((4, []) : ML) ((2, []) : ML) ((2, [(7, 4)]) : ML)) == 3)) && ((enterI ((2, []) : ML) ((3, []) : ML) ((2, [(5, 0)]) : ML) ((3, []) : ML) ((2, [(5, 0)]) : ML) ((3, []) : ML)) == 0)) = true → LV ((2, [(5, 0)]) : ML) v W) | 53 => ((((((makeI ((2, [(5, 0)]) : ML) ((4, []) : ML) ((2, []) : ML) ((2, [(7, 4)]) : ML)) == 0) && ((makeI ((2, [(5, 0)]) : ML) ((4, []) : ML) ((2, []) : ML) ((1, []) : ML)) == 3)) && ((makeI ((2, [(7, 4)]) : ML) ((4, []) : ML) ((2, []) : ML) ((2, [(7, 4)]) : ML)) == 3)) && ((enterI ((2, []) : ML) ((3, []) : ML) ((2, [(5, 0)]) : ML) ((3, []) : ML) ((2, [(5, 0)]) : ML) ((3, []) : ML)) == 0)) = true → LV ((3, []) : ML) v W) | 54 => ((((((makeI ((2, [(5, 0)]) : ML) ((4, []) : ML) ((2, []) : ML) ((2, [(7, 4)]) : ML)) == 0) && ((makeI ((2, [(5, 0)]) : ML) ((4, []) : ML) ((2, []) : ML) ((1, []) : ML)) == 3)) && ((makeI ((2, [(7, 4)]) : ML) ((4, []) : ML) ((2, []) : ML) ((2, [(7, 4)]) : ML)) == 3)) && ((enterI ((2, []) : ML) ((3, []) : ML) ((2, [(5, 0)]) : ML) ((3, []) : ML) ((2, [(5, 0)]) : ML) ((3, []) : ML)) == 0)) = true → v = .int .i64 (enterI ((2, [(7, 4)]) : ML) ((4, []) : ML) ((2, [(5, 0)]) : ML) ((3, []) : ML) ((2, [(5, 0)]) : ML) ((3, []) : ML))) | 55 => ((((((makeI ((2, [(5, 0)]) : ML) ((4, []) : ML) ((2, []) : ML) ((2, [(7, 4)]) : ML)) == 0) && ((makeI ((2, [(5, 0)]) : ML) ((4, []) : ML) ((2, []) : ML) ((1, []) : ML)) == 3)) && ((makeI ((2, [(7, 4)]) : ML) ((4, []) : ML) ((2, []) : ML) ((2, [(7, 4)]) : ML)) == 3)) && ((enterI ((2, []) : ML) ((3, []) : ML) ((2, [(5, 0)]) : ML) ((3, []) : ML) ((2, [(5, 0)]) : ML) ((3, []) : ML)) == 0)) = true → v = .bool ((enterI ((2, [(7, 4)]) : ML) ((4, []) : ML) ((2, [(5, 0)]) : ML) ((3, []) : ML) ((2, [(5, 0)]) : ML) ((3, []) : ML)) == 3)) | 56 => v = .bool ((((((makeI ((2, [(5, 0)]) : ML) ((4, []) : ML) ((2, []) : ML) ((2, [(7, 4)]) : ML)) == 0) && ((makeI ((2, [(5, 0)]) : ML) ((4, []) : ML) ((2, []) : ML) ((1, []) : ML)) == 3)) && ((makeI ((2, [(7, 4)]) : ML) ((4, []) : ML) ((2, []) : ML) ((2, [(7, 4)]) : ML)) == 3)) && ((enterI ((2, []) : ML) ((3, []) : ML) ((2, [(5, 0)]) : ML) ((3, []) : ML) ((2, [(5, 0)]) : ML) ((3, []) : ML)) == 0)) && ((enterI ((2, [(7, 4)]) : ML) ((4, []) : ML) ((2, [(5, 0)]) : ML) ((3, []) : ML) ((2, [(5, 0)]) : ML) ((3, []) : ML)) == 3)) | _ => True) (by kernel_rfl) (by kernel_rfl) (by simp) ?_ ?_ ?_
  · intro kq v W W' h hb
    revert h
    try dsimp only
    split
    · intro h; exact LV.below h hb
    · intro h; exact LV.below h hb
    · intro h; exact LV.below h hb
    · intro h; exact LV.below h hb
    · intro h; exact h
    · intro h; exact h
    · intro h; exact h
    · intro h' e; have h := h' e; exact LV.below h hb
    · intro h' e; have h := h' e; exact LV.below h hb
    · intro h' e; have h := h' e; exact LV.below h hb
    · intro h' e; have h := h' e; exact LV.below h hb
    · intro h' e; have h := h' e; exact h
    · intro h' e; have h := h' e; exact h
    · intro h; exact h
    · intro h; exact h
    · intro h' e; have h := h' e; exact LV.below h hb
    · intro h' e; have h := h' e; exact LV.below h hb
    · intro h' e; have h := h' e; exact LV.below h hb
    · intro h' e; have h := h' e; exact LV.below h hb
    · intro h' e; have h := h' e; exact h
    · intro h' e; have h := h' e; exact h
    · intro h; exact h
    · intro h; exact h
    · intro h' e; have h := h' e; exact LV.below h hb
    · intro h' e; have h := h' e; exact LV.below h hb
    · intro h' e; have h := h' e; exact LV.below h hb
    · intro h' e; have h := h' e; exact LV.below h hb
    · intro h' e; have h := h' e; exact LV.below h hb
    · intro h' e; have h := h' e; exact LV.below h hb
    · intro h' e; have h := h' e; exact h
    · intro h' e; have h := h' e; exact h
    · intro h; exact h
    · intro h; exact h
    · intro h' e; have h := h' e; exact LV.below h hb
    · intro h' e; have h := h' e; exact LV.below h hb
    · intro h' e; have h := h' e; exact LV.below h hb
    · intro h' e; have h := h' e; exact LV.below h hb
    · intro h' e; have h := h' e; exact LV.below h hb
    · intro h' e; have h := h' e; exact LV.below h hb
    · intro h' e; have h := h' e; exact h
    · intro h' e; have h := h' e; exact h
    · intro h; exact h
    · intro h; trivial
  · intro a' W hB hs hk i o d ho hd hG
    match i, ho with
    | 0, ho =>
      obtain rfl : _ = o := Option.some.inj ho
      obtain rfl : 15 = d := Option.some.inj hd
      obtain ⟨v, hr, hv⟩ := run_loadL (ev := a'.eval) (W := W) (hk 1 (by kernel_rfl)) (hown.below hB)
      exact .inr ⟨rfl, .inl ⟨v, W, hr, Below.refl _ _, hv⟩⟩
    | 1, ho =>
      obtain rfl : _ = o := Option.some.inj ho
      obtain rfl : 16 = d := Option.some.inj hd
      obtain ⟨v, hr, hv⟩ := run_loadL (ev := a'.eval) (W := W) (hk 4 (by kernel_rfl)) (hthree.below hB)
      exact .inr ⟨rfl, .inl ⟨v, W, hr, Below.refl _ _, hv⟩⟩
    | 2, ho =>
      obtain rfl : _ = o := Option.some.inj ho
      obtain rfl : 17 = d := Option.some.inj hd
      obtain ⟨v, hr, hv⟩ := run_loadL (ev := a'.eval) (W := W) (hk 2 (by kernel_rfl)) (hone.below hB)
      exact .inr ⟨rfl, .inl ⟨v, W, hr, Below.refl _ _, hv⟩⟩
    | 3, ho =>
      obtain rfl : _ = o := Option.some.inj ho
      obtain rfl : 18 = d := Option.some.inj hd
      obtain ⟨v, hr, hv⟩ := run_loadL (ev := a'.eval) (W := W) (hk 5 (by kernel_rfl)) (hdirty.below hB)
      exact .inr ⟨rfl, .inl ⟨v, W, hr, Below.refl _ _, hv⟩⟩
    | 4, ho =>
      obtain rfl : _ = o := Option.some.inj ho
      obtain rfl : 19 = d := Option.some.inj hd
      have g15 : LV ((2, [(5, 0)]) : ML) (a'.eval (.tmp 15)) W := hG ⟨0, .data⟩ (by simp) rfl 15 rfl
      have g16 : LV ((4, []) : ML) (a'.eval (.tmp 16)) W := hG ⟨1, .data⟩ (by simp) rfl 16 rfl
      have g17 : LV ((2, []) : ML) (a'.eval (.tmp 17)) W := hG ⟨2, .data⟩ (by simp) rfl 17 rfl
      have g18 : LV ((2, [(7, 4)]) : ML) (a'.eval (.tmp 18)) W := hG ⟨3, .data⟩ (by simp) rfl 18 rfl
      exact .inr ⟨rfl, .inr ⟨_, _, run_call rfl map_4 ent_passage_Make, Make_c g15 g16 g17 g18⟩⟩
    | 5, ho =>
      obtain rfl : _ = o := Option.some.inj ho
      obtain rfl : 20 = d := Option.some.inj hd
      have g19 : (a'.eval (.tmp 19)) = .int .i64 (makeI ((2, [(5, 0)]) : ML) ((4, []) : ML) ((2, []) : ML) ((2, [(7, 4)]) : ML)) := hG ⟨4, .data⟩ (by simp) rfl 19 rfl
      exact .inr ⟨rfl, .inl ⟨_, W, run_eqE g19 rfl, Below.refl _ _, rfl⟩⟩
    | 6, ho =>
      obtain rfl : _ = o := Option.some.inj ho
      obtain rfl : 21 = d := Option.some.inj hd
      have g20 : (a'.eval (.tmp 20)) = .bool ((makeI ((2, [(5, 0)]) : ML) ((4, []) : ML) ((2, []) : ML) ((2, [(7, 4)]) : ML)) == 0) := hG ⟨5, .data⟩ (by simp) rfl 20 rfl
      exact .inr ⟨rfl, .inl ⟨_, W, run_move rfl, Below.refl _ _, g20⟩⟩
    | 7, ho =>
      obtain rfl : _ = o := Option.some.inj ho
      obtain rfl : 22 = d := Option.some.inj hd
      have gg : a'.eval (.tmp 21) = .bool ((makeI ((2, [(5, 0)]) : ML) ((4, []) : ML) ((2, []) : ML) ((2, [(7, 4)]) : ML)) == 0) := hG ⟨6, .guard⟩ (by simp) rfl 21 rfl
      by_cases gc : ((makeI ((2, [(5, 0)]) : ML) ((4, []) : ML) ((2, []) : ML) ((2, [(7, 4)]) : ML)) == 0) = true
      · obtain ⟨v, hr, hv⟩ := run_loadL (ev := a'.eval) (W := W) (hk 1 (by kernel_rfl)) (hown.below hB)
        exact .inr ⟨want_yes (n := 57) (d := 21) rfl hs (by decide) rfl (gg.trans (by rw [gc])), .inl ⟨v, W, hr, Below.refl _ _, fun _ => hv⟩⟩
      · exact .inl ⟨want_no (n := 57) (d := 21) rfl hs (by decide) rfl gg gc, fun e => absurd e gc⟩
    | 8, ho =>
      obtain rfl : _ = o := Option.some.inj ho
      obtain rfl : 23 = d := Option.some.inj hd
      have gg : a'.eval (.tmp 21) = .bool ((makeI ((2, [(5, 0)]) : ML) ((4, []) : ML) ((2, []) : ML) ((2, [(7, 4)]) : ML)) == 0) := hG ⟨6, .guard⟩ (by simp) rfl 21 rfl
      by_cases gc : ((makeI ((2, [(5, 0)]) : ML) ((4, []) : ML) ((2, []) : ML) ((2, [(7, 4)]) : ML)) == 0) = true
      · obtain ⟨v, hr, hv⟩ := run_loadL (ev := a'.eval) (W := W) (hk 4 (by kernel_rfl)) (hthree.below hB)
        exact .inr ⟨want_yes (n := 57) (d := 21) rfl hs (by decide) rfl (gg.trans (by rw [gc])), .inl ⟨v, W, hr, Below.refl _ _, fun _ => hv⟩⟩
      · exact .inl ⟨want_no (n := 57) (d := 21) rfl hs (by decide) rfl gg gc, fun e => absurd e gc⟩
    | 9, ho =>
      obtain rfl : _ = o := Option.some.inj ho
      obtain rfl : 24 = d := Option.some.inj hd
      have gg : a'.eval (.tmp 21) = .bool ((makeI ((2, [(5, 0)]) : ML) ((4, []) : ML) ((2, []) : ML) ((2, [(7, 4)]) : ML)) == 0) := hG ⟨6, .guard⟩ (by simp) rfl 21 rfl
      by_cases gc : ((makeI ((2, [(5, 0)]) : ML) ((4, []) : ML) ((2, []) : ML) ((2, [(7, 4)]) : ML)) == 0) = true
      · obtain ⟨v, hr, hv⟩ := run_loadL (ev := a'.eval) (W := W) (hk 2 (by kernel_rfl)) (hone.below hB)
        exact .inr ⟨want_yes (n := 57) (d := 21) rfl hs (by decide) rfl (gg.trans (by rw [gc])), .inl ⟨v, W, hr, Below.refl _ _, fun _ => hv⟩⟩
      · exact .inl ⟨want_no (n := 57) (d := 21) rfl hs (by decide) rfl gg gc, fun e => absurd e gc⟩
    | 10, ho =>
      obtain rfl : _ = o := Option.some.inj ho
      obtain rfl : 25 = d := Option.some.inj hd
      have gg : a'.eval (.tmp 21) = .bool ((makeI ((2, [(5, 0)]) : ML) ((4, []) : ML) ((2, []) : ML) ((2, [(7, 4)]) : ML)) == 0) := hG ⟨6, .guard⟩ (by simp) rfl 21 rfl
      by_cases gc : ((makeI ((2, [(5, 0)]) : ML) ((4, []) : ML) ((2, []) : ML) ((2, [(7, 4)]) : ML)) == 0) = true
      · exact .inr ⟨want_yes (n := 57) (d := 21) rfl hs (by decide) rfl (gg.trans (by rw [gc])), .inl ⟨_, W, run_build _ 1 rfl, Below.refl _ _, fun _ => lv_nil 1 W⟩⟩
      · exact .inl ⟨want_no (n := 57) (d := 21) rfl hs (by decide) rfl gg gc, fun e => absurd e gc⟩
    | 11, ho =>
      obtain rfl : _ = o := Option.some.inj ho
      obtain rfl : 26 = d := Option.some.inj hd
      have gg : a'.eval (.tmp 21) = .bool ((makeI ((2, [(5, 0)]) : ML) ((4, []) : ML) ((2, []) : ML) ((2, [(7, 4)]) : ML)) == 0) := hG ⟨6, .guard⟩ (by simp) rfl 21 rfl
      by_cases gc : ((makeI ((2, [(5, 0)]) : ML) ((4, []) : ML) ((2, []) : ML) ((2, [(7, 4)]) : ML)) == 0) = true
      · have g22 : LV ((2, [(5, 0)]) : ML) (a'.eval (.tmp 22)) W := hG ⟨7, .data⟩ (by simp) rfl 22 rfl gc
        have g23 : LV ((4, []) : ML) (a'.eval (.tmp 23)) W := hG ⟨8, .data⟩ (by simp) rfl 23 rfl gc
        have g24 : LV ((2, []) : ML) (a'.eval (.tmp 24)) W := hG ⟨9, .data⟩ (by simp) rfl 24 rfl gc
        have g25 : LV ((1, []) : ML) (a'.eval (.tmp 25)) W := hG ⟨10, .data⟩ (by simp) rfl 25 rfl gc
        exact .inr ⟨want_yes (n := 57) (d := 21) rfl hs (by decide) rfl (gg.trans (by rw [gc])), .inr ⟨_, _, run_call rfl map_4 ent_passage_Make, (Make_c g22 g23 g24 g25).mono (fun e W' ⟨v, he, hb, hv⟩ => ⟨v, he, hb, fun _ => hv⟩)⟩⟩
      · exact .inl ⟨want_no (n := 57) (d := 21) rfl hs (by decide) rfl gg gc, fun e => absurd e gc⟩
    | 12, ho =>
      obtain rfl : _ = o := Option.some.inj ho
      obtain rfl : 27 = d := Option.some.inj hd
      have gg : a'.eval (.tmp 21) = .bool ((makeI ((2, [(5, 0)]) : ML) ((4, []) : ML) ((2, []) : ML) ((2, [(7, 4)]) : ML)) == 0) := hG ⟨6, .guard⟩ (by simp) rfl 21 rfl
      by_cases gc : ((makeI ((2, [(5, 0)]) : ML) ((4, []) : ML) ((2, []) : ML) ((2, [(7, 4)]) : ML)) == 0) = true
      · have g26 : (a'.eval (.tmp 26)) = .int .i64 (makeI ((2, [(5, 0)]) : ML) ((4, []) : ML) ((2, []) : ML) ((1, []) : ML)) := hG ⟨11, .data⟩ (by simp) rfl 26 rfl gc
        exact .inr ⟨want_yes (n := 57) (d := 21) rfl hs (by decide) rfl (gg.trans (by rw [gc])), .inl ⟨_, W, run_eqE g26 rfl, Below.refl _ _, fun _ => rfl⟩⟩
      · exact .inl ⟨want_no (n := 57) (d := 21) rfl hs (by decide) rfl gg gc, fun e => absurd e gc⟩
    | 13, ho =>
      obtain rfl : _ = o := Option.some.inj ho
      obtain rfl : 28 = d := Option.some.inj hd
      have g21 : (a'.eval (.tmp 21)) = .bool ((makeI ((2, [(5, 0)]) : ML) ((4, []) : ML) ((2, []) : ML) ((2, [(7, 4)]) : ML)) == 0) := hG ⟨6, .data⟩ (by simp) rfl 21 rfl
      by_cases hq : ((makeI ((2, [(5, 0)]) : ML) ((4, []) : ML) ((2, []) : ML) ((2, [(7, 4)]) : ML)) == 0) = true
      · exact .inr ⟨rfl, .inl ⟨_, W, run_pick_yes (g21.trans (by rw [hq])) (hG ⟨12, .data⟩ (by simp) rfl 27 rfl hq), Below.refl _ _, by rw [hq]; rfl⟩⟩
      · have hq' : ((makeI ((2, [(5, 0)]) : ML) ((4, []) : ML) ((2, []) : ML) ((2, [(7, 4)]) : ML)) == 0) = false := by simpa using hq
        exact .inr ⟨rfl, .inl ⟨_, W, run_pick_no (g21.trans (by rw [hq'])) rfl, Below.refl _ _, by rw [hq']; rfl⟩⟩
    | 14, ho =>
      obtain rfl : _ = o := Option.some.inj ho
      obtain rfl : 29 = d := Option.some.inj hd
      have g28 : (a'.eval (.tmp 28)) = .bool (((makeI ((2, [(5, 0)]) : ML) ((4, []) : ML) ((2, []) : ML) ((2, [(7, 4)]) : ML)) == 0) && ((makeI ((2, [(5, 0)]) : ML) ((4, []) : ML) ((2, []) : ML) ((1, []) : ML)) == 3)) := hG ⟨13, .data⟩ (by simp) rfl 28 rfl
      exact .inr ⟨rfl, .inl ⟨_, W, run_move rfl, Below.refl _ _, g28⟩⟩
    | 15, ho =>
      obtain rfl : _ = o := Option.some.inj ho
      obtain rfl : 30 = d := Option.some.inj hd
      have gg : a'.eval (.tmp 29) = .bool (((makeI ((2, [(5, 0)]) : ML) ((4, []) : ML) ((2, []) : ML) ((2, [(7, 4)]) : ML)) == 0) && ((makeI ((2, [(5, 0)]) : ML) ((4, []) : ML) ((2, []) : ML) ((1, []) : ML)) == 3)) := hG ⟨14, .guard⟩ (by simp) rfl 29 rfl
      by_cases gc : (((makeI ((2, [(5, 0)]) : ML) ((4, []) : ML) ((2, []) : ML) ((2, [(7, 4)]) : ML)) == 0) && ((makeI ((2, [(5, 0)]) : ML) ((4, []) : ML) ((2, []) : ML) ((1, []) : ML)) == 3)) = true
      · obtain ⟨v, hr, hv⟩ := run_loadL (ev := a'.eval) (W := W) (hk 5 (by kernel_rfl)) (hdirty.below hB)
        exact .inr ⟨want_yes (n := 57) (d := 29) rfl hs (by decide) rfl (gg.trans (by rw [gc])), .inl ⟨v, W, hr, Below.refl _ _, fun _ => hv⟩⟩
      · exact .inl ⟨want_no (n := 57) (d := 29) rfl hs (by decide) rfl gg gc, fun e => absurd e gc⟩
    | 16, ho =>
      obtain rfl : _ = o := Option.some.inj ho
      obtain rfl : 31 = d := Option.some.inj hd
      have gg : a'.eval (.tmp 29) = .bool (((makeI ((2, [(5, 0)]) : ML) ((4, []) : ML) ((2, []) : ML) ((2, [(7, 4)]) : ML)) == 0) && ((makeI ((2, [(5, 0)]) : ML) ((4, []) : ML) ((2, []) : ML) ((1, []) : ML)) == 3)) := hG ⟨14, .guard⟩ (by simp) rfl 29 rfl
      by_cases gc : (((makeI ((2, [(5, 0)]) : ML) ((4, []) : ML) ((2, []) : ML) ((2, [(7, 4)]) : ML)) == 0) && ((makeI ((2, [(5, 0)]) : ML) ((4, []) : ML) ((2, []) : ML) ((1, []) : ML)) == 3)) = true
      · obtain ⟨v, hr, hv⟩ := run_loadL (ev := a'.eval) (W := W) (hk 4 (by kernel_rfl)) (hthree.below hB)
        exact .inr ⟨want_yes (n := 57) (d := 29) rfl hs (by decide) rfl (gg.trans (by rw [gc])), .inl ⟨v, W, hr, Below.refl _ _, fun _ => hv⟩⟩
      · exact .inl ⟨want_no (n := 57) (d := 29) rfl hs (by decide) rfl gg gc, fun e => absurd e gc⟩
    | 17, ho =>
      obtain rfl : _ = o := Option.some.inj ho
      obtain rfl : 32 = d := Option.some.inj hd
      have gg : a'.eval (.tmp 29) = .bool (((makeI ((2, [(5, 0)]) : ML) ((4, []) : ML) ((2, []) : ML) ((2, [(7, 4)]) : ML)) == 0) && ((makeI ((2, [(5, 0)]) : ML) ((4, []) : ML) ((2, []) : ML) ((1, []) : ML)) == 3)) := hG ⟨14, .guard⟩ (by simp) rfl 29 rfl
      by_cases gc : (((makeI ((2, [(5, 0)]) : ML) ((4, []) : ML) ((2, []) : ML) ((2, [(7, 4)]) : ML)) == 0) && ((makeI ((2, [(5, 0)]) : ML) ((4, []) : ML) ((2, []) : ML) ((1, []) : ML)) == 3)) = true
      · obtain ⟨v, hr, hv⟩ := run_loadL (ev := a'.eval) (W := W) (hk 2 (by kernel_rfl)) (hone.below hB)
        exact .inr ⟨want_yes (n := 57) (d := 29) rfl hs (by decide) rfl (gg.trans (by rw [gc])), .inl ⟨v, W, hr, Below.refl _ _, fun _ => hv⟩⟩
      · exact .inl ⟨want_no (n := 57) (d := 29) rfl hs (by decide) rfl gg gc, fun e => absurd e gc⟩
    | 18, ho =>
      obtain rfl : _ = o := Option.some.inj ho
      obtain rfl : 33 = d := Option.some.inj hd
      have gg : a'.eval (.tmp 29) = .bool (((makeI ((2, [(5, 0)]) : ML) ((4, []) : ML) ((2, []) : ML) ((2, [(7, 4)]) : ML)) == 0) && ((makeI ((2, [(5, 0)]) : ML) ((4, []) : ML) ((2, []) : ML) ((1, []) : ML)) == 3)) := hG ⟨14, .guard⟩ (by simp) rfl 29 rfl
      by_cases gc : (((makeI ((2, [(5, 0)]) : ML) ((4, []) : ML) ((2, []) : ML) ((2, [(7, 4)]) : ML)) == 0) && ((makeI ((2, [(5, 0)]) : ML) ((4, []) : ML) ((2, []) : ML) ((1, []) : ML)) == 3)) = true
      · obtain ⟨v, hr, hv⟩ := run_loadL (ev := a'.eval) (W := W) (hk 5 (by kernel_rfl)) (hdirty.below hB)
        exact .inr ⟨want_yes (n := 57) (d := 29) rfl hs (by decide) rfl (gg.trans (by rw [gc])), .inl ⟨v, W, hr, Below.refl _ _, fun _ => hv⟩⟩
      · exact .inl ⟨want_no (n := 57) (d := 29) rfl hs (by decide) rfl gg gc, fun e => absurd e gc⟩
    | 19, ho =>
      obtain rfl : _ = o := Option.some.inj ho
      obtain rfl : 34 = d := Option.some.inj hd
      have gg : a'.eval (.tmp 29) = .bool (((makeI ((2, [(5, 0)]) : ML) ((4, []) : ML) ((2, []) : ML) ((2, [(7, 4)]) : ML)) == 0) && ((makeI ((2, [(5, 0)]) : ML) ((4, []) : ML) ((2, []) : ML) ((1, []) : ML)) == 3)) := hG ⟨14, .guard⟩ (by simp) rfl 29 rfl
      by_cases gc : (((makeI ((2, [(5, 0)]) : ML) ((4, []) : ML) ((2, []) : ML) ((2, [(7, 4)]) : ML)) == 0) && ((makeI ((2, [(5, 0)]) : ML) ((4, []) : ML) ((2, []) : ML) ((1, []) : ML)) == 3)) = true
      · have g30 : LV ((2, [(7, 4)]) : ML) (a'.eval (.tmp 30)) W := hG ⟨15, .data⟩ (by simp) rfl 30 rfl gc
        have g31 : LV ((4, []) : ML) (a'.eval (.tmp 31)) W := hG ⟨16, .data⟩ (by simp) rfl 31 rfl gc
        have g32 : LV ((2, []) : ML) (a'.eval (.tmp 32)) W := hG ⟨17, .data⟩ (by simp) rfl 32 rfl gc
        have g33 : LV ((2, [(7, 4)]) : ML) (a'.eval (.tmp 33)) W := hG ⟨18, .data⟩ (by simp) rfl 33 rfl gc
        exact .inr ⟨want_yes (n := 57) (d := 29) rfl hs (by decide) rfl (gg.trans (by rw [gc])), .inr ⟨_, _, run_call rfl map_4 ent_passage_Make, (Make_c g30 g31 g32 g33).mono (fun e W' ⟨v, he, hb, hv⟩ => ⟨v, he, hb, fun _ => hv⟩)⟩⟩
      · exact .inl ⟨want_no (n := 57) (d := 29) rfl hs (by decide) rfl gg gc, fun e => absurd e gc⟩
    | 20, ho =>
      obtain rfl : _ = o := Option.some.inj ho
      obtain rfl : 35 = d := Option.some.inj hd
      have gg : a'.eval (.tmp 29) = .bool (((makeI ((2, [(5, 0)]) : ML) ((4, []) : ML) ((2, []) : ML) ((2, [(7, 4)]) : ML)) == 0) && ((makeI ((2, [(5, 0)]) : ML) ((4, []) : ML) ((2, []) : ML) ((1, []) : ML)) == 3)) := hG ⟨14, .guard⟩ (by simp) rfl 29 rfl
      by_cases gc : (((makeI ((2, [(5, 0)]) : ML) ((4, []) : ML) ((2, []) : ML) ((2, [(7, 4)]) : ML)) == 0) && ((makeI ((2, [(5, 0)]) : ML) ((4, []) : ML) ((2, []) : ML) ((1, []) : ML)) == 3)) = true
      · have g34 : (a'.eval (.tmp 34)) = .int .i64 (makeI ((2, [(7, 4)]) : ML) ((4, []) : ML) ((2, []) : ML) ((2, [(7, 4)]) : ML)) := hG ⟨19, .data⟩ (by simp) rfl 34 rfl gc
        exact .inr ⟨want_yes (n := 57) (d := 29) rfl hs (by decide) rfl (gg.trans (by rw [gc])), .inl ⟨_, W, run_eqE g34 rfl, Below.refl _ _, fun _ => rfl⟩⟩
      · exact .inl ⟨want_no (n := 57) (d := 29) rfl hs (by decide) rfl gg gc, fun e => absurd e gc⟩
    | 21, ho =>
      obtain rfl : _ = o := Option.some.inj ho
      obtain rfl : 36 = d := Option.some.inj hd
      have g29 : (a'.eval (.tmp 29)) = .bool (((makeI ((2, [(5, 0)]) : ML) ((4, []) : ML) ((2, []) : ML) ((2, [(7, 4)]) : ML)) == 0) && ((makeI ((2, [(5, 0)]) : ML) ((4, []) : ML) ((2, []) : ML) ((1, []) : ML)) == 3)) := hG ⟨14, .data⟩ (by simp) rfl 29 rfl
      by_cases hq : (((makeI ((2, [(5, 0)]) : ML) ((4, []) : ML) ((2, []) : ML) ((2, [(7, 4)]) : ML)) == 0) && ((makeI ((2, [(5, 0)]) : ML) ((4, []) : ML) ((2, []) : ML) ((1, []) : ML)) == 3)) = true
      · exact .inr ⟨rfl, .inl ⟨_, W, run_pick_yes (g29.trans (by rw [hq])) (hG ⟨20, .data⟩ (by simp) rfl 35 rfl hq), Below.refl _ _, by rw [hq]; rfl⟩⟩
      · have hq' : (((makeI ((2, [(5, 0)]) : ML) ((4, []) : ML) ((2, []) : ML) ((2, [(7, 4)]) : ML)) == 0) && ((makeI ((2, [(5, 0)]) : ML) ((4, []) : ML) ((2, []) : ML) ((1, []) : ML)) == 3)) = false := by simpa using hq
        exact .inr ⟨rfl, .inl ⟨_, W, run_pick_no (g29.trans (by rw [hq'])) rfl, Below.refl _ _, by rw [hq']; rfl⟩⟩
    | 22, ho =>
      obtain rfl : _ = o := Option.some.inj ho
      obtain rfl : 37 = d := Option.some.inj hd
      have g36 : (a'.eval (.tmp 36)) = .bool ((((makeI ((2, [(5, 0)]) : ML) ((4, []) : ML) ((2, []) : ML) ((2, [(7, 4)]) : ML)) == 0) && ((makeI ((2, [(5, 0)]) : ML) ((4, []) : ML) ((2, []) : ML) ((1, []) : ML)) == 3)) && ((makeI ((2, [(7, 4)]) : ML) ((4, []) : ML) ((2, []) : ML) ((2, [(7, 4)]) : ML)) == 3)) := hG ⟨21, .data⟩ (by simp) rfl 36 rfl
      exact .inr ⟨rfl, .inl ⟨_, W, run_move rfl, Below.refl _ _, g36⟩⟩
    | 23, ho =>
      obtain rfl : _ = o := Option.some.inj ho
      obtain rfl : 38 = d := Option.some.inj hd
      have gg : a'.eval (.tmp 37) = .bool ((((makeI ((2, [(5, 0)]) : ML) ((4, []) : ML) ((2, []) : ML) ((2, [(7, 4)]) : ML)) == 0) && ((makeI ((2, [(5, 0)]) : ML) ((4, []) : ML) ((2, []) : ML) ((1, []) : ML)) == 3)) && ((makeI ((2, [(7, 4)]) : ML) ((4, []) : ML) ((2, []) : ML) ((2, [(7, 4)]) : ML)) == 3)) := hG ⟨22, .guard⟩ (by simp) rfl 37 rfl
      by_cases gc : ((((makeI ((2, [(5, 0)]) : ML) ((4, []) : ML) ((2, []) : ML) ((2, [(7, 4)]) : ML)) == 0) && ((makeI ((2, [(5, 0)]) : ML) ((4, []) : ML) ((2, []) : ML) ((1, []) : ML)) == 3)) && ((makeI ((2, [(7, 4)]) : ML) ((4, []) : ML) ((2, []) : ML) ((2, [(7, 4)]) : ML)) == 3)) = true
      · obtain ⟨v, hr, hv⟩ := run_loadL (ev := a'.eval) (W := W) (hk 2 (by kernel_rfl)) (hone.below hB)
        exact .inr ⟨want_yes (n := 57) (d := 37) rfl hs (by decide) rfl (gg.trans (by rw [gc])), .inl ⟨v, W, hr, Below.refl _ _, fun _ => hv⟩⟩
      · exact .inl ⟨want_no (n := 57) (d := 37) rfl hs (by decide) rfl gg gc, fun e => absurd e gc⟩
    | 24, ho =>
      obtain rfl : _ = o := Option.some.inj ho
      obtain rfl : 39 = d := Option.some.inj hd
      have gg : a'.eval (.tmp 37) = .bool ((((makeI ((2, [(5, 0)]) : ML) ((4, []) : ML) ((2, []) : ML) ((2, [(7, 4)]) : ML)) == 0) && ((makeI ((2, [(5, 0)]) : ML) ((4, []) : ML) ((2, []) : ML) ((1, []) : ML)) == 3)) && ((makeI ((2, [(7, 4)]) : ML) ((4, []) : ML) ((2, []) : ML) ((2, [(7, 4)]) : ML)) == 3)) := hG ⟨22, .guard⟩ (by simp) rfl 37 rfl
      by_cases gc : ((((makeI ((2, [(5, 0)]) : ML) ((4, []) : ML) ((2, []) : ML) ((2, [(7, 4)]) : ML)) == 0) && ((makeI ((2, [(5, 0)]) : ML) ((4, []) : ML) ((2, []) : ML) ((1, []) : ML)) == 3)) && ((makeI ((2, [(7, 4)]) : ML) ((4, []) : ML) ((2, []) : ML) ((2, [(7, 4)]) : ML)) == 3)) = true
      · obtain ⟨v, hr, hv⟩ := run_loadL (ev := a'.eval) (W := W) (hk 3 (by kernel_rfl)) (htwo.below hB)
        exact .inr ⟨want_yes (n := 57) (d := 37) rfl hs (by decide) rfl (gg.trans (by rw [gc])), .inl ⟨v, W, hr, Below.refl _ _, fun _ => hv⟩⟩
      · exact .inl ⟨want_no (n := 57) (d := 37) rfl hs (by decide) rfl gg gc, fun e => absurd e gc⟩
    | 25, ho =>
      obtain rfl : _ = o := Option.some.inj ho
      obtain rfl : 40 = d := Option.some.inj hd
      have gg : a'.eval (.tmp 37) = .bool ((((makeI ((2, [(5, 0)]) : ML) ((4, []) : ML) ((2, []) : ML) ((2, [(7, 4)]) : ML)) == 0) && ((makeI ((2, [(5, 0)]) : ML) ((4, []) : ML) ((2, []) : ML) ((1, []) : ML)) == 3)) && ((makeI ((2, [(7, 4)]) : ML) ((4, []) : ML) ((2, []) : ML) ((2, [(7, 4)]) : ML)) == 3)) := hG ⟨22, .guard⟩ (by simp) rfl 37 rfl
      by_cases gc : ((((makeI ((2, [(5, 0)]) : ML) ((4, []) : ML) ((2, []) : ML) ((2, [(7, 4)]) : ML)) == 0) && ((makeI ((2, [(5, 0)]) : ML) ((4, []) : ML) ((2, []) : ML) ((1, []) : ML)) == 3)) && ((makeI ((2, [(7, 4)]) : ML) ((4, []) : ML) ((2, []) : ML) ((2, [(7, 4)]) : ML)) == 3)) = true
      · obtain ⟨v, hr, hv⟩ := run_loadL (ev := a'.eval) (W := W) (hk 1 (by kernel_rfl)) (hown.below hB)
        exact .inr ⟨want_yes (n := 57) (d := 37) rfl hs (by decide) rfl (gg.trans (by rw [gc])), .inl ⟨v, W, hr, Below.refl _ _, fun _ => hv⟩⟩
      · exact .inl ⟨want_no (n := 57) (d := 37) rfl hs (by decide) rfl gg gc, fun e => absurd e gc⟩
    | 26, ho =>
      obtain rfl : _ = o := Option.some.inj ho
      obtain rfl : 41 = d := Option.some.inj hd
      have gg : a'.eval (.tmp 37) = .bool ((((makeI ((2, [(5, 0)]) : ML) ((4, []) : ML) ((2, []) : ML) ((2, [(7, 4)]) : ML)) == 0) && ((makeI ((2, [(5, 0)]) : ML) ((4, []) : ML) ((2, []) : ML) ((1, []) : ML)) == 3)) && ((makeI ((2, [(7, 4)]) : ML) ((4, []) : ML) ((2, []) : ML) ((2, [(7, 4)]) : ML)) == 3)) := hG ⟨22, .guard⟩ (by simp) rfl 37 rfl
      by_cases gc : ((((makeI ((2, [(5, 0)]) : ML) ((4, []) : ML) ((2, []) : ML) ((2, [(7, 4)]) : ML)) == 0) && ((makeI ((2, [(5, 0)]) : ML) ((4, []) : ML) ((2, []) : ML) ((1, []) : ML)) == 3)) && ((makeI ((2, [(7, 4)]) : ML) ((4, []) : ML) ((2, []) : ML) ((2, [(7, 4)]) : ML)) == 3)) = true
      · obtain ⟨v, hr, hv⟩ := run_loadL (ev := a'.eval) (W := W) (hk 3 (by kernel_rfl)) (htwo.below hB)
        exact .inr ⟨want_yes (n := 57) (d := 37) rfl hs (by decide) rfl (gg.trans (by rw [gc])), .inl ⟨v, W, hr, Below.refl _ _, fun _ => hv⟩⟩
      · exact .inl ⟨want_no (n := 57) (d := 37) rfl hs (by decide) rfl gg gc, fun e => absurd e gc⟩
    | 27, ho =>
      obtain rfl : _ = o := Option.some.inj ho
      obtain rfl : 42 = d := Option.some.inj hd
      have gg : a'.eval (.tmp 37) = .bool ((((makeI ((2, [(5, 0)]) : ML) ((4, []) : ML) ((2, []) : ML) ((2, [(7, 4)]) : ML)) == 0) && ((makeI ((2, [(5, 0)]) : ML) ((4, []) : ML) ((2, []) : ML) ((1, []) : ML)) == 3)) && ((makeI ((2, [(7, 4)]) : ML) ((4, []) : ML) ((2, []) : ML) ((2, [(7, 4)]) : ML)) == 3)) := hG ⟨22, .guard⟩ (by simp) rfl 37 rfl
      by_cases gc : ((((makeI ((2, [(5, 0)]) : ML) ((4, []) : ML) ((2, []) : ML) ((2, [(7, 4)]) : ML)) == 0) && ((makeI ((2, [(5, 0)]) : ML) ((4, []) : ML) ((2, []) : ML) ((1, []) : ML)) == 3)) && ((makeI ((2, [(7, 4)]) : ML) ((4, []) : ML) ((2, []) : ML) ((2, [(7, 4)]) : ML)) == 3)) = true
      · obtain ⟨v, hr, hv⟩ := run_loadL (ev := a'.eval) (W := W) (hk 1 (by kernel_rfl)) (hown.below hB)
        exact .inr ⟨want_yes (n := 57) (d := 37) rfl hs (by decide) rfl (gg.trans (by rw [gc])), .inl ⟨v, W, hr, Below.refl _ _, fun _ => hv⟩⟩
      · exact .inl ⟨want_no (n := 57) (d := 37) rfl hs (by decide) rfl gg gc, fun e => absurd e gc⟩
    | 28, ho =>
      obtain rfl : _ = o := Option.some.inj ho
      obtain rfl : 43 = d := Option.some.inj hd
      have gg : a'.eval (.tmp 37) = .bool ((((makeI ((2, [(5, 0)]) : ML) ((4, []) : ML) ((2, []) : ML) ((2, [(7, 4)]) : ML)) == 0) && ((makeI ((2, [(5, 0)]) : ML) ((4, []) : ML) ((2, []) : ML) ((1, []) : ML)) == 3)) && ((makeI ((2, [(7, 4)]) : ML) ((4, []) : ML) ((2, []) : ML) ((2, [(7, 4)]) : ML)) == 3)) := hG ⟨22, .guard⟩ (by simp) rfl 37 rfl
      by_cases gc : ((((makeI ((2, [(5, 0)]) : ML) ((4, []) : ML) ((2, []) : ML) ((2, [(7, 4)]) : ML)) == 0) && ((makeI ((2, [(5, 0)]) : ML) ((4, []) : ML) ((2, []) : ML) ((1, []) : ML)) == 3)) && ((makeI ((2, [(7, 4)]) : ML) ((4, []) : ML) ((2, []) : ML) ((2, [(7, 4)]) : ML)) == 3)) = true
      · obtain ⟨v, hr, hv⟩ := run_loadL (ev := a'.eval) (W := W) (hk 3 (by kernel_rfl)) (htwo.below hB)
        exact .inr ⟨want_yes (n := 57) (d := 37) rfl hs (by decide) rfl (gg.trans (by rw [gc])), .inl ⟨v, W, hr, Below.refl _ _, fun _ => hv⟩⟩
      · exact .inl ⟨want_no (n := 57) (d := 37) rfl hs (by decide) rfl gg gc, fun e => absurd e gc⟩
    | 29, ho =>
      obtain rfl : _ = o := Option.some.inj ho
      obtain rfl : 44 = d := Option.some.inj hd
      have gg : a'.eval (.tmp 37) = .bool ((((makeI ((2, [(5, 0)]) : ML) ((4, []) : ML) ((2, []) : ML) ((2, [(7, 4)]) : ML)) == 0) && ((makeI ((2, [(5, 0)]) : ML) ((4, []) : ML) ((2, []) : ML) ((1, []) : ML)) == 3)) && ((makeI ((2, [(7, 4)]) : ML) ((4, []) : ML) ((2, []) : ML) ((2, [(7, 4)]) : ML)) == 3)) := hG ⟨22, .guard⟩ (by simp) rfl 37 rfl
      by_cases gc : ((((makeI ((2, [(5, 0)]) : ML) ((4, []) : ML) ((2, []) : ML) ((2, [(7, 4)]) : ML)) == 0) && ((makeI ((2, [(5, 0)]) : ML) ((4, []) : ML) ((2, []) : ML) ((1, []) : ML)) == 3)) && ((makeI ((2, [(7, 4)]) : ML) ((4, []) : ML) ((2, []) : ML) ((2, [(7, 4)]) : ML)) == 3)) = true
      · have g38 : LV ((2, []) : ML) (a'.eval (.tmp 38)) W := hG ⟨23, .data⟩ (by simp) rfl 38 rfl gc
        have g39 : LV ((3, []) : ML) (a'.eval (.tmp 39)) W := hG ⟨24, .data⟩ (by simp) rfl 39 rfl gc
        have g40 : LV ((2, [(5, 0)]) : ML) (a'.eval (.tmp 40)) W := hG ⟨25, .data⟩ (by simp) rfl 40 rfl gc
        have g41 : LV ((3, []) : ML) (a'.eval (.tmp 41)) W := hG ⟨26, .data⟩ (by simp) rfl 41 rfl gc
        have g42 : LV ((2, [(5, 0)]) : ML) (a'.eval (.tmp 42)) W := hG ⟨27, .data⟩ (by simp) rfl 42 rfl gc
        have g43 : LV ((3, []) : ML) (a'.eval (.tmp 43)) W := hG ⟨28, .data⟩ (by simp) rfl 43 rfl gc
        exact .inr ⟨want_yes (n := 57) (d := 37) rfl hs (by decide) rfl (gg.trans (by rw [gc])), .inr ⟨_, _, run_call rfl map_6 ent_passage_Enter, (Enter_c g38 g39 g40 g41 g42 g43).mono (fun e W' ⟨v, he, hb, hv⟩ => ⟨v, he, hb, fun _ => hv⟩)⟩⟩
      · exact .inl ⟨want_no (n := 57) (d := 37) rfl hs (by decide) rfl gg gc, fun e => absurd e gc⟩
    | 30, ho =>
      obtain rfl : _ = o := Option.some.inj ho
      obtain rfl : 45 = d := Option.some.inj hd
      have gg : a'.eval (.tmp 37) = .bool ((((makeI ((2, [(5, 0)]) : ML) ((4, []) : ML) ((2, []) : ML) ((2, [(7, 4)]) : ML)) == 0) && ((makeI ((2, [(5, 0)]) : ML) ((4, []) : ML) ((2, []) : ML) ((1, []) : ML)) == 3)) && ((makeI ((2, [(7, 4)]) : ML) ((4, []) : ML) ((2, []) : ML) ((2, [(7, 4)]) : ML)) == 3)) := hG ⟨22, .guard⟩ (by simp) rfl 37 rfl
      by_cases gc : ((((makeI ((2, [(5, 0)]) : ML) ((4, []) : ML) ((2, []) : ML) ((2, [(7, 4)]) : ML)) == 0) && ((makeI ((2, [(5, 0)]) : ML) ((4, []) : ML) ((2, []) : ML) ((1, []) : ML)) == 3)) && ((makeI ((2, [(7, 4)]) : ML) ((4, []) : ML) ((2, []) : ML) ((2, [(7, 4)]) : ML)) == 3)) = true
      · have g44 : (a'.eval (.tmp 44)) = .int .i64 (enterI ((2, []) : ML) ((3, []) : ML) ((2, [(5, 0)]) : ML) ((3, []) : ML) ((2, [(5, 0)]) : ML) ((3, []) : ML)) := hG ⟨29, .data⟩ (by simp) rfl 44 rfl gc
        exact .inr ⟨want_yes (n := 57) (d := 37) rfl hs (by decide) rfl (gg.trans (by rw [gc])), .inl ⟨_, W, run_eqE g44 rfl, Below.refl _ _, fun _ => rfl⟩⟩
      · exact .inl ⟨want_no (n := 57) (d := 37) rfl hs (by decide) rfl gg gc, fun e => absurd e gc⟩
    | 31, ho =>
      obtain rfl : _ = o := Option.some.inj ho
      obtain rfl : 46 = d := Option.some.inj hd
      have g37 : (a'.eval (.tmp 37)) = .bool ((((makeI ((2, [(5, 0)]) : ML) ((4, []) : ML) ((2, []) : ML) ((2, [(7, 4)]) : ML)) == 0) && ((makeI ((2, [(5, 0)]) : ML) ((4, []) : ML) ((2, []) : ML) ((1, []) : ML)) == 3)) && ((makeI ((2, [(7, 4)]) : ML) ((4, []) : ML) ((2, []) : ML) ((2, [(7, 4)]) : ML)) == 3)) := hG ⟨22, .data⟩ (by simp) rfl 37 rfl
      by_cases hq : ((((makeI ((2, [(5, 0)]) : ML) ((4, []) : ML) ((2, []) : ML) ((2, [(7, 4)]) : ML)) == 0) && ((makeI ((2, [(5, 0)]) : ML) ((4, []) : ML) ((2, []) : ML) ((1, []) : ML)) == 3)) && ((makeI ((2, [(7, 4)]) : ML) ((4, []) : ML) ((2, []) : ML) ((2, [(7, 4)]) : ML)) == 3)) = true
      · exact .inr ⟨rfl, .inl ⟨_, W, run_pick_yes (g37.trans (by rw [hq])) (hG ⟨30, .data⟩ (by simp) rfl 45 rfl hq), Below.refl _ _, by rw [hq]; rfl⟩⟩
      · have hq' : ((((makeI ((2, [(5, 0)]) : ML) ((4, []) : ML) ((2, []) : ML) ((2, [(7, 4)]) : ML)) == 0) && ((makeI ((2, [(5, 0)]) : ML) ((4, []) : ML) ((2, []) : ML) ((1, []) : ML)) == 3)) && ((makeI ((2, [(7, 4)]) : ML) ((4, []) : ML) ((2, []) : ML) ((2, [(7, 4)]) : ML)) == 3)) = false := by simpa using hq
        exact .inr ⟨rfl, .inl ⟨_, W, run_pick_no (g37.trans (by rw [hq'])) rfl, Below.refl _ _, by rw [hq']; rfl⟩⟩
    | 32, ho =>
      obtain rfl : _ = o := Option.some.inj ho
      obtain rfl : 47 = d := Option.some.inj hd
      have g46 : (a'.eval (.tmp 46)) = .bool (((((makeI ((2, [(5, 0)]) : ML) ((4, []) : ML) ((2, []) : ML) ((2, [(7, 4)]) : ML)) == 0) && ((makeI ((2, [(5, 0)]) : ML) ((4, []) : ML) ((2, []) : ML) ((1, []) : ML)) == 3)) && ((makeI ((2, [(7, 4)]) : ML) ((4, []) : ML) ((2, []) : ML) ((2, [(7, 4)]) : ML)) == 3)) && ((enterI ((2, []) : ML) ((3, []) : ML) ((2, [(5, 0)]) : ML) ((3, []) : ML) ((2, [(5, 0)]) : ML) ((3, []) : ML)) == 0)) := hG ⟨31, .data⟩ (by simp) rfl 46 rfl
      exact .inr ⟨rfl, .inl ⟨_, W, run_move rfl, Below.refl _ _, g46⟩⟩
    | 33, ho =>
      obtain rfl : _ = o := Option.some.inj ho
      obtain rfl : 48 = d := Option.some.inj hd
      have gg : a'.eval (.tmp 47) = .bool (((((makeI ((2, [(5, 0)]) : ML) ((4, []) : ML) ((2, []) : ML) ((2, [(7, 4)]) : ML)) == 0) && ((makeI ((2, [(5, 0)]) : ML) ((4, []) : ML) ((2, []) : ML) ((1, []) : ML)) == 3)) && ((makeI ((2, [(7, 4)]) : ML) ((4, []) : ML) ((2, []) : ML) ((2, [(7, 4)]) : ML)) == 3)) && ((enterI ((2, []) : ML) ((3, []) : ML) ((2, [(5, 0)]) : ML) ((3, []) : ML) ((2, [(5, 0)]) : ML) ((3, []) : ML)) == 0)) := hG ⟨32, .guard⟩ (by simp) rfl 47 rfl
      by_cases gc : (((((makeI ((2, [(5, 0)]) : ML) ((4, []) : ML) ((2, []) : ML) ((2, [(7, 4)]) : ML)) == 0) && ((makeI ((2, [(5, 0)]) : ML) ((4, []) : ML) ((2, []) : ML) ((1, []) : ML)) == 3)) && ((makeI ((2, [(7, 4)]) : ML) ((4, []) : ML) ((2, []) : ML) ((2, [(7, 4)]) : ML)) == 3)) && ((enterI ((2, []) : ML) ((3, []) : ML) ((2, [(5, 0)]) : ML) ((3, []) : ML) ((2, [(5, 0)]) : ML) ((3, []) : ML)) == 0)) = true
      · obtain ⟨v, hr, hv⟩ := run_loadL (ev := a'.eval) (W := W) (hk 5 (by kernel_rfl)) (hdirty.below hB)
        exact .inr ⟨want_yes (n := 57) (d := 47) rfl hs (by decide) rfl (gg.trans (by rw [gc])), .inl ⟨v, W, hr, Below.refl _ _, fun _ => hv⟩⟩
      · exact .inl ⟨want_no (n := 57) (d := 47) rfl hs (by decide) rfl gg gc, fun e => absurd e gc⟩
    | 34, ho =>
      obtain rfl : _ = o := Option.some.inj ho
      obtain rfl : 49 = d := Option.some.inj hd
      have gg : a'.eval (.tmp 47) = .bool (((((makeI ((2, [(5, 0)]) : ML) ((4, []) : ML) ((2, []) : ML) ((2, [(7, 4)]) : ML)) == 0) && ((makeI ((2, [(5, 0)]) : ML) ((4, []) : ML) ((2, []) : ML) ((1, []) : ML)) == 3)) && ((makeI ((2, [(7, 4)]) : ML) ((4, []) : ML) ((2, []) : ML) ((2, [(7, 4)]) : ML)) == 3)) && ((enterI ((2, []) : ML) ((3, []) : ML) ((2, [(5, 0)]) : ML) ((3, []) : ML) ((2, [(5, 0)]) : ML) ((3, []) : ML)) == 0)) := hG ⟨32, .guard⟩ (by simp) rfl 47 rfl
      by_cases gc : (((((makeI ((2, [(5, 0)]) : ML) ((4, []) : ML) ((2, []) : ML) ((2, [(7, 4)]) : ML)) == 0) && ((makeI ((2, [(5, 0)]) : ML) ((4, []) : ML) ((2, []) : ML) ((1, []) : ML)) == 3)) && ((makeI ((2, [(7, 4)]) : ML) ((4, []) : ML) ((2, []) : ML) ((2, [(7, 4)]) : ML)) == 3)) && ((enterI ((2, []) : ML) ((3, []) : ML) ((2, [(5, 0)]) : ML) ((3, []) : ML) ((2, [(5, 0)]) : ML) ((3, []) : ML)) == 0)) = true
      · obtain ⟨v, hr, hv⟩ := run_loadL (ev := a'.eval) (W := W) (hk 4 (by kernel_rfl)) (hthree.below hB)
        exact .inr ⟨want_yes (n := 57) (d := 47) rfl hs (by decide) rfl (gg.trans (by rw [gc])), .inl ⟨v, W, hr, Below.refl _ _, fun _ => hv⟩⟩
      · exact .inl ⟨want_no (n := 57) (d := 47) rfl hs (by decide) rfl gg gc, fun e => absurd e gc⟩
    | 35, ho =>
      obtain rfl : _ = o := Option.some.inj ho
      obtain rfl : 50 = d := Option.some.inj hd
      have gg : a'.eval (.tmp 47) = .bool (((((makeI ((2, [(5, 0)]) : ML) ((4, []) : ML) ((2, []) : ML) ((2, [(7, 4)]) : ML)) == 0) && ((makeI ((2, [(5, 0)]) : ML) ((4, []) : ML) ((2, []) : ML) ((1, []) : ML)) == 3)) && ((makeI ((2, [(7, 4)]) : ML) ((4, []) : ML) ((2, []) : ML) ((2, [(7, 4)]) : ML)) == 3)) && ((enterI ((2, []) : ML) ((3, []) : ML) ((2, [(5, 0)]) : ML) ((3, []) : ML) ((2, [(5, 0)]) : ML) ((3, []) : ML)) == 0)) := hG ⟨32, .guard⟩ (by simp) rfl 47 rfl
      by_cases gc : (((((makeI ((2, [(5, 0)]) : ML) ((4, []) : ML) ((2, []) : ML) ((2, [(7, 4)]) : ML)) == 0) && ((makeI ((2, [(5, 0)]) : ML) ((4, []) : ML) ((2, []) : ML) ((1, []) : ML)) == 3)) && ((makeI ((2, [(7, 4)]) : ML) ((4, []) : ML) ((2, []) : ML) ((2, [(7, 4)]) : ML)) == 3)) && ((enterI ((2, []) : ML) ((3, []) : ML) ((2, [(5, 0)]) : ML) ((3, []) : ML) ((2, [(5, 0)]) : ML) ((3, []) : ML)) == 0)) = true
      · obtain ⟨v, hr, hv⟩ := run_loadL (ev := a'.eval) (W := W) (hk 1 (by kernel_rfl)) (hown.below hB)
        exact .inr ⟨want_yes (n := 57) (d := 47) rfl hs (by decide) rfl (gg.trans (by rw [gc])), .inl ⟨v, W, hr, Below.refl _ _, fun _ => hv⟩⟩
      · exact .inl ⟨want_no (n := 57) (d := 47) rfl hs (by decide) rfl gg gc, fun e => absurd e gc⟩
    | 36, ho =>
      obtain rfl : _ = o := Option.some.inj ho
      obtain rfl : 51 = d := Option.some.inj hd
      have gg : a'.eval (.tmp 47) = .bool (((((makeI ((2, [(5, 0)]) : ML) ((4, []) : ML) ((2, []) : ML) ((2, [(7, 4)]) : ML)) == 0) && ((makeI ((2, [(5, 0)]) : ML) ((4, []) : ML) ((2, []) : ML) ((1, []) : ML)) == 3)) && ((makeI ((2, [(7, 4)]) : ML) ((4, []) : ML) ((2, []) : ML) ((2, [(7, 4)]) : ML)) == 3)) && ((enterI ((2, []) : ML) ((3, []) : ML) ((2, [(5, 0)]) : ML) ((3, []) : ML) ((2, [(5, 0)]) : ML) ((3, []) : ML)) == 0)) := hG ⟨32, .guard⟩ (by simp) rfl 47 rfl
      by_cases gc : (((((makeI ((2, [(5, 0)]) : ML) ((4, []) : ML) ((2, []) : ML) ((2, [(7, 4)]) : ML)) == 0) && ((makeI ((2, [(5, 0)]) : ML) ((4, []) : ML) ((2, []) : ML) ((1, []) : ML)) == 3)) && ((makeI ((2, [(7, 4)]) : ML) ((4, []) : ML) ((2, []) : ML) ((2, [(7, 4)]) : ML)) == 3)) && ((enterI ((2, []) : ML) ((3, []) : ML) ((2, [(5, 0)]) : ML) ((3, []) : ML) ((2, [(5, 0)]) : ML) ((3, []) : ML)) == 0)) = true
      · obtain ⟨v, hr, hv⟩ := run_loadL (ev := a'.eval) (W := W) (hk 3 (by kernel_rfl)) (htwo.below hB)
        exact .inr ⟨want_yes (n := 57) (d := 47) rfl hs (by decide) rfl (gg.trans (by rw [gc])), .inl ⟨v, W, hr, Below.refl _ _, fun _ => hv⟩⟩
      · exact .inl ⟨want_no (n := 57) (d := 47) rfl hs (by decide) rfl gg gc, fun e => absurd e gc⟩
    | 37, ho =>
      obtain rfl : _ = o := Option.some.inj ho
      obtain rfl : 52 = d := Option.some.inj hd
      have gg : a'.eval (.tmp 47) = .bool (((((makeI ((2, [(5, 0)]) : ML) ((4, []) : ML) ((2, []) : ML) ((2, [(7, 4)]) : ML)) == 0) && ((makeI ((2, [(5, 0)]) : ML) ((4, []) : ML) ((2, []) : ML) ((1, []) : ML)) == 3)) && ((makeI ((2, [(7, 4)]) : ML) ((4, []) : ML) ((2, []) : ML) ((2, [(7, 4)]) : ML)) == 3)) && ((enterI ((2, []) : ML) ((3, []) : ML) ((2, [(5, 0)]) : ML) ((3, []) : ML) ((2, [(5, 0)]) : ML) ((3, []) : ML)) == 0)) := hG ⟨32, .guard⟩ (by simp) rfl 47 rfl
      by_cases gc : (((((makeI ((2, [(5, 0)]) : ML) ((4, []) : ML) ((2, []) : ML) ((2, [(7, 4)]) : ML)) == 0) && ((makeI ((2, [(5, 0)]) : ML) ((4, []) : ML) ((2, []) : ML) ((1, []) : ML)) == 3)) && ((makeI ((2, [(7, 4)]) : ML) ((4, []) : ML) ((2, []) : ML) ((2, [(7, 4)]) : ML)) == 3)) && ((enterI ((2, []) : ML) ((3, []) : ML) ((2, [(5, 0)]) : ML) ((3, []) : ML) ((2, [(5, 0)]) : ML) ((3, []) : ML)) == 0)) = true
      · obtain ⟨v, hr, hv⟩ := run_loadL (ev := a'.eval) (W := W) (hk 1 (by kernel_rfl)) (hown.below hB)
        exact .inr ⟨want_yes (n := 57) (d := 47) rfl hs (by decide) rfl (gg.trans (by rw [gc])), .inl ⟨v, W, hr, Below.refl _ _, fun _ => hv⟩⟩
      · exact .inl ⟨want_no (n := 57) (d := 47) rfl hs (by decide) rfl gg gc, fun e => absurd e gc⟩
    | 38, ho =>
      obtain rfl : _ = o := Option.some.inj ho
      obtain rfl : 53 = d := Option.some.inj hd
      have gg : a'.eval (.tmp 47) = .bool (((((makeI ((2, [(5, 0)]) : ML) ((4, []) : ML) ((2, []) : ML) ((2, [(7, 4)]) : ML)) == 0) && ((makeI ((2, [(5, 0)]) : ML) ((4, []) : ML) ((2, []) : ML) ((1, []) : ML)) == 3)) && ((makeI ((2, [(7, 4)]) : ML) ((4, []) : ML) ((2, []) : ML) ((2, [(7, 4)]) : ML)) == 3)) && ((enterI ((2, []) : ML) ((3, []) : ML) ((2, [(5, 0)]) : ML) ((3, []) : ML) ((2, [(5, 0)]) : ML) ((3, []) : ML)) == 0)) := hG ⟨32, .guard⟩ (by simp) rfl 47 rfl
      by_cases gc : (((((makeI ((2, [(5, 0)]) : ML) ((4, []) : ML) ((2, []) : ML) ((2, [(7, 4)]) : ML)) == 0) && ((makeI ((2, [(5, 0)]) : ML) ((4, []) : ML) ((2, []) : ML) ((1, []) : ML)) == 3)) && ((makeI ((2, [(7, 4)]) : ML) ((4, []) : ML) ((2, []) : ML) ((2, [(7, 4)]) : ML)) == 3)) && ((enterI ((2, []) : ML) ((3, []) : ML) ((2, [(5, 0)]) : ML) ((3, []) : ML) ((2, [(5, 0)]) : ML) ((3, []) : ML)) == 0)) = true
      · obtain ⟨v, hr, hv⟩ := run_loadL (ev := a'.eval) (W := W) (hk 3 (by kernel_rfl)) (htwo.below hB)
        exact .inr ⟨want_yes (n := 57) (d := 47) rfl hs (by decide) rfl (gg.trans (by rw [gc])), .inl ⟨v, W, hr, Below.refl _ _, fun _ => hv⟩⟩
      · exact .inl ⟨want_no (n := 57) (d := 47) rfl hs (by decide) rfl gg gc, fun e => absurd e gc⟩
    | 39, ho =>
      obtain rfl : _ = o := Option.some.inj ho
      obtain rfl : 54 = d := Option.some.inj hd
      have gg : a'.eval (.tmp 47) = .bool (((((makeI ((2, [(5, 0)]) : ML) ((4, []) : ML) ((2, []) : ML) ((2, [(7, 4)]) : ML)) == 0) && ((makeI ((2, [(5, 0)]) : ML) ((4, []) : ML) ((2, []) : ML) ((1, []) : ML)) == 3)) && ((makeI ((2, [(7, 4)]) : ML) ((4, []) : ML) ((2, []) : ML) ((2, [(7, 4)]) : ML)) == 3)) && ((enterI ((2, []) : ML) ((3, []) : ML) ((2, [(5, 0)]) : ML) ((3, []) : ML) ((2, [(5, 0)]) : ML) ((3, []) : ML)) == 0)) := hG ⟨32, .guard⟩ (by simp) rfl 47 rfl
      by_cases gc : (((((makeI ((2, [(5, 0)]) : ML) ((4, []) : ML) ((2, []) : ML) ((2, [(7, 4)]) : ML)) == 0) && ((makeI ((2, [(5, 0)]) : ML) ((4, []) : ML) ((2, []) : ML) ((1, []) : ML)) == 3)) && ((makeI ((2, [(7, 4)]) : ML) ((4, []) : ML) ((2, []) : ML) ((2, [(7, 4)]) : ML)) == 3)) && ((enterI ((2, []) : ML) ((3, []) : ML) ((2, [(5, 0)]) : ML) ((3, []) : ML) ((2, [(5, 0)]) : ML) ((3, []) : ML)) == 0)) = true
      · have g48 : LV ((2, [(7, 4)]) : ML) (a'.eval (.tmp 48)) W := hG ⟨33, .data⟩ (by simp) rfl 48 rfl gc
        have g49 : LV ((4, []) : ML) (a'.eval (.tmp 49)) W := hG ⟨34, .data⟩ (by simp) rfl 49 rfl gc
        have g50 : LV ((2, [(5, 0)]) : ML) (a'.eval (.tmp 50)) W := hG ⟨35, .data⟩ (by simp) rfl 50 rfl gc
        have g51 : LV ((3, []) : ML) (a'.eval (.tmp 51)) W := hG ⟨36, .data⟩ (by simp) rfl 51 rfl gc
        have g52 : LV ((2, [(5, 0)]) : ML) (a'.eval (.tmp 52)) W := hG ⟨37, .data⟩ (by simp) rfl 52 rfl gc
        have g53 : LV ((3, []) : ML) (a'.eval (.tmp 53)) W := hG ⟨38, .data⟩ (by simp) rfl 53 rfl gc
        exact .inr ⟨want_yes (n := 57) (d := 47) rfl hs (by decide) rfl (gg.trans (by rw [gc])), .inr ⟨_, _, run_call rfl map_6 ent_passage_Enter, (Enter_c g48 g49 g50 g51 g52 g53).mono (fun e W' ⟨v, he, hb, hv⟩ => ⟨v, he, hb, fun _ => hv⟩)⟩⟩
      · exact .inl ⟨want_no (n := 57) (d := 47) rfl hs (by decide) rfl gg gc, fun e => absurd e gc⟩
    | 40, ho =>
      obtain rfl : _ = o := Option.some.inj ho
      obtain rfl : 55 = d := Option.some.inj hd
      have gg : a'.eval (.tmp 47) = .bool (((((makeI ((2, [(5, 0)]) : ML) ((4, []) : ML) ((2, []) : ML) ((2, [(7, 4)]) : ML)) == 0) && ((makeI ((2, [(5, 0)]) : ML) ((4, []) : ML) ((2, []) : ML) ((1, []) : ML)) == 3)) && ((makeI ((2, [(7, 4)]) : ML) ((4, []) : ML) ((2, []) : ML) ((2, [(7, 4)]) : ML)) == 3)) && ((enterI ((2, []) : ML) ((3, []) : ML) ((2, [(5, 0)]) : ML) ((3, []) : ML) ((2, [(5, 0)]) : ML) ((3, []) : ML)) == 0)) := hG ⟨32, .guard⟩ (by simp) rfl 47 rfl
      by_cases gc : (((((makeI ((2, [(5, 0)]) : ML) ((4, []) : ML) ((2, []) : ML) ((2, [(7, 4)]) : ML)) == 0) && ((makeI ((2, [(5, 0)]) : ML) ((4, []) : ML) ((2, []) : ML) ((1, []) : ML)) == 3)) && ((makeI ((2, [(7, 4)]) : ML) ((4, []) : ML) ((2, []) : ML) ((2, [(7, 4)]) : ML)) == 3)) && ((enterI ((2, []) : ML) ((3, []) : ML) ((2, [(5, 0)]) : ML) ((3, []) : ML) ((2, [(5, 0)]) : ML) ((3, []) : ML)) == 0)) = true
      · have g54 : (a'.eval (.tmp 54)) = .int .i64 (enterI ((2, [(7, 4)]) : ML) ((4, []) : ML) ((2, [(5, 0)]) : ML) ((3, []) : ML) ((2, [(5, 0)]) : ML) ((3, []) : ML)) := hG ⟨39, .data⟩ (by simp) rfl 54 rfl gc
        exact .inr ⟨want_yes (n := 57) (d := 47) rfl hs (by decide) rfl (gg.trans (by rw [gc])), .inl ⟨_, W, run_eqE g54 rfl, Below.refl _ _, fun _ => rfl⟩⟩
      · exact .inl ⟨want_no (n := 57) (d := 47) rfl hs (by decide) rfl gg gc, fun e => absurd e gc⟩
    | 41, ho =>
      obtain rfl : _ = o := Option.some.inj ho
      obtain rfl : 56 = d := Option.some.inj hd
      have g47 : (a'.eval (.tmp 47)) = .bool (((((makeI ((2, [(5, 0)]) : ML) ((4, []) : ML) ((2, []) : ML) ((2, [(7, 4)]) : ML)) == 0) && ((makeI ((2, [(5, 0)]) : ML) ((4, []) : ML) ((2, []) : ML) ((1, []) : ML)) == 3)) && ((makeI ((2, [(7, 4)]) : ML) ((4, []) : ML) ((2, []) : ML) ((2, [(7, 4)]) : ML)) == 3)) && ((enterI ((2, []) : ML) ((3, []) : ML) ((2, [(5, 0)]) : ML) ((3, []) : ML) ((2, [(5, 0)]) : ML) ((3, []) : ML)) == 0)) := hG ⟨32, .data⟩ (by simp) rfl 47 rfl
      by_cases hq : (((((makeI ((2, [(5, 0)]) : ML) ((4, []) : ML) ((2, []) : ML) ((2, [(7, 4)]) : ML)) == 0) && ((makeI ((2, [(5, 0)]) : ML) ((4, []) : ML) ((2, []) : ML) ((1, []) : ML)) == 3)) && ((makeI ((2, [(7, 4)]) : ML) ((4, []) : ML) ((2, []) : ML) ((2, [(7, 4)]) : ML)) == 3)) && ((enterI ((2, []) : ML) ((3, []) : ML) ((2, [(5, 0)]) : ML) ((3, []) : ML) ((2, [(5, 0)]) : ML) ((3, []) : ML)) == 0)) = true
      · exact .inr ⟨rfl, .inl ⟨_, W, run_pick_yes (g47.trans (by rw [hq])) (hG ⟨40, .data⟩ (by simp) rfl 55 rfl hq), Below.refl _ _, by rw [hq]; rfl⟩⟩
      · have hq' : (((((makeI ((2, [(5, 0)]) : ML) ((4, []) : ML) ((2, []) : ML) ((2, [(7, 4)]) : ML)) == 0) && ((makeI ((2, [(5, 0)]) : ML) ((4, []) : ML) ((2, []) : ML) ((1, []) : ML)) == 3)) && ((makeI ((2, [(7, 4)]) : ML) ((4, []) : ML) ((2, []) : ML) ((2, [(7, 4)]) : ML)) == 3)) && ((enterI ((2, []) : ML) ((3, []) : ML) ((2, [(5, 0)]) : ML) ((3, []) : ML) ((2, [(5, 0)]) : ML) ((3, []) : ML)) == 0)) = false := by simpa using hq
        exact .inr ⟨rfl, .inl ⟨_, W, run_pick_no (g47.trans (by rw [hq'])) rfl, Below.refl _ _, by rw [hq']; rfl⟩⟩
    | j + 42, ho => simp at ho
  · intro a' W hB hs hdf hk hG
    obtain ⟨tm, df⟩ := a'
    obtain rfl : df = [] := hdf
    have e0 : tm.getD 0 undef = .bool false := hk 0 (by kernel_rfl)
    have e1 : tm.getD 1 undef = .pointer (some ⟨w.heap.size + 1, 0, none⟩) := hk 1 (by kernel_rfl)
    have e2 : tm.getD 2 undef = .pointer (some ⟨w.heap.size + 1 + 1, 0, none⟩) := hk 2 (by kernel_rfl)
    have e3 : tm.getD 3 undef = .pointer (some ⟨w.heap.size + 1 + 1 + 1, 0, none⟩) := hk 3 (by kernel_rfl)
    have e4 : tm.getD 4 undef = .pointer (some ⟨w.heap.size + 1 + 1 + 1 + 1, 0, none⟩) := hk 4 (by kernel_rfl)
    have e5 : tm.getD 5 undef = .pointer (some ⟨w.heap.size + 1 + 1 + 1 + 1 + 1 + 1, 0, none⟩) := hk 5 (by kernel_rfl)
    have e6 : tm.getD 6 undef = .agg #[.int .i64 5, .int .i64 0] := hk 6 (by kernel_rfl)
    have e7 : tm.getD 7 undef = .slice (some ⟨w.heap.size, 0, none⟩) 1 1 := hk 7 (by kernel_rfl)
    have e8 : tm.getD 8 undef = .agg #[.int .i64 2, .slice (some ⟨w.heap.size, 0, none⟩) 1 1] := hk 8 (by kernel_rfl)
    have e9 : tm.getD 9 undef = .agg #[.int .i64 2, .slice none 0 0] := hk 9 (by kernel_rfl)
    have e10 : tm.getD 10 undef = .agg #[.int .i64 3, .slice none 0 0] := hk 10 (by kernel_rfl)
    have e11 : tm.getD 11 undef = .agg #[.int .i64 4, .slice none 0 0] := hk 11 (by kernel_rfl)
    have e12 : tm.getD 12 undef = .agg #[.int .i64 7, .int .i64 4] := hk 12 (by kernel_rfl)
    have e13 : tm.getD 13 undef = .slice (some ⟨w.heap.size + 1 + 1 + 1 + 1 + 1, 0, none⟩) 1 1 := hk 13 (by kernel_rfl)
    have e14 : tm.getD 14 undef = .agg #[.int .i64 2, .slice (some ⟨w.heap.size + 1 + 1 + 1 + 1 + 1, 0, none⟩) 1 1] := hk 14 (by kernel_rfl)
    have g15 : LV ((2, [(5, 0)]) : ML) (tm.getD 15 undef) W := hG 0 15 (by decide) rfl
    have g16 : LV ((4, []) : ML) (tm.getD 16 undef) W := hG 1 16 (by decide) rfl
    have g17 : LV ((2, []) : ML) (tm.getD 17 undef) W := hG 2 17 (by decide) rfl
    have g18 : LV ((2, [(7, 4)]) : ML) (tm.getD 18 undef) W := hG 3 18 (by decide) rfl
    have g19 : (tm.getD 19 undef) = .int .i64 (makeI ((2, [(5, 0)]) : ML) ((4, []) : ML) ((2, []) : ML) ((2, [(7, 4)]) : ML)) := hG 4 19 (by decide) rfl
    have g20 : (tm.getD 20 undef) = .bool ((makeI ((2, [(5, 0)]) : ML) ((4, []) : ML) ((2, []) : ML) ((2, [(7, 4)]) : ML)) == 0) := hG 5 20 (by decide) rfl
    have g21 : (tm.getD 21 undef) = .bool ((makeI ((2, [(5, 0)]) : ML) ((4, []) : ML) ((2, []) : ML) ((2, [(7, 4)]) : ML)) == 0) := hG 6 21 (by decide) rfl
    have g22 : ((makeI ((2, [(5, 0)]) : ML) ((4, []) : ML) ((2, []) : ML) ((2, [(7, 4)]) : ML)) == 0) = true → LV ((2, [(5, 0)]) : ML) (tm.getD 22 undef) W := hG 7 22 (by decide) rfl
    have g23 : ((makeI ((2, [(5, 0)]) : ML) ((4, []) : ML) ((2, []) : ML) ((2, [(7, 4)]) : ML)) == 0) = true → LV ((4, []) : ML) (tm.getD 23 undef) W := hG 8 23 (by decide) rfl
    have g24 : ((makeI ((2, [(5, 0)]) : ML) ((4, []) : ML) ((2, []) : ML) ((2, [(7, 4)]) : ML)) == 0) = true → LV ((2, []) : ML) (tm.getD 24 undef) W := hG 9 24 (by decide) rfl
    have g25 : ((makeI ((2, [(5, 0)]) : ML) ((4, []) : ML) ((2, []) : ML) ((2, [(7, 4)]) : ML)) == 0) = true → LV ((1, []) : ML) (tm.getD 25 undef) W := hG 10 25 (by decide) rfl
    have g26 : ((makeI ((2, [(5, 0)]) : ML) ((4, []) : ML) ((2, []) : ML) ((2, [(7, 4)]) : ML)) == 0) = true → (tm.getD 26 undef) = .int .i64 (makeI ((2, [(5, 0)]) : ML) ((4, []) : ML) ((2, []) : ML) ((1, []) : ML)) := hG 11 26 (by decide) rfl
    have g27 : ((makeI ((2, [(5, 0)]) : ML) ((4, []) : ML) ((2, []) : ML) ((2, [(7, 4)]) : ML)) == 0) = true → (tm.getD 27 undef) = .bool ((makeI ((2, [(5, 0)]) : ML) ((4, []) : ML) ((2, []) : ML) ((1, []) : ML)) == 3) := hG 12 27 (by decide) rfl
    have g28 : (tm.getD 28 undef) = .bool (((makeI ((2, [(5, 0)]) : ML) ((4, []) : ML) ((2, []) : ML) ((2, [(7, 4)]) : ML)) == 0) && ((makeI ((2, [(5, 0)]) : ML) ((4, []) : ML) ((2, []) : ML) ((1, []) : ML)) == 3)) := hG 13 28 (by decide) rfl
    have g29 : (tm.getD 29 undef) = .bool (((makeI ((2, [(5, 0)]) : ML) ((4, []) : ML) ((2, []) : ML) ((2, [(7, 4)]) : ML)) == 0) && ((makeI ((2, [(5, 0)]) : ML) ((4, []) : ML) ((2, []) : ML) ((1, []) : ML)) == 3)) := hG 14 29 (by decide) rfl
    have g30 : (((makeI ((2, [(5, 0)]) : ML) ((4, []) : ML) ((2, []) : ML) ((2, [(7, 4)]) : ML)) == 0) && ((makeI ((2, [(5, 0)]) : ML) ((4, []) : ML) ((2, []) : ML) ((1, []) : ML)) == 3)) = true → LV ((2, [(7, 4)]) : ML) (tm.getD 30 undef) W := hG 15 30 (by decide) rfl
    have g31 : (((makeI ((2, [(5, 0)]) : ML) ((4, []) : ML) ((2, []) : ML) ((2, [(7, 4)]) : ML)) == 0) && ((makeI ((2, [(5, 0)]) : ML) ((4, []) : ML) ((2, []) : ML) ((1, []) : ML)) == 3)) = true → LV ((4, []) : ML) (tm.getD 31 undef) W := hG 16 31 (by decide) rfl
    have g32 : (((makeI ((2, [(5, 0)]) : ML) ((4, []) : ML) ((2, []) : ML) ((2, [(7, 4)]) : ML)) == 0) && ((makeI ((2, [(5, 0)]) : ML) ((4, []) : ML) ((2, []) : ML) ((1, []) : ML)) == 3)) = true → LV ((2, []) : ML) (tm.getD 32 undef) W := hG 17 32 (by decide) rfl
    have g33 : (((makeI ((2, [(5, 0)]) : ML) ((4, []) : ML) ((2, []) : ML) ((2, [(7, 4)]) : ML)) == 0) && ((makeI ((2, [(5, 0)]) : ML) ((4, []) : ML) ((2, []) : ML) ((1, []) : ML)) == 3)) = true → LV ((2, [(7, 4)]) : ML) (tm.getD 33 undef) W := hG 18 33 (by decide) rfl
    have g34 : (((makeI ((2, [(5, 0)]) : ML) ((4, []) : ML) ((2, []) : ML) ((2, [(7, 4)]) : ML)) == 0) && ((makeI ((2, [(5, 0)]) : ML) ((4, []) : ML) ((2, []) : ML) ((1, []) : ML)) == 3)) = true → (tm.getD 34 undef) = .int .i64 (makeI ((2, [(7, 4)]) : ML) ((4, []) : ML) ((2, []) : ML) ((2, [(7, 4)]) : ML)) := hG 19 34 (by decide) rfl
    have g35 : (((makeI ((2, [(5, 0)]) : ML) ((4, []) : ML) ((2, []) : ML) ((2, [(7, 4)]) : ML)) == 0) && ((makeI ((2, [(5, 0)]) : ML) ((4, []) : ML) ((2, []) : ML) ((1, []) : ML)) == 3)) = true → (tm.getD 35 undef) = .bool ((makeI ((2, [(7, 4)]) : ML) ((4, []) : ML) ((2, []) : ML) ((2, [(7, 4)]) : ML)) == 3) := hG 20 35 (by decide) rfl
    have g36 : (tm.getD 36 undef) = .bool ((((makeI ((2, [(5, 0)]) : ML) ((4, []) : ML) ((2, []) : ML) ((2, [(7, 4)]) : ML)) == 0) && ((makeI ((2, [(5, 0)]) : ML) ((4, []) : ML) ((2, []) : ML) ((1, []) : ML)) == 3)) && ((makeI ((2, [(7, 4)]) : ML) ((4, []) : ML) ((2, []) : ML) ((2, [(7, 4)]) : ML)) == 3)) := hG 21 36 (by decide) rfl
    have g37 : (tm.getD 37 undef) = .bool ((((makeI ((2, [(5, 0)]) : ML) ((4, []) : ML) ((2, []) : ML) ((2, [(7, 4)]) : ML)) == 0) && ((makeI ((2, [(5, 0)]) : ML) ((4, []) : ML) ((2, []) : ML) ((1, []) : ML)) == 3)) && ((makeI ((2, [(7, 4)]) : ML) ((4, []) : ML) ((2, []) : ML) ((2, [(7, 4)]) : ML)) == 3)) := hG 22 37 (by decide) rfl
    have g38 : ((((makeI ((2, [(5, 0)]) : ML) ((4, []) : ML) ((2, []) : ML) ((2, [(7, 4)]) : ML)) == 0) && ((makeI ((2, [(5, 0)]) : ML) ((4, []) : ML) ((2, []) : ML) ((1, []) : ML)) == 3)) && ((makeI ((2, [(7, 4)]) : ML) ((4, []) : ML) ((2, []) : ML) ((2, [(7, 4)]) : ML)) == 3)) = true → LV ((2, []) : ML) (tm.getD 38 undef) W := hG 23 38 (by decide) rfl
    have g39 : ((((makeI ((2, [(5, 0)]) : ML) ((4, []) : ML) ((2, []) : ML) ((2, [(7, 4)]) : ML)) == 0) && ((makeI ((2, [(5, 0)]) : ML) ((4, []) : ML) ((2, []) : ML) ((1, []) : ML)) == 3)) && ((makeI ((2, [(7, 4)]) : ML) ((4, []) : ML) ((2, []) : ML) ((2, [(7, 4)]) : ML)) == 3)) = true → LV ((3, []) : ML) (tm.getD 39 undef) W := hG 24 39 (by decide) rfl
    have g40 : ((((makeI ((2, [(5, 0)]) : ML) ((4, []) : ML) ((2, []) : ML) ((2, [(7, 4)]) : ML)) == 0) && ((makeI ((2, [(5, 0)]) : ML) ((4, []) : ML) ((2, []) : ML) ((1, []) : ML)) == 3)) && ((makeI ((2, [(7, 4)]) : ML) ((4, []) : ML) ((2, []) : ML) ((2, [(7, 4)]) : ML)) == 3)) = true → LV ((2, [(5, 0)]) : ML) (tm.getD 40 undef) W := hG 25 40 (by decide) rfl
    have g41 : ((((makeI ((2, [(5, 0)]) : ML) ((4, []) : ML) ((2, []) : ML) ((2, [(7, 4)]) : ML)) == 0) && ((makeI ((2, [(5, 0)]) : ML) ((4, []) : ML) ((2, []) : ML) ((1, []) : ML)) == 3)) && ((makeI ((2, [(7, 4)]) : ML) ((4, []) : ML) ((2, []) : ML) ((2, [(7, 4)]) : ML)) == 3)) = true → LV ((3, []) : ML) (tm.getD 41 undef) W := hG 26 41 (by decide) rfl
    have g42 : ((((makeI ((2, [(5, 0)]) : ML) ((4, []) : ML) ((2, []) : ML) ((2, [(7, 4)]) : ML)) == 0) && ((makeI ((2, [(5, 0)]) : ML) ((4, []) : ML) ((2, []) : ML) ((1, []) : ML)) == 3)) && ((makeI ((2, [(7, 4)]) : ML) ((4, []) : ML) ((2, []) : ML) ((2, [(7, 4)]) : ML)) == 3)) = true → LV ((2, [(5, 0)]) : ML) (tm.getD 42 undef) W := hG 27 42 (by decide) rfl
    have g43 : ((((makeI ((2, [(5, 0)]) : ML) ((4, []) : ML) ((2, []) : ML) ((2, [(7, 4)]) : ML)) == 0) && ((makeI ((2, [(5, 0)]) : ML) ((4, []) : ML) ((2, []) : ML) ((1, []) : ML)) == 3)) && ((makeI ((2, [(7, 4)]) : ML) ((4, []) : ML) ((2, []) : ML) ((2, [(7, 4)]) : ML)) == 3)) = true → LV ((3, []) : ML) (tm.getD 43 undef) W := hG 28 43 (by decide) rfl
    have g44 : ((((makeI ((2, [(5, 0)]) : ML) ((4, []) : ML) ((2, []) : ML) ((2, [(7, 4)]) : ML)) == 0) && ((makeI ((2, [(5, 0)]) : ML) ((4, []) : ML) ((2, []) : ML) ((1, []) : ML)) == 3)) && ((makeI ((2, [(7, 4)]) : ML) ((4, []) : ML) ((2, []) : ML) ((2, [(7, 4)]) : ML)) == 3)) = true → (tm.getD 44 undef) = .int .i64 (enterI ((2, []) : ML) ((3, []) : ML) ((2, [(5, 0)]) : ML) ((3, []) : ML) ((2, [(5, 0)]) : ML) ((3, []) : ML)) := hG 29 44 (by decide) rfl
    have g45 : ((((makeI ((2, [(5, 0)]) : ML) ((4, []) : ML) ((2, []) : ML) ((2, [(7, 4)]) : ML)) == 0) && ((makeI ((2, [(5, 0)]) : ML) ((4, []) : ML) ((2, []) : ML) ((1, []) : ML)) == 3)) && ((makeI ((2, [(7, 4)]) : ML) ((4, []) : ML) ((2, []) : ML) ((2, [(7, 4)]) : ML)) == 3)) = true → (tm.getD 45 undef) = .bool ((enterI ((2, []) : ML) ((3, []) : ML) ((2, [(5, 0)]) : ML) ((3, []) : ML) ((2, [(5, 0)]) : ML) ((3, []) : ML)) == 0) := hG 30 45 (by decide) rfl
    have g46 : (tm.getD 46 undef) = .bool (((((makeI ((2, [(5, 0)]) : ML) ((4, []) : ML) ((2, []) : ML) ((2, [(7, 4)]) : ML)) == 0) && ((makeI ((2, [(5, 0)]) : ML) ((4, []) : ML) ((2, []) : ML) ((1, []) : ML)) == 3)) && ((makeI ((2, [(7, 4)]) : ML) ((4, []) : ML) ((2, []) : ML) ((2, [(7, 4)]) : ML)) == 3)) && ((enterI ((2, []) : ML) ((3, []) : ML) ((2, [(5, 0)]) : ML) ((3, []) : ML) ((2, [(5, 0)]) : ML) ((3, []) : ML)) == 0)) := hG 31 46 (by decide) rfl
    have g47 : (tm.getD 47 undef) = .bool (((((makeI ((2, [(5, 0)]) : ML) ((4, []) : ML) ((2, []) : ML) ((2, [(7, 4)]) : ML)) == 0) && ((makeI ((2, [(5, 0)]) : ML) ((4, []) : ML) ((2, []) : ML) ((1, []) : ML)) == 3)) && ((makeI ((2, [(7, 4)]) : ML) ((4, []) : ML) ((2, []) : ML) ((2, [(7, 4)]) : ML)) == 3)) && ((enterI ((2, []) : ML) ((3, []) : ML) ((2, [(5, 0)]) : ML) ((3, []) : ML) ((2, [(5, 0)]) : ML) ((3, []) : ML)) == 0)) := hG 32 47 (by decide) rfl
    have g48 : (((((makeI ((2, [(5, 0)]) : ML) ((4, []) : ML) ((2, []) : ML) ((2, [(7, 4)]) : ML)) == 0) && ((makeI ((2, [(5, 0)]) : ML) ((4, []) : ML) ((2, []) : ML) ((1, []) : ML)) == 3)) && ((makeI ((2, [(7, 4)]) : ML) ((4, []) : ML) ((2, []) : ML) ((2, [(7, 4)]) : ML)) == 3)) && ((enterI ((2, []) : ML) ((3, []) : ML) ((2, [(5, 0)]) : ML) ((3, []) : ML) ((2, [(5, 0)]) : ML) ((3, []) : ML)) == 0)) = true → LV ((2, [(7, 4)]) : ML) (tm.getD 48 undef) W := hG 33 48 (by decide) rfl
    have g49 : (((((makeI ((2, [(5, 0)]) : ML) ((4, []) : ML) ((2, []) : ML) ((2, [(7, 4)]) : ML)) == 0) && ((makeI ((2, [(5, 0)]) : ML) ((4, []) : ML) ((2, []) : ML) ((1, []) : ML)) == 3)) && ((makeI ((2, [(7, 4)]) : ML) ((4, []) : ML) ((2, []) : ML) ((2, [(7, 4)]) : ML)) == 3)) && ((enterI ((2, []) : ML) ((3, []) : ML) ((2, [(5, 0)]) : ML) ((3, []) : ML) ((2, [(5, 0)]) : ML) ((3, []) : ML)) == 0)) = true → LV ((4, []) : ML) (tm.getD 49 undef) W := hG 34 49 (by decide) rfl
    have g50 : (((((makeI ((2, [(5, 0)]) : ML) ((4, []) : ML) ((2, []) : ML) ((2, [(7, 4)]) : ML)) == 0) && ((makeI ((2, [(5, 0)]) : ML) ((4, []) : ML) ((2, []) : ML) ((1, []) : ML)) == 3)) && ((makeI ((2, [(7, 4)]) : ML) ((4, []) : ML) ((2, []) : ML) ((2, [(7, 4)]) : ML)) == 3)) && ((enterI ((2, []) : ML) ((3, []) : ML) ((2, [(5, 0)]) : ML) ((3, []) : ML) ((2, [(5, 0)]) : ML) ((3, []) : ML)) == 0)) = true → LV ((2, [(5, 0)]) : ML) (tm.getD 50 undef) W := hG 35 50 (by decide) rfl
    have g51 : (((((makeI ((2, [(5, 0)]) : ML) ((4, []) : ML) ((2, []) : ML) ((2, [(7, 4)]) : ML)) == 0) && ((makeI ((2, [(5, 0)]) : ML) ((4, []) : ML) ((2, []) : ML) ((1, []) : ML)) == 3)) && ((makeI ((2, [(7, 4)]) : ML) ((4, []) : ML) ((2, []) : ML) ((2, [(7, 4)]) : ML)) == 3)) && ((enterI ((2, []) : ML) ((3, []) : ML) ((2, [(5, 0)]) : ML) ((3, []) : ML) ((2, [(5, 0)]) : ML) ((3, []) : ML)) == 0)) = true → LV ((3, []) : ML) (tm.getD 51 undef) W := hG 36 51 (by decide) rfl
    have g52 : (((((makeI ((2, [(5, 0)]) : ML) ((4, []) : ML) ((2, []) : ML) ((2, [(7, 4)]) : ML)) == 0) && ((makeI ((2, [(5, 0)]) : ML) ((4, []) : ML) ((2, []) : ML) ((1, []) : ML)) == 3)) && ((makeI ((2, [(7, 4)]) : ML) ((4, []) : ML) ((2, []) : ML) ((2, [(7, 4)]) : ML)) == 3)) && ((enterI ((2, []) : ML) ((3, []) : ML) ((2, [(5, 0)]) : ML) ((3, []) : ML) ((2, [(5, 0)]) : ML) ((3, []) : ML)) == 0)) = true → LV ((2, [(5, 0)]) : ML) (tm.getD 52 undef) W := hG 37 52 (by decide) rfl
    have g53 : (((((makeI ((2, [(5, 0)]) : ML) ((4, []) : ML) ((2, []) : ML) ((2, [(7, 4)]) : ML)) == 0) && ((makeI ((2, [(5, 0)]) : ML) ((4, []) : ML) ((2, []) : ML) ((1, []) : ML)) == 3)) && ((makeI ((2, [(7, 4)]) : ML) ((4, []) : ML) ((2, []) : ML) ((2, [(7, 4)]) : ML)) == 3)) && ((enterI ((2, []) : ML) ((3, []) : ML) ((2, [(5, 0)]) : ML) ((3, []) : ML) ((2, [(5, 0)]) : ML) ((3, []) : ML)) == 0)) = true → LV ((3, []) : ML) (tm.getD 53 undef) W := hG 38 53 (by decide) rfl
    have g54 : (((((makeI ((2, [(5, 0)]) : ML) ((4, []) : ML) ((2, []) : ML) ((2, [(7, 4)]) : ML)) == 0) && ((makeI ((2, [(5, 0)]) : ML) ((4, []) : ML) ((2, []) : ML) ((1, []) : ML)) == 3)) && ((makeI ((2, [(7, 4)]) : ML) ((4, []) : ML) ((2, []) : ML) ((2, [(7, 4)]) : ML)) == 3)) && ((enterI ((2, []) : ML) ((3, []) : ML) ((2, [(5, 0)]) : ML) ((3, []) : ML) ((2, [(5, 0)]) : ML) ((3, []) : ML)) == 0)) = true → (tm.getD 54 undef) = .int .i64 (enterI ((2, [(7, 4)]) : ML) ((4, []) : ML) ((2, [(5, 0)]) : ML) ((3, []) : ML) ((2, [(5, 0)]) : ML) ((3, []) : ML)) := hG 39 54 (by decide) rfl
    have g55 : (((((makeI ((2, [(5, 0)]) : ML) ((4, []) : ML) ((2, []) : ML) ((2, [(7, 4)]) : ML)) == 0) && ((makeI ((2, [(5, 0)]) : ML) ((4, []) : ML) ((2, []) : ML) ((1, []) : ML)) == 3)) && ((makeI ((2, [(7, 4)]) : ML) ((4, []) : ML) ((2, []) : ML) ((2, [(7, 4)]) : ML)) == 3)) && ((enterI ((2, []) : ML) ((3, []) : ML) ((2, [(5, 0)]) : ML) ((3, []) : ML) ((2, [(5, 0)]) : ML) ((3, []) : ML)) == 0)) = true → (tm.getD 55 undef) = .bool ((enterI ((2, [(7, 4)]) : ML) ((4, []) : ML) ((2, [(5, 0)]) : ML) ((3, []) : ML) ((2, [(5, 0)]) : ML) ((3, []) : ML)) == 3) := hG 40 55 (by decide) rfl
    have g56 : (tm.getD 56 undef) = .bool ((((((makeI ((2, [(5, 0)]) : ML) ((4, []) : ML) ((2, []) : ML) ((2, [(7, 4)]) : ML)) == 0) && ((makeI ((2, [(5, 0)]) : ML) ((4, []) : ML) ((2, []) : ML) ((1, []) : ML)) == 3)) && ((makeI ((2, [(7, 4)]) : ML) ((4, []) : ML) ((2, []) : ML) ((2, [(7, 4)]) : ML)) == 3)) && ((enterI ((2, []) : ML) ((3, []) : ML) ((2, [(5, 0)]) : ML) ((3, []) : ML) ((2, [(5, 0)]) : ML) ((3, []) : ML)) == 0)) && ((enterI ((2, [(7, 4)]) : ML) ((4, []) : ML) ((2, [(5, 0)]) : ML) ((3, []) : ML) ((2, [(5, 0)]) : ML) ((3, []) : ML)) == 3)) := hG 41 56 (by decide) rfl
    have htm := arr_of tm [.bool false, .pointer (some ⟨w.heap.size + 1, 0, none⟩), .pointer (some ⟨w.heap.size + 1 + 1, 0, none⟩), .pointer (some ⟨w.heap.size + 1 + 1 + 1, 0, none⟩), .pointer (some ⟨w.heap.size + 1 + 1 + 1 + 1, 0, none⟩), .pointer (some ⟨w.heap.size + 1 + 1 + 1 + 1 + 1 + 1, 0, none⟩), .agg #[.int .i64 5, .int .i64 0], .slice (some ⟨w.heap.size, 0, none⟩) 1 1, .agg #[.int .i64 2, .slice (some ⟨w.heap.size, 0, none⟩) 1 1], .agg #[.int .i64 2, .slice none 0 0], .agg #[.int .i64 3, .slice none 0 0], .agg #[.int .i64 4, .slice none 0 0], .agg #[.int .i64 7, .int .i64 4], .slice (some ⟨w.heap.size + 1 + 1 + 1 + 1 + 1, 0, none⟩) 1 1, .agg #[.int .i64 2, .slice (some ⟨w.heap.size + 1 + 1 + 1 + 1 + 1, 0, none⟩) 1 1], tm.getD 15 undef, tm.getD 16 undef, tm.getD 17 undef, tm.getD 18 undef, tm.getD 19 undef, tm.getD 20 undef, tm.getD 21 undef, tm.getD 22 undef, tm.getD 23 undef, tm.getD 24 undef, tm.getD 25 undef, tm.getD 26 undef, tm.getD 27 undef, tm.getD 28 undef, tm.getD 29 undef, tm.getD 30 undef, tm.getD 31 undef, tm.getD 32 undef, tm.getD 33 undef, tm.getD 34 undef, tm.getD 35 undef, tm.getD 36 undef, tm.getD 37 undef, tm.getD 38 undef, tm.getD 39 undef, tm.getD 40 undef, tm.getD 41 undef, tm.getD 42 undef, tm.getD 43 undef, tm.getD 44 undef, tm.getD 45 undef, tm.getD 46 undef, tm.getD 47 undef, tm.getD 48 undef, tm.getD 49 undef, tm.getD 50 undef, tm.getD 51 undef, tm.getD 52 undef, tm.getD 53 undef, tm.getD 54 undef, tm.getD 55 undef, tm.getD 56 undef] hs (by show [tm.getD 0 undef, tm.getD 1 undef, tm.getD 2 undef, tm.getD 3 undef, tm.getD 4 undef, tm.getD 5 undef, tm.getD 6 undef, tm.getD 7 undef, tm.getD 8 undef, tm.getD 9 undef, tm.getD 10 undef, tm.getD 11 undef, tm.getD 12 undef, tm.getD 13 undef, tm.getD 14 undef, tm.getD 15 undef, tm.getD 16 undef, tm.getD 17 undef, tm.getD 18 undef, tm.getD 19 undef, tm.getD 20 undef, tm.getD 21 undef, tm.getD 22 undef, tm.getD 23 undef, tm.getD 24 undef, tm.getD 25 undef, tm.getD 26 undef, tm.getD 27 undef, tm.getD 28 undef, tm.getD 29 undef, tm.getD 30 undef, tm.getD 31 undef, tm.getD 32 undef, tm.getD 33 undef, tm.getD 34 undef, tm.getD 35 undef, tm.getD 36 undef, tm.getD 37 undef, tm.getD 38 undef, tm.getD 39 undef, tm.getD 40 undef, tm.getD 41 undef, tm.getD 42 undef, tm.getD 43 undef, tm.getD 44 undef, tm.getD 45 undef, tm.getD 46 undef, tm.getD 47 undef, tm.getD 48 undef, tm.getD 49 undef, tm.getD 50 undef, tm.getD 51 undef, tm.getD 52 undef, tm.getD 53 undef, tm.getD 54 undef, tm.getD 55 undef, tm.getD 56 undef] = _; rw [e0, e1, e2, e3, e4, e5, e6, e7, e8, e9, e10, e11, e12, e13, e14])
    clear hs hk hG e0 e1 e2 e3 e4 e5 e6 e7 e8 e9 e10 e11 e12 e13 e14
    generalize tm.getD 15 undef = t15 at htm g15
    generalize tm.getD 16 undef = t16 at htm g16
    generalize tm.getD 17 undef = t17 at htm g17
    generalize tm.getD 18 undef = t18 at htm g18
    generalize tm.getD 19 undef = t19 at htm g19
    generalize tm.getD 20 undef = t20 at htm g20
    generalize tm.getD 21 undef = t21 at htm g21
    generalize tm.getD 22 undef = t22 at htm g22
    generalize tm.getD 23 undef = t23 at htm g23
    generalize tm.getD 24 undef = t24 at htm g24
    generalize tm.getD 25 undef = t25 at htm g25
    generalize tm.getD 26 undef = t26 at htm g26
    generalize tm.getD 27 undef = t27 at htm g27
    generalize tm.getD 28 undef = t28 at htm g28
    generalize tm.getD 29 undef = t29 at htm g29
    generalize tm.getD 30 undef = t30 at htm g30
    generalize tm.getD 31 undef = t31 at htm g31
    generalize tm.getD 32 undef = t32 at htm g32
    generalize tm.getD 33 undef = t33 at htm g33
    generalize tm.getD 34 undef = t34 at htm g34
    generalize tm.getD 35 undef = t35 at htm g35
    generalize tm.getD 36 undef = t36 at htm g36
    generalize tm.getD 37 undef = t37 at htm g37
    generalize tm.getD 38 undef = t38 at htm g38
    generalize tm.getD 39 undef = t39 at htm g39
    generalize tm.getD 40 undef = t40 at htm g40
    generalize tm.getD 41 undef = t41 at htm g41
    generalize tm.getD 42 undef = t42 at htm g42
    generalize tm.getD 43 undef = t43 at htm g43
    generalize tm.getD 44 undef = t44 at htm g44
    generalize tm.getD 45 undef = t45 at htm g45
    generalize tm.getD 46 undef = t46 at htm g46
    generalize tm.getD 47 undef = t47 at htm g47
    generalize tm.getD 48 undef = t48 at htm g48
    generalize tm.getD 49 undef = t49 at htm g49
    generalize tm.getD 50 undef = t50 at htm g50
    generalize tm.getD 51 undef = t51 at htm g51
    generalize tm.getD 52 undef = t52 at htm g52
    generalize tm.getD 53 undef = t53 at htm g53
    generalize tm.getD 54 undef = t54 at htm g54
    generalize tm.getD 55 undef = t55 at htm g55
    generalize tm.getD 56 undef = t56 at htm g56
    subst htm
    subst g19
    subst g20
    subst g21
    subst g28
    subst g29
    subst g36
    subst g37
    subst g46
    subst g47
    subst g56
    simp only [List.drop_succ_cons, List.drop_zero]
    have HB : Hid (Below w.heap.size w W) := hA.trans (hB.mono hA.size)
    go_wp2
    go_ret
    first | exact ⟨by decide, HB.out⟩ | exact ⟨rfl, HB.out⟩
end Go.Proofs.Ytnjmgholoigpkaa
