/- What New of package hold makes. -/
import Derived.Test.YtebcnlhgkpaghaaTab
import Derived.Maps.Own
namespace Go.Proofs.Ytebcnlhgkpaghaa
open Go.RowKit Go.Sort
def root0 (root d : Int) (xs : List (Int × Int)) : Ob := ⟨root, 1, 1099511627776, 0, 1, d, xs, []⟩
def T0 (root : Int) (r : Rc) : Tab := fun k => if k = root then some r else none
set_option maxRecDepth 100000 in
set_option maxHeartbeats 1000000 in
theorem New_no (root d : Int) (p : Option Addr) (cap : Nat) (xs : List (Int × Int)) (w : World) (hm : xs.length ≤ maxLen) (hc : CatsAt w p xs) (hno : (isCt root && fitsS d 1 xs) = false) :
    Calls Try.prog 5 #[.int .i64 root, .agg #[.int .i64 d, .slice p xs.length cap]] w fun e w' => e = .returned (.pointer none) ∧ Below w.heap.size w w' := by
  have hW1 : Below w.heap.size w (w.alloc (.cells #[.int .i64 d, .slice p xs.length cap] 24)) := by go_grown
  have HF := Lib.hid (fits_any d 1 p cap xs _ hm (hc.below hW1))
  have HI := Lib.hid (isId_any root)
  clear hc
  by_cases h1 : isCt root = true
  · have h2 : fitsS d 1 xs = false := by rw [h1] at hno; simpa using hno
    rw [h2] at HF
    rw [h1] at HI
    go_enter Try.func5, Try.ntmps5
    go_wp2_with (first | (go_at_call 14; refine (HI.out _).mono ?_; rintro e w2 ⟨rfl, hw2⟩; rw [hw2]; clear hw2 w2) | (go_at_call 15; refine HF.out.mono ?_; rintro e w2 ⟨rfl, hb2⟩))
    go_ret
    exact ⟨rfl, hW1.trans (hb2.mono (by simp))⟩
  · have h1' : isCt root = false := by simpa using h1
    rw [h1'] at HI
    go_enter Try.func5, Try.ntmps5
    go_wp2_with (first | (go_at_call 14; refine (HI.out _).mono ?_; rintro e w2 ⟨rfl, hw2⟩; rw [hw2]; clear hw2 w2))
    go_ret
    exact ⟨rfl, hW1⟩
set_option maxRecDepth 100000 in
set_option maxHeartbeats 1000000 in
theorem New_any (root d : Int) (p : Option Addr) (cap : Nat) (xs : List (Int × Int)) (w : World) (hm : xs.length * 16 ≤ 140737488355328) (hc : CatsAt w p xs) (hi : isCt root = true) (hf : fitsS d 1 xs = true) :
    Calls Try.prog 5 #[.int .i64 root, .agg #[.int .i64 d, .slice p xs.length cap]] w fun e w' => ∃ tb mb D r, e = .returned (.pointer (some ⟨tb, 0, none⟩)) ∧ TAt w' w.heap.size tb mb D (T0 root r) ∧ r.ob = root0 root d xs ∧ Maps.size D = 1 ∧ Below w.heap.size w w' := by
  have hW1 : Below w.heap.size w (w.alloc (.cells #[.int .i64 d, .slice p xs.length cap] 24)) := by go_grown
  have hc1 := hc.below hW1
  have HF := Lib.hid (fits_any d 1 p cap xs _ (by unfold maxLen; omega) hc1)
  have HI := Lib.hid (isId_any root)
  have HO : Hid (∀ W, RowKit.Below (w.alloc (.cells #[.int .i64 d, .slice p xs.length cap] 24)).heap.size (w.alloc (.cells #[.int .i64 d, .slice p xs.length cap] 24)) W → _) := fun W hb => newObject_any root 1 1099511627776 d p cap xs W hm (hc1.below hb)
  have hmm := @run_makeMap Try.prog
  have k0 : (w.alloc (.cells #[.int .i64 d, .slice p xs.length cap] 24)).cell? ⟨w.heap.size, 0, none⟩ = some (.int .i64 d) := by simp [go_sem]
  have k1 : (w.alloc (.cells #[.int .i64 d, .slice p xs.length cap] 24)).cell? ⟨w.heap.size, 1, none⟩ = some (.slice p xs.length cap) := by simp [go_sem]
  rw [hi] at HI
  rw [hf] at HF
  clear hc hc1
  go_enter Try.func5, Try.ntmps5
  go_wp2_with (first
    | (go_at_call 14; refine (HI.out _).mono ?_; rintro e w2 ⟨rfl, hw2⟩; rw [hw2]; clear hw2 w2)
    | (go_at_call 15; refine HF.out.mono ?_; rintro e w2 ⟨rfl, hb2⟩; have HO2 := Lib.hid (HO.out w2 hb2); have l0 := (hb2.cell (p := ⟨w.heap.size, 0, none⟩) (by simp)).trans k0; have l1 := (hb2.cell (p := ⟨w.heap.size, 1, none⟩) (by simp)).trans k1)
    | (go_at_call 16; refine HO2.out.mono ?_; rintro e w3 ⟨B, cv, rfl, hB, hlow, hr3, hb3⟩; refine Hid.out ?_))
  refine Lib.hid ?_
  have o4 : w3.cell? ⟨B, 4, none⟩ = some (.int .i64 0) := by simp [World.cell?, hB]
  have f4 : w3.frozen? ⟨B, 4, none⟩ = false := by simp [World.frozen?, hB]
  have hm0 : ((w3.setCell ⟨B, 4, none⟩ (.int .i64 1)).alloc (.map #[] 0)).ownsMap Try.prog 3 ptrE w3.heap.size 0 (.map []) := by
    have := World.ownsMap_made (H := Unit) (w3.setCell ⟨B, 4, none⟩ (.int .i64 1)) Try.prog 3 ptrE
    rwa [show (w3.setCell ⟨B, 4, none⟩ (.int .i64 1)).heap.size = w3.heap.size from by simp] at this
  have hir : i64 root := by have := hi; unfold isCt at this; simp at this; unfold i64; omega
  obtain ⟨w5, hup, hm5, hg5⟩ := hm0.update keyedI um (by unfold maxLen; omega) (keyI hir) (val := .pointer (some ⟨B, 0, none⟩)) (d := .lit (.int .i64 (B : Int))) (ps := []) rfl
  have HB := Lib.hid hB
  have HR3 := Lib.hid hr3
  have HM5 := Lib.hid hm5
  have HG5 := Lib.hid hg5
  have HB3 := Lib.hid hb3
  have HB2 := Lib.hid hb2
  clear hm5 hg5 hm0 hr3 hB hb3 hb2
  go_wp2_with fail
  go_ret
  have hlt3 : B < w3.heap.size := (Array.getElem?_eq_some_iff.1 HB.out).1
  have z2 := HB2.out.size
  have z3 := HB3.out.size
  have z5 := HG5.out.size
  simp at z2 z5
  have b4 : ((w3.setCell ⟨B, 4, none⟩ (.int .i64 1)).alloc (.map #[] 0)).heap[B]? = some (.cells #[.int .i64 root, .int .i64 1, .int .i64 1099511627776, .int .i64 0, .int .i64 1, .int .i64 d, cv, .slice none 0 0] 54 (0, 0)) := by
    rw [Below.heap_alloc _ _ _ (by simpa using hlt3), heap_setCell_same _ _ _ _ _ _ HB.out]
    rfl
  have b5 : w5.heap[B]? = _ := (HG5.out.block B (by simp; omega) (by simp; omega)).trans b4
  have b6 : (w5.alloc (.cells #[.map (some w3.heap.size)] 57)).heap[B]? = _ := (Below.heap_alloc _ _ _ (by omega)).trans b5
  have hcvl : ∀ k, cv.ownBlock = some k → k < w3.heap.size ∧ w2.heap.size ≤ k := fun k hk => ⟨(HR3.out.lt k hk).2, (HR3.out.lt k hk).1⟩
  have hcvB : ∀ k, cv.ownBlock = some k → k ≠ B := fun k hk e => by
    subst e
    rcases HR3.out.2 with ⟨rfl, _⟩ | ⟨g, cap', cur, rfl, _, hg, _⟩
    · cases hk
    · obtain rfl : g = k := by simpa [Value.ownBlock] using hk
      rw [HB.out] at hg; simp at hg
  have same : ∀ k, k < w3.heap.size → k ≠ B → (w5.alloc (.cells #[.map (some w3.heap.size)] 57)).heap[k]? = w3.heap[k]? := fun k hk hne => by
    rw [Below.heap_alloc _ _ _ (by omega), HG5.out.block k (by simp; omega) (by simp; omega), Below.heap_alloc _ _ _ (by simpa using hk), heap_ne _ _ _ hne]
  have hD : Maps.IsMap (.map [] : DataW Unit) := Maps.isMap_empty
  have hsz : Maps.size ((.map [] : DataW Unit).put (ky root) (.lit (.int .i64 (B : Int)))) = 1 := by rw [Maps.size_put Maps.tidy_empty]; rfl
  refine ⟨w5.heap.size, w3.heap.size, (.map [] : DataW Unit).put (ky root) (.lit (.int .i64 (B : Int))), ⟨B, cv, .slice none 0 0, root0 root d xs⟩, rfl, ⟨heap_new _ _, ?_, ?_, ?_, ?_, ?_, ?_, ?_⟩, rfl, hsz, ?_⟩
  · show World.ownsMap _ _ _ _ _ _ _
    rw [hsz]
    exact HM5.out.alloc _
  · intro k
    unfold T0
    by_cases hk : k = root
    · subst hk; rw [if_pos rfl, Maps.has_put_same hD (show WideAt.IsKeyLit (ky k) from trivial)]; rfl
    · rw [if_neg hk, Maps.has_put_other (by simpa using hk)]; rfl
  · intro k r hr z
    unfold T0 at hr
    split at hr
    · subst k; cases hr; rw [Maps.atKey_put_same hD (show WideAt.IsKeyLit (ky root) from trivial)]
    · cases hr
  · intro k r hr
    unfold T0 at hr
    split at hr
    · subst k; cases hr
      refine ⟨⟨b6, ?_, World.ownsRow_nil _ _ _ _, by show _ ≤ B; omega⟩, rfl⟩
      exact row_mono (row_same HR3.out (fun k hk => same k (hcvl k hk).1 (hcvB k hk))) (by omega)
    · cases hr
  · intro i j r s k hr hs hij
    unfold T0 at hr hs
    split at hr
    · split at hs
      · omega
      · cases hs
    · cases hr
  · show w.heap.size ≤ w5.heap.size; omega
  · show w.heap.size ≤ w3.heap.size; omega
  · have h2 : RowKit.Below w.heap.size w w2 := hW1.trans (HB2.out.mono (by simp))
    have h3 : RowKit.Below w.heap.size w w3 := h2.trans (HB3.out.mono (by omega))
    have h4 : RowKit.Below w.heap.size w ((w3.setCell ⟨B, 4, none⟩ (.int .i64 1)).alloc (.map #[] 0)) := (h3.setCell (p := ⟨B, 4, none⟩) (by show _ ≤ B; omega) _).alloc (by simp; omega) _
    have h5 : RowKit.Below w.heap.size w w5 := Below.grown h4 HG5.out (by simp; omega) (fun k hk => by simp at hk; omega)
    exact h5.alloc (by omega) _
end Go.Proofs.Ytebcnlhgkpaghaa
