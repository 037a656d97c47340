/- lives answers true, whatever the memory. -/
import Derived.Test.YtfpjeclbilhgdaaDoorMake
import Derived.Test.YtfpjeclbilhgdaaDoorText
import Derived.Test.YtfpjeclbilhgdaaDoorTurn
namespace Go.Proofs.YtfpjeclbilhgdaaDoor
open Go.RowKit Go.Sort Go.Shelf

def xs3 : List (Int × Int) := [(5, 0), (3, 4), (9, 2)]
theorem cats3 {w : World} {b : Nat} (h : w.heap[b]? = some (.cells #[.int .i64 5, .int .i64 0, .int .i64 3, .int .i64 4, .int .i64 9, .int .i64 2] 35 (0, 0))) : CatsAt w (some ⟨b, 0, none⟩) xs3 := by
  intro j hj
  have hb : b < w.heap.size := (Array.getElem?_eq_some_iff.1 h).1
  refine ⟨b, 0, rfl, hb, ?_⟩
  simp only [xs3, List.length_cons, List.length_nil] at hj
  match j, hj with
  | 0, _ => simp [World.cell?, h, xs3]
  | 1, _ => simp [World.cell?, h, xs3]
  | 2, _ => simp [World.cell?, h, xs3]
theorem cats1 {w : World} {b : Nat} {x : Int × Int} (h : w.heap[b]? = some (.cells #[.int .i64 x.1, .int .i64 x.2] 35 (0, 0))) : CatsAt w (some ⟨b, 0, none⟩) [x] := by
  intro j hj
  have hb : b < w.heap.size := (Array.getElem?_eq_some_iff.1 h).1
  refine ⟨b, 0, rfl, hb, ?_⟩
  simp only [List.length_cons, List.length_nil] at hj
  match j, hj with
  | 0, _ => simp [World.cell?, h]
theorem catsNil (w : World) (p : Option Addr) : CatsAt w p [] := fun j hj => by simp at hj

theorem zs3 {zs : List (Int × Int)} (hp : zs.Perm xs3) (hs : SortedC zs) : zs = [(3, 4), (5, 0), (9, 2)] := by
  have h1 : zs.Perm [(3, 4), (5, 0), (9, 2)] := hp.trans (by decide)
  refine List.Perm.eq_of_pairwise (le := fun x y => x.1 ≤ y.1) ?_ ?_ (by simp) h1
  · intro a b ha hb h1' h2'
    have ha' := h1.subset ha
    simp only [List.mem_cons, List.not_mem_nil, or_false] at ha' hb
    rcases ha' with rfl | rfl | rfl <;> rcases hb with rfl | rfl | rfl <;> simp_all
  · rw [List.pairwise_iff_getElem]
    intro i j hi hj hij
    exact hs i j hij hj

theorem lives_text : toU (textI dig1 2 [(3, 4), (5, 0)]) = [123, 49, 32, 51, 58, 51, 32, 53, 58, 42, 125] := by decide
theorem lives_bytes : toU (bytesI 2 1 [(5, 0)]) = [2, 1, 5, 0, 0, 0, 0, 0, 0, 0, 0] := by decide
theorem lives_yes : altersS 2 2 [(5, 0)] [(5, 4)] = true := by decide
theorem lives_no : altersS 2 2 [(5, 4)] [] = false := by decide
theorem lives_short : shortS 2 [(3, 4), (5, 0), (9, 2)] = [(3, 4), (5, 0)] := by decide

set_option maxRecDepth 100000 in
set_option maxHeartbeats 2000000 in
theorem lives_any (w : World) : Calls Tryd.prog 4 #[] w fun e w' => e = .returned (.bool true) ∧ Below w.heap.size w w' := by
  have hW : Below w.heap.size w (w.alloc (.cells #[.int .i64 5, .int .i64 0, .int .i64 3, .int .i64 4, .int .i64 9, .int .i64 2] 35)) := by go_grown
  have hM := Make_apart 2 w.heap.size 0 3 xs3 _ (by decide) (by decide) (by unfold Diff xs3; simp) (by decide) (cats3 (World.alloc_heap_new w _))
  go_enter Tryd.func4, Tryd.ntmps4
  go_wp2_with (go_at_call 10; refine hM.mono ?_; rintro e w1 ⟨v, zs, hp, hs, rfl, hown, hb1⟩; refine Hid.out ?_)
  refine Lib.hid ?_
  obtain rfl := zs3 hp hs
  rw [lives_short] at hown
  obtain ⟨p, cap, rfl, hc1, hcap⟩ := own_out hown
  clear hown hM hp hs
  have hB1 : Below w.heap.size w w1 := hW.trans (hb1.mono (by simp))
  go_wp2_with fail
  obtain ⟨W5, hW5⟩ : ∃ W5, (((((w1.alloc (.cells #[.int .i64 2, .slice p 2 cap] 24)).alloc (.cells #[.int .i64 5, .int .i64 0] 35)).alloc (.cells #[.int .i64 2, .slice (some ⟨w1.heap.size + 1, 0, none⟩) 1 1] 24)).alloc (.cells #[.int .i64 5, .int .i64 4] 35)).alloc (.cells #[.int .i64 2, .slice (some ⟨w1.heap.size + 1 + 1 + 1, 0, none⟩) 1 1] 24)) = W5 := ⟨_, rfl⟩
  rw [hW5]
  have hB5 : Below w1.heap.size w1 W5 := by rw [← hW5]; go_grown
  have hz5 : w1.heap.size + 5 ≤ W5.heap.size := by rw [← hW5]; simp
  have hA : W5.heap[w1.heap.size + 1]? = some (.cells #[.int .i64 5, .int .i64 0] 35 (0, 0)) := by
    rw [← hW5, Below.heap_alloc _ _ _ (by simp), Below.heap_alloc _ _ _ (by simp), Below.heap_alloc _ _ _ (by simp)]
    have := World.alloc_heap_new (w1.alloc (.cells #[.int .i64 2, .slice p 2 cap] 24)) (.cells #[.int .i64 5, .int .i64 0] 35)
    rwa [World.size_alloc] at this
  have hBb : W5.heap[w1.heap.size + 1 + 1 + 1]? = some (.cells #[.int .i64 5, .int .i64 4] 35 (0, 0)) := by
    rw [← hW5, Below.heap_alloc _ _ _ (by simp)]
    have := World.alloc_heap_new (((w1.alloc (.cells #[.int .i64 2, .slice p 2 cap] 24)).alloc (.cells #[.int .i64 5, .int .i64 0] 35)).alloc (.cells #[.int .i64 2, .slice (some ⟨w1.heap.size + 1, 0, none⟩) 1 1] 24)) (.cells #[.int .i64 5, .int .i64 4] 35)
    rwa [World.size_alloc, World.size_alloc, World.size_alloc] at this
  have a0 : W5.cell? ⟨w1.heap.size + 1 + 1, 0, none⟩ = some (.int .i64 2) := by rw [← hW5]; simp [go_sem]
  have a1 : W5.cell? ⟨w1.heap.size + 1 + 1, 1, none⟩ = some (.slice (some ⟨w1.heap.size + 1, 0, none⟩) 1 1) := by rw [← hW5]; simp [go_sem]
  have b0 : W5.cell? ⟨w1.heap.size + 1 + 1 + 1 + 1, 0, none⟩ = some (.int .i64 2) := by rw [← hW5]; simp [go_sem]
  have b1 : W5.cell? ⟨w1.heap.size + 1 + 1 + 1 + 1, 1, none⟩ = some (.slice (some ⟨w1.heap.size + 1 + 1 + 1, 0, none⟩) 1 1) := by rw [← hW5]; simp [go_sem]
  have hT := Text_any dig1 2 p cap [(3, 4), (5, 0)] W5 (by decide) (fun x _ => by simp [dig1]) (fun x hx => AppendInt_small x.1 (by simp at hx; rcases hx with rfl | rfl <;> decide) (by simp at hx; rcases hx with rfl | rfl <;> decide)) (hc1.below hB5)
  rw [lives_text] at hT
  clear hW5 hc1
  have HA : Hid (CatsAt W5 (some ⟨w1.heap.size + 1, 0, none⟩) [(5, 0)] ∧ CatsAt W5 (some ⟨w1.heap.size + 1 + 1 + 1, 0, none⟩) [(5, 4)]) := ⟨cats1 (x := (5, 0)) hA, cats1 (x := (5, 4)) hBb⟩
  clear hA hBb
  refine hT.mono ?_
  rintro e w6 ⟨rfl, hb6⟩
  have ca0 := (hb6.cell (p := ⟨w1.heap.size + 1 + 1, 0, none⟩) (by simp; omega)).trans a0
  have ca1 := (hb6.cell (p := ⟨w1.heap.size + 1 + 1, 1, none⟩) (by simp; omega)).trans a1
  have cb0 := (hb6.cell (p := ⟨w1.heap.size + 1 + 1 + 1 + 1, 0, none⟩) (by simp; omega)).trans b0
  have cb1 := (hb6.cell (p := ⟨w1.heap.size + 1 + 1 + 1 + 1, 1, none⟩) (by simp; omega)).trans b1
  have hX := Alters_any 2 2 (some ⟨w1.heap.size + 1, 0, none⟩) (some ⟨w1.heap.size + 1 + 1 + 1, 0, none⟩) 1 1 [(5, 0)] [(5, 4)] w6 (by decide) (by decide) (by decide) (by decide) (HA.out.1.below hb6) (HA.out.2.below hb6)
  rw [lives_yes] at hX
  clear hT
  go_wp2_with (go_at_call 11; refine hX.mono ?_; rintro e w7 ⟨rfl, hb7⟩; refine Hid.out ?_)
  refine Lib.hid ?_
  clear hX
  have hb67 : Below W5.heap.size W5 w7 := hb6.trans (hb7.mono hb6.size)
  have da0 := (hb67.cell (p := ⟨w1.heap.size + 1 + 1, 0, none⟩) (by simp; omega)).trans a0
  have da1 := (hb67.cell (p := ⟨w1.heap.size + 1 + 1, 1, none⟩) (by simp; omega)).trans a1
  have db0 := (hb67.cell (p := ⟨w1.heap.size + 1 + 1 + 1 + 1, 0, none⟩) (by simp; omega)).trans b0
  have db1 := (hb67.cell (p := ⟨w1.heap.size + 1 + 1 + 1 + 1, 1, none⟩) (by simp; omega)).trans b1
  have hX := Alters_any 2 2 (some ⟨w1.heap.size + 1 + 1 + 1, 0, none⟩) none 1 0 [(5, 4)] [] w7 (by decide) (by decide) (by decide) (by decide) (HA.out.2.below hb67) (catsNil _ _)
  rw [lives_no] at hX
  clear ca0 ca1 cb0 cb1
  go_wp2_with (go_at_call 11; refine hX.mono ?_; rintro e w8 ⟨rfl, hb8⟩; refine Hid.out ?_)
  refine Lib.hid ?_
  clear hX
  have hb58 : Below W5.heap.size W5 w8 := hb67.trans (hb8.mono hb67.size)
  have ea0 := (hb58.cell (p := ⟨w1.heap.size + 1 + 1, 0, none⟩) (by simp; omega)).trans a0
  have ea1 := (hb58.cell (p := ⟨w1.heap.size + 1 + 1, 1, none⟩) (by simp; omega)).trans a1
  have hY := Bytes_any 2 (some ⟨w1.heap.size + 1, 0, none⟩) 1 [(5, 0)] w8 (by decide) (HA.out.1.below hb58)
  rw [show ([(5, 0)] : List (Int × Int)).length = 1 from rfl, lives_bytes] at hY
  clear da0 da1 db0 db1
  go_wp2_with (go_at_call 12; refine hY.mono ?_; rintro e w9 ⟨rfl, hb9⟩)
  go_ret
  exact ⟨rfl, hB1.trans ((hB5.trans ((hb58.trans (hb9.mono hb58.size)).mono (by omega))).mono hB1.size)⟩
end Go.Proofs.YtfpjeclbilhgdaaDoor
