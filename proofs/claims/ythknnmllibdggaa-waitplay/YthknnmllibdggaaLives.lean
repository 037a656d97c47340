/- The chapter's example comes out as the document says. -/
import Derived.Test.YthknnmllibdggaaSame
namespace Go.Proofs.Ythknnmllibdggaa
open Go.RowKit Go.Sort
set_option maxRecDepth 100000 in
set_option maxHeartbeats 4000000 in
theorem lives_any (w : World) : Calls Try.prog 8 #[] w fun e w' => e = .returned (.bool true) ∧ Below w.heap.size w w' := by
  go_enter Try.func8, Try.ntmps8
  go_wp2_with (go_at_call 9; refine (New_any w).mono ?_; rintro e w0 ⟨rb, F0, rfl, hra0, hb0, hlo0, hlt0⟩; refine Hid.out ?_)
  refine Lib.hid ?_
  have hz0 := hb0.size
  have hW1 := Wait_any w0 rb F0 ([] : List Who) (fun _ => []) 0 5 9 0 hra0 (by omega)
  rw [show waitE ([] : List Who) (fun _ => []) 5 9 0 = 0 from by rfl, if_pos rfl] at hW1
  have HW1 := Lib.hid hW1
  clear hW1
  go_wp2_with (go_at_call 14; refine HW1.out.mono ?_; rintro e w1 ⟨rfl, hX1⟩; refine Hid.out ?_)
  refine Lib.hid ?_
  obtain ⟨F1, hra1, hf1, hs1, hlt1⟩ := hX1
  have hlo1 : ∀ k, F1 k → w.heap.size ≤ k := fun k hk => (hs1 k hk).elim (hlo0 k) (fun h => by omega)
  have hb1 : Below w.heap.size w w1 := hb0.trans (hf1.below hz0 (fun k hk h => by have := hlo0 k h; omega))
  have hz1 := hb1.size
  clear HW1 hra0 hf1 hs1
  have hW2 := Wait_any w1 rb F1 (([] : List Who) ++ [(5, 9, 0)]) (fun _ => []) 1 6 9 8 hra1 (by omega)
  rw [show waitE (([] : List Who) ++ [(5, 9, 0)]) (fun _ => []) 6 9 8 = 0 from by rfl, if_pos rfl] at hW2
  have HW2 := Lib.hid hW2
  clear hW2
  go_wp2_with (go_at_call 14; refine HW2.out.mono ?_; rintro e w2 ⟨rfl, hX2⟩; refine Hid.out ?_)
  refine Lib.hid ?_
  obtain ⟨F2, hra2, hf2, hs2, hlt2⟩ := hX2
  have hlo2 : ∀ k, F2 k → w.heap.size ≤ k := fun k hk => (hs2 k hk).elim (hlo1 k) (fun h => by omega)
  have hb2 : Below w.heap.size w w2 := hb1.trans (hf2.below hz1 (fun k hk h => by have := hlo1 k h; omega))
  have hz2 := hb2.size
  clear HW2 hra1 hf2 hs2
  have hW3 := Wait_any w2 rb F2 ((([] : List Who) ++ [(5, 9, 0)]) ++ [(6, 9, 8)]) (fun _ => []) 2 7 9 0 hra2 (by omega)
  rw [show waitE ((([] : List Who) ++ [(5, 9, 0)]) ++ [(6, 9, 8)]) (fun _ => []) 7 9 0 = 0 from by rfl, if_pos rfl] at hW3
  have HW3 := Lib.hid hW3
  clear hW3
  go_wp2_with (go_at_call 14; refine HW3.out.mono ?_; rintro e w3 ⟨rfl, hX3⟩; refine Hid.out ?_)
  refine Lib.hid ?_
  obtain ⟨F3, hra3, hf3, hs3, hlt3⟩ := hX3
  have hlo3 : ∀ k, F3 k → w.heap.size ≤ k := fun k hk => (hs3 k hk).elim (hlo2 k) (fun h => by omega)
  have hb3 : Below w.heap.size w w3 := hb2.trans (hf3.below hz2 (fun k hk h => by have := hlo2 k h; omega))
  have hz3 := hb3.size
  clear HW3 hra2 hf3 hs3
  have hW4 := Wake_any w3 rb F3 (((([] : List Who) ++ [(5, 9, 0)]) ++ [(6, 9, 8)]) ++ [(7, 9, 0)]) (fun _ => []) 3 9 0 (by unfold i64; omega) (by unfold i64; omega) hra3 (by omega) hlt3
  rw [show listA (((([] : List Who) ++ [(5, 9, 0)]) ++ [(6, 9, 8)]) ++ [(7, 9, 0)]) 9 0 = [5, 7] from by rfl, show dropL [5, 7] (((([] : List Who) ++ [(5, 9, 0)]) ++ [(6, 9, 8)]) ++ [(7, 9, 0)]) = [((6, 9, 8) : Who)] from by rfl] at hW4
  have HW4 := Lib.hid hW4
  clear hW4
  go_wp2_with (go_at_call 16; refine HW4.out.mono ?_; rintro e w4 ⟨v, rfl, hr4, hra4, hf4⟩; refine Hid.out ?_)
  refine Lib.hid ?_
  obtain ⟨sp, cap, rfl⟩ := row_form hr4
  have hb4 : Below w.heap.size w w4 := hb3.trans (hf4.below hz3 (fun k hk h => by have := hlo3 k h; omega))
  have hz4 := hb4.size
  have hi4 : IntsAt w4 sp [5, 7] := row_ints (l := [5, 7]) hr4
  have hlo4 := hlo3
  have hlt4 : ∀ k, F3 k → k < w4.heap.size := fun k hk => by have := hlt3 k hk; have := hf4.size; omega
  have hbS : Below w4.heap.size w4 (w4.alloc (.cells #[.int .i64 5, .int .i64 7] 3)) := (Below.refl _ _).alloc (Nat.le_refl _) _
  have hi2 : IntsAt (w4.alloc (.cells #[.int .i64 5, .int .i64 7] 3)) (some ⟨w4.heap.size, 0, none⟩) [5, 7] := fun k hk => by
    have hh := heap_new w4 (.cells #[.int .i64 5, .int .i64 7] 3)
    match k, hk with
    | 0, _ => exact ⟨_, 0, rfl, by simp, by rw [cell_of_row _ _ _ _ _ _ hh]; rfl⟩
    | 1, _ => exact ⟨_, 0, rfl, by simp, by rw [cell_of_row _ _ _ _ _ _ hh]; rfl⟩
    | k + 2, hk => simp at hk; omega
  have HSI := Lib.hid (SameInts_any _ sp (some ⟨w4.heap.size, 0, none⟩) cap 2 [5, 7] [5, 7] (hi4.below hbS) hi2 (by simp))
  have HRA4 := Lib.hid hra4
  have HB4 := Lib.hid hb4
  have HBS := Lib.hid hbS
  clear HW4 hra3 hf4 hi4 hr4 hi2 hbS hra4
  go_wp2_with (go_at_call 24; refine HSI.out.mono ?_; rintro e w5 ⟨rfl, hbn⟩; refine Hid.out ?_)
  refine Lib.hid ?_
  have hbm : Below w4.heap.size w4 w5 := HBS.out.trans (hbn.mono HBS.out.size)
  have hra5 := HRA4.out.below hbm
  have hb5 : Below w.heap.size w w5 := HB4.out.trans (hbm.mono HB4.out.size)
  have hz5 := hb5.size
  have hlo5 := hlo4
  have hlt5 : ∀ k, F3 k → k < w5.heap.size := fun k hk => by have := hlt4 k hk; have := hbm.size; omega
  obtain ⟨F5, hF5⟩ : ∃ F5, F3 = F5 := ⟨_, rfl⟩
  rw [hF5] at hra5 hlo5 hlt5
  clear hbm hbn HSI HRA4 HB4 HBS hlt4 hlo4 hb4 hF5 hlo3 hlt3 hb3
  have hW6 := Wait_any w5 rb F5 [((6, 9, 8) : Who)] (fun _ => []) 3 6 9 0 hra5 (by omega)
  rw [show waitE [((6, 9, 8) : Who)] (fun _ => []) 6 9 0 = 8 from by rfl, if_neg (by decide)] at hW6
  have HW6 := Lib.hid hW6
  clear hW6
  go_wp2_with (go_at_call 14; refine HW6.out.mono ?_; rintro e w6 ⟨rfl, hX6⟩; refine Hid.out ?_)
  refine Lib.hid ?_
  obtain ⟨F6, hra6, hf6, hs6, hlt6⟩ := hX6
  have hlo6 : ∀ k, F6 k → w.heap.size ≤ k := fun k hk => (hs6 k hk).elim (hlo5 k) (fun h => by omega)
  have hb6 : Below w.heap.size w w6 := hb5.trans (hf6.below hz5 (fun k hk h => by have := hlo5 k h; omega))
  have hz6 := hb6.size
  clear HW6 hra5 hf6 hs6
  have hW7 := Post_any w6 rb F6 [((6, 9, 8) : Who)] (fun _ => []) 4 6 3 hra6 (by omega)
  rw [show postE (fun _ => []) 6 3 = 0 from by rfl, show postW [((6, 9, 8) : Who)] (fun _ => []) 6 3 = true from by rfl, if_pos rfl, if_pos rfl, show dropT 6 [((6, 9, 8) : Who)] = [] from by rfl] at hW7
  have HW7 := Lib.hid hW7
  clear hW7
  go_wp2_with (go_at_call 17; refine HW7.out.mono ?_; rintro e w7 ⟨rfl, hX7⟩; refine Hid.out ?_)
  refine Lib.hid ?_
  obtain ⟨F7, hra7, hf7, hs7, hlt7⟩ := hX7
  have hlo7 : ∀ k, F7 k → w.heap.size ≤ k := fun k hk => (hs7 k hk).elim (hlo6 k) (fun h => by omega)
  have hb7 : Below w.heap.size w w7 := hb6.trans (hf7.below hz6 (fun k hk h => by have := hlo6 k h; omega))
  have hz7 := hb7.size
  clear HW7 hra6 hf7 hs7
  have hW8 := Wait_any w7 rb F7 ([] : List Who) (setI (fun _ => []) 6 ([] ++ [3])) 5 6 9 0 hra7 (by omega)
  rw [show waitE ([] : List Who) (setI (fun _ => []) 6 ([] ++ [3])) 6 9 0 = 10 from by rfl, if_neg (by decide)] at hW8
  have HW8 := Lib.hid hW8
  clear hW8
  go_wp2_with (go_at_call 14; refine HW8.out.mono ?_; rintro e w8 ⟨rfl, hX8⟩; refine Hid.out ?_)
  refine Lib.hid ?_
  obtain ⟨F8, hra8, hf8, hs8, hlt8⟩ := hX8
  have hlo8 : ∀ k, F8 k → w.heap.size ≤ k := fun k hk => (hs8 k hk).elim (hlo7 k) (fun h => by omega)
  have hb8 : Below w.heap.size w w8 := hb7.trans (hf8.below hz7 (fun k hk h => by have := hlo7 k h; omega))
  have hz8 := hb8.size
  clear HW8 hra7 hf8 hs8
  have hW9 := Take_any w8 rb F8 ([] : List Who) (setI (fun _ => []) 6 ([] ++ [3])) 6 6 (by unfold i64; omega) hra8 (by omega)
  rw [show takeV (setI (fun _ => []) 6 ([] ++ [3])) 6 = .tuple #[.int .i64 3, .bool true] from by rfl] at hW9
  have HW9 := Lib.hid hW9
  clear hW9
  go_wp2_with (go_at_call 18; refine HW9.out.mono ?_; rintro e w9 ⟨rfl, hra9, hf9⟩; refine Hid.out ?_)
  refine Lib.hid ?_
  have hb9 : Below w.heap.size w w9 := hb8.trans (hf9.below hz8 (fun k hk h => by have := hlo8 k h; omega))
  have HL := Lib.hid (Len_any w9 rb _ _ _ _ hra9)
  clear HW9 hra8 hf9 hra9
  go_wp2_with (go_at_call 21; refine HL.out.mono ?_; rintro e w99 ⟨rfl, hw99⟩; rw [hw99]; clear hw99 w99)
  go_ret
  exact ⟨rfl, hb9⟩
end Go.Proofs.Ythknnmllibdggaa
