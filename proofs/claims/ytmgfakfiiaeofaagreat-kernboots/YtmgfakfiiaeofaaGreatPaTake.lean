/- What least and take of package label answer, for every two rows of entries. -/
import Derived.Test.YtmgfakfiiaeofaaGreatPaBase
/- What Right, At, Has and their kin of package label and of the reference answer, for every label. -/
namespace Go.Proofs.YtmgfakfiiaeofaaGreat.Pa
open Go.RowKit Go.Sort


set_option maxHeartbeats 400000 in
theorem Right_any (d : Int) (p : Option Addr) (cap : Nat) (xs : List (Int × Int)) (w : World) (hm : xs.length <= maxLen) (hc : CatsAt w p xs) :
 Calls Tryz.prog 117 #[.agg #[.int .i64 d, .slice p xs.length cap]] w fun e w' => e = .returned (.bool (rightS d xs)) /\ Below w.heap.size w w' := by
 unfold maxLen at hm
 by_cases h1 : lev d = true
 · by_cases h2 : xs.length <= 16
   · have h2' : ¬ (16 : Int) < (xs.length : Int) := by omega
     have hW1 : Below w.heap.size w (w.alloc (.cells #[.int .i64 d, .slice p xs.length cap] 46)) := (Below.refl _ _).alloc (Nat.le_refl _) _
     go_enter Tryz.func117, Tryz.ntmps117
     go_wp2_with (first | (go_at_call 169; refine (isLevel_any _ _).mono ?_; rintro e w' ⟨rfl, rfl⟩))
     go_loopw [3, 19] (fun l i wr => ∃ k : Nat, k <= xs.length /\ i = .int .i64 k /\ l = .int .i64 (lastAt xs k) /\ rOk d 0 xs = rOk d (lastAt xs k) (xs.drop k) /\ Below (w.heap.size + 1) (w.alloc (.cells #[.int .i64 d, .slice p xs.length cap] 46)) wr) (fun _ i _ => xs.length - (intOf i).toNat)
     case atStart => exact ⟨0, Nat.zero_le _, rfl, rfl, by simp [lastAt], Below.refl _ _⟩
     case round =>
      obtain ⟨k, hk, rfl, rfl, hr, hb⟩ := hrel
      have b0 : wr.cell? ⟨w.heap.size, 0, none⟩ = some (.int .i64 d) := (hb.cell (p := ⟨w.heap.size, 0, none⟩) (by simp)).trans (by simp [go_sem])
      have HR : Hid (rOk d 0 xs = rOk d (lastAt xs k) (xs.drop k)) := hr; clear hr
      by_cases hlt : k < xs.length
      · obtain ⟨b, off, rfl, hbl, c0, c1⟩ := hc.get hb hW1 (by omega) k hlt
        clear hc
        have hz : w.heap.size < wr.heap.size := by have := hb.size; simp at this; omega
        have hB : Below w.heap.size w wr := hW1.trans (hb.mono (by omega))
        have HS : Hid (rOk d (lastAt xs k) (xs.drop k) = (can xs[k] && !(xs[k].2 == d) && !(decide (xs[k].1 <= lastAt xs k)) && rOk d xs[k].1 (xs.drop (k + 1)))) := rOk_step d _ xs k hlt
        have hsz : w.heap.size <= wr.heap.size := hB.size
        by_cases h3 : can xs[k] = true
        · by_cases h4 : (xs[k].2 == d) = true
          · go_wp2_with (first | (go_at_call 170; refine (canBe_any _ _).mono ?_; rintro e w' ⟨rfl, rfl⟩))
            go_ret
            exact ⟨ret_bool (by unfold rightS; rw [HR.out, HS.out]; simp [h4]), by go_grown⟩
          · have h4' : (xs[k].2 == d) = false := by simpa using h4
            by_cases h5 : xs[k].1 <= lastAt xs k
            · go_wp2_with (first | (go_at_call 170; refine (canBe_any _ _).mono ?_; rintro e w' ⟨rfl, rfl⟩))
              go_ret
              exact ⟨ret_bool (by unfold rightS; rw [HR.out, HS.out]; simp [h5]), by go_grown⟩
            · go_wp2_with (first | (go_at_call 170; refine (canBe_any _ _).mono ?_; rintro e w' ⟨rfl, rfl⟩))
              go_roundw
              case rel => exact ⟨k + 1, by omega, by go_num, by rw [lastAt_succ xs k hlt], by rw [HR.out, HS.out, lastAt_succ xs k hlt]; simp [h3, h4', h5], by go_grown⟩
              case measure => simp [intOf]; omega
        · have h3' : can xs[k] = false := by simpa using h3
          go_wp2_with (first | (go_at_call 170; refine (canBe_any _ _).mono ?_; rintro e w' ⟨rfl, rfl⟩))
          go_ret
          exact ⟨ret_bool (by unfold rightS; rw [HR.out, HS.out]; simp [h3']), by go_grown⟩
      · go_wp2
        go_ret
        exact ⟨ret_bool (by unfold rightS; rw [HR.out, List.drop_of_length_le (by omega)]; simp [rOk, h1, h2]), hW1.trans (hb.mono (by omega))⟩
   · have h2' : (16 : Int) < (xs.length : Int) := by omega
     go_enter Tryz.func117, Tryz.ntmps117
     go_wp2_with (first | (go_at_call 169; refine (isLevel_any _ _).mono ?_; rintro e w' ⟨rfl, rfl⟩))
     go_ret
     exact ⟨ret_bool (by unfold rightS; simp; omega), by go_grown⟩
 · have h1' : lev d = false := by simpa using h1
   go_enter Tryz.func117, Tryz.ntmps117
   go_wp2_with (first | (go_at_call 169; refine (isLevel_any _ _).mono ?_; rintro e w' ⟨rfl, rfl⟩))
   go_ret
   exact ⟨ret_bool (by unfold rightS; simp [h1']), by go_grown⟩
theorem bdn {B : Nat} {w w' : World} (h : Below B w w') (n : Nat) : Below B w (w'.drewN n) := ⟨h.os, h.tape, h.output, h.size, h.block⟩

theorem ret_int {a b : Int} (h : a = b) : Ending.returned (.int .i64 a) = .returned (.int .i64 b) := by rw [h]
def atS (d : Int) : List (Int × Int) -> Int -> Int
 | [], _ => d
 | x :: xs, c => if (x.1 == c) = true then x.2 else atS d xs c
theorem atS_step (d c : Int) (xs : List (Int × Int)) (k : Nat) (h : k < xs.length) :
 atS d (xs.drop k) c = if (xs[k].1 == c) = true then xs[k].2 else atS d (xs.drop (k + 1)) c := by
 rw [List.drop_eq_getElem_cons h]; rfl
def hasS (d : Int) (xs : List (Int × Int)) (l : Int) : Bool := xs.any (fun x => x.2 == l) || (d == l)
def idxF (p : Int × Int -> Bool) : List (Int × Int) -> Nat -> Int
 | [], _ => -1
 | x :: xs, k => if p x = true then (k : Int) else idxF p xs (k + 1)
theorem idxF_step (p : Int × Int -> Bool) (xs : List (Int × Int)) (k : Nat) (h : k < xs.length) :
 idxF p (xs.drop k) k = if p xs[k] = true then (k : Int) else idxF p (xs.drop (k + 1)) (k + 1) := by
 rw [List.drop_eq_getElem_cons h]; rfl
theorem idxF_any (p : Int × Int -> Bool) (xs : List (Int × Int)) (k : Nat) : decide (0 <= idxF p xs k) = xs.any p := by
 induction xs generalizing k with
 | nil => simp [idxF]
 | cons x xs ih =>
  by_cases h : p x = true
  · simp [idxF, h]
  · simp [idxF, h, ih (k + 1)]
theorem CatsAt.below {w w' : World} {p : Option Addr} {xs : List (Int × Int)} (h : CatsAt w p xs) (hb : Below w.heap.size w w') : CatsAt w' p xs := fun j hj => by
 obtain ⟨b, off, hp, hbl, c0, c1⟩ := h j hj
 exact ⟨b, off, hp, Nat.lt_of_lt_of_le hbl hb.size, (hb.cell (p := ⟨b, off + j * 2, none⟩) hbl).trans c0, (hb.cell (p := ⟨b, off + j * 2 + 1, none⟩) hbl).trans c1⟩

set_option maxHeartbeats 400000 in
theorem At_any (d c : Int) (p : Option Addr) (cap : Nat) (xs : List (Int × Int)) (w : World) (hm : xs.length <= maxLen) (hc : CatsAt w p xs) :
 Calls Tryz.prog 243 #[.agg #[.int .i64 d, .slice p xs.length cap], .int .i64 c] w fun e w' => e = .returned (.int .i64 (atS d xs c)) /\ Below w.heap.size w w' := by
 unfold maxLen at hm
 have hW1 : Below w.heap.size w (w.alloc (.cells #[.int .i64 d, .slice p xs.length cap] 46)) := (Below.refl _ _).alloc (Nat.le_refl _) _
 go_enter Tryz.func243, Tryz.ntmps243
 go_wp2
 go_loopw [10] (fun i wr => ∃ k : Nat, k <= xs.length /\ i = .int .i64 k /\ atS d xs c = atS d (xs.drop k) c /\ Below (w.heap.size + 1) (w.alloc (.cells #[.int .i64 d, .slice p xs.length cap] 46)) wr) (fun i _ => xs.length - (intOf i).toNat)
 case atStart => exact ⟨0, Nat.zero_le _, rfl, by simp, Below.refl _ _⟩
 case round =>
  obtain ⟨k, hk, rfl, hr, hb⟩ := hrel
  have HR : Hid (atS d xs c = atS d (xs.drop k) c) := hr; clear hr
  have b0 : wr.cell? ⟨w.heap.size, 0, none⟩ = some (.int .i64 d) := (hb.cell (p := ⟨w.heap.size, 0, none⟩) (by simp)).trans (by simp [go_sem])
  have hB : Below w.heap.size w wr := hW1.trans (hb.mono (by omega))
  have hsz : w.heap.size <= wr.heap.size := hB.size
  by_cases hlt : k < xs.length
  · obtain ⟨b, off, rfl, hbl, c0, c1⟩ := hc.get hb hW1 (by omega) k hlt
    clear hc
    have hz : w.heap.size < wr.heap.size := by have := hb.size; simp at this; omega
    have HS : Hid (atS d (xs.drop k) c = if (xs[k].1 == c) = true then xs[k].2 else atS d (xs.drop (k + 1)) c) := atS_step d c xs k hlt
    by_cases h3 : (xs[k].1 == c) = true
    · go_wp2
      go_ret
      exact ⟨ret_int (by rw [HR.out, HS.out, if_pos h3]), by go_grown⟩
    · have h3' : (xs[k].1 == c) = false := by simpa using h3
      go_wp2
      go_roundw
      case rel => exact ⟨k + 1, by omega, by go_num, by rw [HR.out, HS.out, if_neg h3], by go_grown⟩
      case measure => simp [intOf]; omega
  · go_wp2
    go_ret
    exact ⟨ret_int (by rw [HR.out, List.drop_of_length_le (by omega)]; rfl), hB⟩

theorem has1_any (x : Int × Int) (B : Nat) (l : Int) (w : World) (hB : B < w.heap.size) (hl : w.cell? ⟨B, 0, none⟩ = some (.int .i64 l)) :
 Calls Tryz.prog 264 #[.agg #[.int .i64 x.1, .int .i64 x.2], .pointer (some ⟨B, 0, none⟩)] w fun e w' => e = .returned (.bool (x.2 == l)) /\ Below w.heap.size w w' := by
 go_enter Tryz.func264, Tryz.ntmps264
 go_wp2
 go_ret
 exact ⟨rfl, by go_grown⟩

set_option maxHeartbeats 400000 in
theorem IndexFunc_has (B : Nat) (l : Int) (p : Option Addr) (cap : Nat) (xs : List (Int × Int)) (w : World) (hm : xs.length <= maxLen) (hc : CatsAt w p xs) (hB : B < w.heap.size) (hl : w.cell? ⟨B, 0, none⟩ = some (.int .i64 l)) :
 Calls Tryz.prog 280 #[.slice p xs.length cap, .func (.func 264) #[] #[.pointer (some ⟨B, 0, none⟩)]] w fun e w' => e = .returned (.int .i64 (idxF (fun x => x.2 == l) xs 0)) /\ Below w.heap.size w w' := by
 unfold maxLen at hm
 go_enter Tryz.func280, Tryz.ntmps280
 go_wp2
 go_loopw [8] (fun i wr => ∃ k : Nat, k <= xs.length /\ i = .int .i64 k /\ idxF (fun x => x.2 == l) xs 0 = idxF (fun x => x.2 == l) (xs.drop k) k /\ Below w.heap.size w wr) (fun i _ => xs.length - (intOf i).toNat)
 case atStart => exact ⟨0, Nat.zero_le _, rfl, by simp, Below.refl _ _⟩
 case round =>
  obtain ⟨k, hk, rfl, hr, hb⟩ := hrel
  have HR : Hid (idxF (fun x => x.2 == l) xs 0 = idxF (fun x => x.2 == l) (xs.drop k) k) := hr; clear hr
  by_cases hlt : k < xs.length
  · obtain ⟨b, off, rfl, hbl, c0, c1⟩ := hc.get hb (Below.refl _ _) (Nat.le_refl _) k hlt
    clear hc
    have hl' : wr.cell? ⟨B, 0, none⟩ = some (.int .i64 l) := (hb.cell (p := ⟨B, 0, none⟩) hB).trans hl
    have hsz : w.heap.size <= wr.heap.size := hb.size
    have HS : Hid (idxF (fun x => x.2 == l) (xs.drop k) k = if (xs[k].2 == l) = true then (k : Int) else idxF (fun x => x.2 == l) (xs.drop (k + 1)) (k + 1)) := idxF_step _ xs k hlt
    by_cases h3 : (xs[k].2 == l) = true
    · go_wp2_with (first | (go_at_call 264; refine (has1_any _ _ _ _ (by omega) hl').mono ?_; rintro e w' ⟨rfl, hb2⟩))
      go_ret
      exact ⟨ret_int (by rw [HR.out, HS.out, if_pos h3]), hb.trans (hb2.mono hsz)⟩
    · have h3' : (xs[k].2 == l) = false := by simpa using h3
      go_wp2_with (first | (go_at_call 264; refine (has1_any _ _ _ _ (by omega) hl').mono ?_; rintro e w' ⟨rfl, hb2⟩))
      go_roundw
      case rel => exact ⟨k + 1, by omega, by go_num, by rw [HR.out, HS.out, if_neg h3], hb.trans (hb2.mono hsz)⟩
      case measure => simp [intOf]; omega
  · go_wp2
    go_ret
    exact ⟨ret_int (by rw [HR.out, List.drop_of_length_le (by omega)]; rfl), hb⟩

set_option maxHeartbeats 400000 in
theorem ContainsFunc_has (B : Nat) (l : Int) (p : Option Addr) (cap : Nat) (xs : List (Int × Int)) (w : World) (hm : xs.length <= maxLen) (hc : CatsAt w p xs) (hB : B < w.heap.size) (hl : w.cell? ⟨B, 0, none⟩ = some (.int .i64 l)) :
 Calls Tryz.prog 256 #[.slice p xs.length cap, .func (.func 264) #[] #[.pointer (some ⟨B, 0, none⟩)]] w fun e w' => e = .returned (.bool (xs.any fun x => x.2 == l)) /\ Below w.heap.size w w' := by
 go_enter Tryz.func256, Tryz.ntmps256
 go_wp2_with (first | (go_at_call 280; refine (IndexFunc_has B l p cap xs _ hm hc hB hl).mono ?_; rintro e w' ⟨rfl, hb⟩))
 go_ret
 exact ⟨ret_bool (idxF_any _ xs 0), hb⟩

set_option maxHeartbeats 400000 in
theorem has_any (d l : Int) (p : Option Addr) (cap : Nat) (xs : List (Int × Int)) (w : World) (hm : xs.length <= maxLen) (hc : CatsAt w p xs) :
 Calls Tryz.prog 219 #[.agg #[.int .i64 d, .slice p xs.length cap], .int .i64 l] w fun e w' => e = .returned (.bool (hasS d xs l)) /\ Below w.heap.size w w' := by
 have hc2 : CatsAt ((w.alloc (.cells #[.int .i64 d, .slice p xs.length cap] 46)).alloc (.cells #[.int .i64 l] 3)) p xs := hc.below (((Below.refl _ w).alloc (Nat.le_refl _) _).alloc (by simp) _)
 have hC := ContainsFunc_has (w.heap.size + 1) l p cap xs _ hm hc2 (by simp) (by simp [go_sem])
 clear hc hc2
 by_cases h1 : (d == l) = true
 · go_enter Tryz.func219, Tryz.ntmps219
   go_wp2
   go_ret
   exact ⟨ret_bool (by simp [hasS, h1]), by go_grown⟩
 · have h1' : (d == l) = false := by simpa using h1
   go_enter Tryz.func219, Tryz.ntmps219
   go_wp2_with (first | (go_at_call 256; refine hC.mono ?_; rintro e w' ⟨rfl, hb⟩))
   go_ret
   exact ⟨ret_bool (by simp [hasS, h1']), (((Below.refl _ w).alloc (Nat.le_refl _) _).alloc (by simp) _).trans (hb.mono (by simp; omega))⟩

def plainS (d : Int) (xs : List (Int × Int)) : Bool := rightS d xs && !hasS d xs 5
def freeS (d : Int) (xs : List (Int × Int)) : Bool := plainS d xs && !hasS d xs 0

set_option maxHeartbeats 400000 in
theorem Plain_any (d : Int) (p : Option Addr) (cap : Nat) (xs : List (Int × Int)) (w : World) (hm : xs.length <= maxLen) (hc : CatsAt w p xs) :
 Calls Tryz.prog 171 #[.agg #[.int .i64 d, .slice p xs.length cap]] w fun e w' => e = .returned (.bool (plainS d xs)) /\ Below w.heap.size w w' := by
 have hW1 : Below w.heap.size w (w.alloc (.cells #[.int .i64 d, .slice p xs.length cap] 46)) := (Below.refl _ _).alloc (Nat.le_refl _) _
 have hR := Right_any d p cap xs _ hm (hc.below hW1)
 by_cases h1 : rightS d xs = true
 · go_enter Tryz.func171, Tryz.ntmps171
   go_wp2_with (first | (go_at_call 117; refine hR.mono ?_; rintro e w1 ⟨rfl, hb⟩; have b0 : w1.cell? ⟨w.heap.size, 0, none⟩ = some (.int .i64 d) := (hb.cell (p := ⟨w.heap.size, 0, none⟩) (by simp)).trans (by simp [go_sem]); have b1 : w1.cell? ⟨w.heap.size, 1, none⟩ = some (.slice p xs.length cap) := (hb.cell (p := ⟨w.heap.size, 1, none⟩) (by simp)).trans (by simp [go_sem]); have hB := hW1.trans (hb.mono (by simp)); have hH := has_any d 5 p cap xs _ hm (hc.below hB)) | (go_at_call 219; refine hH.mono ?_; rintro e w2 ⟨rfl, hb2⟩))
   go_ret
   exact ⟨ret_bool (by simp [plainS, h1]), hB.trans (hb2.mono hB.size)⟩
 · have h1' : rightS d xs = false := by simpa using h1
   go_enter Tryz.func171, Tryz.ntmps171
   go_wp2_with (first | (go_at_call 117; refine hR.mono ?_; rintro e w1 ⟨rfl, hb⟩))
   go_ret
   exact ⟨ret_bool (by simp [plainS, h1']), hW1.trans (hb.mono (by simp))⟩

set_option maxHeartbeats 400000 in
theorem Free_any (d : Int) (p : Option Addr) (cap : Nat) (xs : List (Int × Int)) (w : World) (hm : xs.length <= maxLen) (hc : CatsAt w p xs) :
 Calls Tryz.prog 174 #[.agg #[.int .i64 d, .slice p xs.length cap]] w fun e w' => e = .returned (.bool (freeS d xs)) /\ Below w.heap.size w w' := by
 have hW1 : Below w.heap.size w (w.alloc (.cells #[.int .i64 d, .slice p xs.length cap] 46)) := (Below.refl _ _).alloc (Nat.le_refl _) _
 have hR := Plain_any d p cap xs _ hm (hc.below hW1)
 by_cases h1 : plainS d xs = true
 · go_enter Tryz.func174, Tryz.ntmps174
   go_wp2_with (first | (go_at_call 171; refine hR.mono ?_; rintro e w1 ⟨rfl, hb⟩; have b0 : w1.cell? ⟨w.heap.size, 0, none⟩ = some (.int .i64 d) := (hb.cell (p := ⟨w.heap.size, 0, none⟩) (by simp)).trans (by simp [go_sem]); have b1 : w1.cell? ⟨w.heap.size, 1, none⟩ = some (.slice p xs.length cap) := (hb.cell (p := ⟨w.heap.size, 1, none⟩) (by simp)).trans (by simp [go_sem]); have hB := hW1.trans (hb.mono (by simp)); have hH := has_any d 0 p cap xs _ hm (hc.below hB)) | (go_at_call 219; refine hH.mono ?_; rintro e w2 ⟨rfl, hb2⟩))
   go_ret
   exact ⟨ret_bool (by simp [freeS, h1]), hB.trans (hb2.mono hB.size)⟩
 · have h1' : plainS d xs = false := by simpa using h1
   go_enter Tryz.func174, Tryz.ntmps174
   go_wp2_with (first | (go_at_call 171; refine hR.mono ?_; rintro e w1 ⟨rfl, hb⟩))
   go_ret
   exact ⟨ret_bool (by simp [freeS, h1']), hW1.trans (hb.mono (by simp))⟩


def leastS : List (Int × Int) -> List (Int × Int) -> Int
 | [], [] => 0
 | [], y :: _ => y.1
 | x :: _, [] => x.1
 | x :: _, y :: _ => min x.1 y.1
def tkL (d c : Int) : List (Int × Int) -> Int
 | [] => d
 | x :: _ => if (x.1 == c) = true then x.2 else d
def tkR (c : Int) : List (Int × Int) -> List (Int × Int)
 | [] => []
 | x :: xs => if (x.1 == c) = true then xs else x :: xs

theorem CatsAt.head {w : World} {p : Option Addr} {x : Int × Int} {xs : List (Int × Int)} (h : CatsAt w p (x :: xs)) :
 ∃ b off, p = some ⟨b, off, none⟩ /\ b < w.heap.size /\ w.cell? ⟨b, off, none⟩ = some (.int .i64 x.1) /\ w.cell? ⟨b, off + 1, none⟩ = some (.int .i64 x.2) := by
 obtain ⟨b, off, hp, hb, c0, c1⟩ := h 0 (by simp)
 exact ⟨b, off, hp, hb, by simpa using c0, by simpa using c1⟩
def CatsB (B : Nat) (w : World) (p : Option Addr) (xs : List (Int × Int)) : Prop :=
 ∀ j, (h : j < xs.length) -> ∃ b off, p = some ⟨b, off, none⟩ /\ b < B /\ w.cell? ⟨b, off + j * 2, none⟩ = some (.int .i64 xs[j].1) /\ w.cell? ⟨b, off + j * 2 + 1, none⟩ = some (.int .i64 xs[j].2)
theorem CatsB.here {B : Nat} {w : World} {p : Option Addr} {xs : List (Int × Int)} (h : CatsB B w p xs) (hB : B <= w.heap.size) : CatsAt w p xs := fun j hj => by
 obtain ⟨b, off, hp, hb, c⟩ := h j hj
 exact ⟨b, off, hp, by omega, c⟩
theorem CatsAt.under {w : World} {p : Option Addr} {xs : List (Int × Int)} (h : CatsAt w p xs) : CatsB w.heap.size w p xs := h
theorem CatsB.keep {B : Nat} {w w' : World} {p : Option Addr} {xs : List (Int × Int)} (h : CatsB B w p xs) (hb : Below B w w') : CatsB B w' p xs := fun j hj => by
 obtain ⟨b, off, hp, hbl, c0, c1⟩ := h j hj
 exact ⟨b, off, hp, hbl, (hb.cell (p := ⟨b, off + j * 2, none⟩) hbl).trans c0, (hb.cell (p := ⟨b, off + j * 2 + 1, none⟩) hbl).trans c1⟩
theorem CatsB.nil (B : Nat) (w : World) (p : Option Addr) : CatsB B w p [] := fun j hj => by simp at hj
theorem CatsB.tail {B : Nat} {w : World} {b off : Nat} {x : Int × Int} {xs : List (Int × Int)} (h : CatsB B w (some ⟨b, off, none⟩) (x :: xs)) : CatsB B w (some ⟨b, off + 2, none⟩) xs := fun j hj => by
 obtain ⟨b', off', hp, hb, c0, c1⟩ := h (j + 1) (by simpa using hj)
 simp only [Option.some.injEq, Addr.mk.injEq, and_true] at hp
 obtain ⟨rfl, rfl⟩ := hp
 refine ⟨b, off + 2, rfl, hb, ?_, ?_⟩
 · rw [show off + 2 + j * 2 = off + (j + 1) * 2 from by omega]; simpa using c0
 · rw [show off + 2 + j * 2 + 1 = off + (j + 1) * 2 + 1 from by omega]; simpa using c1

set_option maxHeartbeats 400000 in
theorem least_any (p q : Option Addr) (capx capy : Nat) (xs ys : List (Int × Int)) (w : World) (hmx : xs.length <= maxLen) (hmy : ys.length <= maxLen) (hx : CatsAt w p xs) (hy : CatsAt w q ys) (hne : 0 < xs.length + ys.length) :
 Calls Tryz.prog 283 #[.slice p xs.length capx, .slice q ys.length capy] w fun e w' => e = .returned (.int .i64 (leastS xs ys)) /\ ∃ m, w' = w.drewN m := by
 unfold maxLen at hmx hmy
 cases xs with
 | nil =>
  cases ys with
  | nil => simp at hne
  | cons y ys =>
   obtain ⟨b, off, rfl, hb, c0, c1⟩ := hy.head
   clear hy hx
   go_enter Tryz.func283, Tryz.ntmps283
   go_wp2
   go_ret
   exact ⟨rfl, 0, rfl⟩
 | cons x xs =>
  cases ys with
  | nil =>
   obtain ⟨b, off, rfl, hb, c0, c1⟩ := hx.head
   clear hy hx
   have h0 : (((xs.length : Int) + 1) == 0) = false := by simp; omega
   go_enter Tryz.func283, Tryz.ntmps283
   go_wp2
   go_ret
   exact ⟨rfl, 0, rfl⟩
  | cons y ys =>
   obtain ⟨b, off, rfl, hb, c0, c1⟩ := hx.head
   obtain ⟨b2, off2, rfl, hb2, c2, c3⟩ := hy.head
   clear hy hx
   have h0 : (((xs.length : Int) + 1) == 0) = false := by simp; omega
   have h2 : (((ys.length : Int) + 1) == 0) = false := by simp; omega
   go_enter Tryz.func283, Tryz.ntmps283
   go_wp2
   go_region
   all_goals go_wp2
   all_goals go_ret
   all_goals exact ⟨ret_int (by simp only [leastS] <;> omega), 1, rfl⟩

set_option maxHeartbeats 400000 in
theorem take_any (B : Nat) (p : Option Addr) (cap : Nat) (xs : List (Int × Int)) (c d : Int) (w : World) (hm : xs.length <= maxLen) (hcap : xs.length <= cap) (hB : B <= w.heap.size) (hx : CatsB B w p xs) :
 Calls Tryz.prog 284 #[.slice p xs.length cap, .int .i64 c, .int .i64 d] w fun e w' => ∃ p' cap', e = .returned (.tuple #[.int .i64 (tkL d c xs), .slice p' (tkR c xs).length cap']) /\ CatsB B w p' (tkR c xs) /\ (tkR c xs).length <= cap' /\ ∃ m, w' = w.drewN m := by
 unfold maxLen at hm
 cases xs with
 | nil =>
  go_enter Tryz.func284, Tryz.ntmps284
  go_wp2
  go_ret2
  exact ⟨p, cap, rfl, hx, hcap, 0, rfl⟩
 | cons x xs =>
  have hx' := hx
  obtain ⟨b, off, rfl, hb, c0, c1⟩ := (hx.here hB).head
  have ht := hx.tail
  have h0 : (((xs.length : Int) + 1) == 0) = false := by simp; omega
  have hcp : xs.length + 1 <= cap := by simpa using hcap
  by_cases h : (x.1 == c) = true
  · have HL : Hid (tkL d c (x :: xs) = x.2) := by simp [Hid, tkL, h]
    have HR : Hid (tkR c (x :: xs) = xs) := by simp [Hid, tkR, h]
    have HT : Hid (CatsB B w (some ⟨b, off + 2, none⟩) xs) := ht
    clear hx ht hx' hcap
    go_enter Tryz.func284, Tryz.ntmps284
    go_wp2
    go_quiet (fail)
    go_wp2
    · rename_i hc1
      go_ret2
      have hxs : xs.length <= 0 := by omega
      exact ⟨some ⟨b, off, none⟩, 0, by rw [HL.out, HR.out]; rfl, by rw [HR.out]; intro j hj; omega, by rw [HR.out]; exact hxs, nq, rfl⟩
    · go_ret2
      exact ⟨some ⟨b, off + 2, none⟩, cap - 1, by rw [HL.out, HR.out]; rfl, by rw [HR.out]; exact HT.out, by rw [HR.out]; omega, nq, rfl⟩
  · have h' : (x.1 == c) = false := by simpa using h
    have HL : Hid (tkL d c (x :: xs) = d) := by simp [Hid, tkL, h']
    have HR : Hid (tkR c (x :: xs) = x :: xs) := by simp [Hid, tkR, h']
    have HC : Hid (CatsB B w (some ⟨b, off, none⟩) (x :: xs)) := hx'
    clear hx ht hx'
    go_enter Tryz.func284, Tryz.ntmps284
    go_wp2
    go_ret2
    exact ⟨_, _, by rw [HL.out, HR.out]; rfl, by rw [HR.out]; exact HC.out, by rw [HR.out]; simpa using hcp, 0, rfl⟩
end Go.Proofs.YtmgfakfiiaeofaaGreat.Pa
