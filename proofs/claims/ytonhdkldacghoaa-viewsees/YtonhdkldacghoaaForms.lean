/- What At, Has and their kin answer, for every label. -/
import Derived.Test.YtonhdkldacghoaaRight
namespace Go.Proofs.Ytonhdkldacghoaa
open Go.RowKit Go.Sort

theorem ret_int {a b : Int} (h : a = b) : Ending.returned (.int .i64 a) = .returned (.int .i64 b) := by rw [h]
def atS (d : Int) : List (Int × Int) → Int → Int
  | [], _ => d
  | x :: xs, c => if (x.1 == c) = true then x.2 else atS d xs c
theorem atS_step (d c : Int) (xs : List (Int × Int)) (k : Nat) (h : k < xs.length) :
    atS d (xs.drop k) c = if (xs[k].1 == c) = true then xs[k].2 else atS d (xs.drop (k + 1)) c := by
  rw [List.drop_eq_getElem_cons h]; rfl
def hasS (d : Int) (xs : List (Int × Int)) (l : Int) : Bool := xs.any (fun x => x.2 == l) || (d == l)
theorem hasS_step (d l : Int) (xs : List (Int × Int)) (k : Nat) (h : k < xs.length) :
    hasS d (xs.drop k) l = ((xs[k].2 == l) || hasS d (xs.drop (k + 1)) l) := by
  unfold hasS; rw [List.drop_eq_getElem_cons h, List.any_cons, Bool.or_assoc]
def idxF (p : Int × Int → Bool) : List (Int × Int) → Nat → Int
  | [], _ => -1
  | x :: xs, k => if p x = true then (k : Int) else idxF p xs (k + 1)
theorem idxF_step (p : Int × Int → Bool) (xs : List (Int × Int)) (k : Nat) (h : k < xs.length) :
    idxF p (xs.drop k) k = if p xs[k] = true then (k : Int) else idxF p (xs.drop (k + 1)) (k + 1) := by
  rw [List.drop_eq_getElem_cons h]; rfl
theorem idxF_any (p : Int × Int → Bool) (xs : List (Int × Int)) (k : Nat) : decide (0 ≤ idxF p xs k) = xs.any p := by
  induction xs generalizing k with
  | nil => simp [idxF]
  | cons x xs ih =>
    by_cases h : p x = true
    · simp [idxF, h]
    · simp [idxF, h, ih (k + 1)]
theorem CatsAt.below {w w' : World} {p : Option Addr} {xs : List (Int × Int)} (h : CatsAt w p xs) (hb : Below w.heap.size w w') : CatsAt w' p xs := fun j hj => by
  obtain ⟨b, off, hp, hbl, c0, c1⟩ := h j hj
  exact ⟨b, off, hp, Nat.lt_of_lt_of_le hbl hb.size, (hb.cell (p := ⟨b, off + j * 2, none⟩) hbl).trans c0, (hb.cell (p := ⟨b, off + j * 2 + 1, none⟩) hbl).trans c1⟩

set_option maxHeartbeats 400000 in
theorem At_any (d c : Int) (p : Option Addr) (cap : Nat) (xs : List (Int × Int)) (w : World) (hm : xs.length ≤ maxLen) (hc : CatsAt w p xs) :
    Calls Try.prog 50 #[.agg #[.int .i64 d, .slice p xs.length cap], .int .i64 c] w fun e w' => e = .returned (.int .i64 (atS d xs c)) ∧ Below w.heap.size w w' := by
  unfold maxLen at hm
  have hW1 : Below w.heap.size w (w.alloc (.cells #[.int .i64 d, .slice p xs.length cap] 25)) := (Below.refl _ _).alloc (Nat.le_refl _) _
  go_enter Try.func50, Try.ntmps50
  go_wp2
  go_loopw [10] (fun i wr => ∃ k : Nat, k ≤ xs.length ∧ i = .int .i64 k ∧ atS d xs c = atS d (xs.drop k) c ∧ Below (w.heap.size + 1) (w.alloc (.cells #[.int .i64 d, .slice p xs.length cap] 25)) wr) (fun i _ => xs.length - (intOf i).toNat)
  case atStart => exact ⟨0, Nat.zero_le _, rfl, by simp, Below.refl _ _⟩
  case round =>
    obtain ⟨k, hk, rfl, hr, hb⟩ := hrel
    have HR : Hid (atS d xs c = atS d (xs.drop k) c) := hr; clear hr
    have b0 : wr.cell? ⟨w.heap.size, 0, none⟩ = some (.int .i64 d) := (hb.cell (p := ⟨w.heap.size, 0, none⟩) (by simp)).trans (by simp [go_sem])
    have hB : Below w.heap.size w wr := hW1.trans (hb.mono (by omega))
    have hsz : w.heap.size ≤ wr.heap.size := hB.size
    by_cases hlt : k < xs.length
    · obtain ⟨b, off, rfl, hbl, c0, c1⟩ := hc.get hb hW1 (by omega) k hlt
      clear hc
      have hz : w.heap.size < wr.heap.size := by have := hb.size; simp at this; omega
      have HS : Hid (atS d (xs.drop k) c = if (xs[k].1 == c) = true then xs[k].2 else atS d (xs.drop (k + 1)) c) := atS_step d c xs k hlt
      by_cases h3 : (xs[k].1 == c) = true
      · go_wp2
        go_ret
        exact ⟨ret_int (by rw [HR.out, HS.out, if_pos h3]), by go_grown⟩
      · have h3' : (xs[k].1 == c) = false := by simpa using h3
        go_wp2
        go_roundw
        case rel => exact ⟨k + 1, by omega, by go_num, by rw [HR.out, HS.out, if_neg h3], by go_grown⟩
        case measure => simp [intOf]; omega
    · go_wp2
      go_ret
      exact ⟨ret_int (by rw [HR.out, List.drop_of_length_le (by omega)]; rfl), hB⟩

set_option maxHeartbeats 400000 in
theorem refAt_any (d c : Int) (p : Option Addr) (cap : Nat) (xs : List (Int × Int)) (w : World) (hm : xs.length ≤ maxLen) (hc : CatsAt w p xs) :
    Calls Try.prog 37 #[.agg #[.int .i64 d, .slice p xs.length cap], .int .i64 c] w fun e w' => e = .returned (.int .i64 (atS d xs c)) ∧ Below w.heap.size w w' := by
  unfold maxLen at hm
  have hW1 : Below w.heap.size w (w.alloc (.cells #[.int .i64 d, .slice p xs.length cap] 25)) := (Below.refl _ _).alloc (Nat.le_refl _) _
  go_enter Try.func37, Try.ntmps37
  go_wp2
  go_loopw [10] (fun i wr => ∃ k : Nat, k ≤ xs.length ∧ i = .int .i64 k ∧ atS d xs c = atS d (xs.drop k) c ∧ Below (w.heap.size + 1) (w.alloc (.cells #[.int .i64 d, .slice p xs.length cap] 25)) wr) (fun i _ => xs.length - (intOf i).toNat)
  case atStart => exact ⟨0, Nat.zero_le _, rfl, by simp, Below.refl _ _⟩
  case round =>
    obtain ⟨k, hk, rfl, hr, hb⟩ := hrel
    have HR : Hid (atS d xs c = atS d (xs.drop k) c) := hr; clear hr
    have b0 : wr.cell? ⟨w.heap.size, 0, none⟩ = some (.int .i64 d) := (hb.cell (p := ⟨w.heap.size, 0, none⟩) (by simp)).trans (by simp [go_sem])
    have hB : Below w.heap.size w wr := hW1.trans (hb.mono (by omega))
    have hsz : w.heap.size ≤ wr.heap.size := hB.size
    by_cases hlt : k < xs.length
    · obtain ⟨b, off, rfl, hbl, c0, c1⟩ := hc.get hb hW1 (by omega) k hlt
      clear hc
      have hz : w.heap.size < wr.heap.size := by have := hb.size; simp at this; omega
      have HS : Hid (atS d (xs.drop k) c = if (xs[k].1 == c) = true then xs[k].2 else atS d (xs.drop (k + 1)) c) := atS_step d c xs k hlt
      by_cases h3 : (xs[k].1 == c) = true
      · go_wp2
        go_ret
        exact ⟨ret_int (by rw [HR.out, HS.out, if_pos h3]), by go_grown⟩
      · have h3' : (xs[k].1 == c) = false := by simpa using h3
        go_wp2
        go_roundw
        case rel => exact ⟨k + 1, by omega, by go_num, by rw [HR.out, HS.out, if_neg h3], by go_grown⟩
        case measure => simp [intOf]; omega
    · go_wp2
      go_ret
      exact ⟨ret_int (by rw [HR.out, List.drop_of_length_le (by omega)]; rfl), hB⟩

set_option maxHeartbeats 400000 in
theorem refHas_any (d l : Int) (p : Option Addr) (cap : Nat) (xs : List (Int × Int)) (w : World) (hm : xs.length ≤ maxLen) (hc : CatsAt w p xs) :
    Calls Try.prog 31 #[.agg #[.int .i64 d, .slice p xs.length cap], .int .i64 l] w fun e w' => e = .returned (.bool (hasS d xs l)) ∧ Below w.heap.size w w' := by
  unfold maxLen at hm
  have hW1 : Below w.heap.size w (w.alloc (.cells #[.int .i64 d, .slice p xs.length cap] 25)) := (Below.refl _ _).alloc (Nat.le_refl _) _
  go_enter Try.func31, Try.ntmps31
  go_wp2
  go_loopw [10] (fun i wr => ∃ k : Nat, k ≤ xs.length ∧ i = .int .i64 k ∧ hasS d xs l = hasS d (xs.drop k) l ∧ Below (w.heap.size + 1) (w.alloc (.cells #[.int .i64 d, .slice p xs.length cap] 25)) wr) (fun i _ => xs.length - (intOf i).toNat)
  case atStart => exact ⟨0, Nat.zero_le _, rfl, by simp, Below.refl _ _⟩
  case round =>
    obtain ⟨k, hk, rfl, hr, hb⟩ := hrel
    have HR : Hid (hasS d xs l = hasS d (xs.drop k) l) := hr; clear hr
    have b0 : wr.cell? ⟨w.heap.size, 0, none⟩ = some (.int .i64 d) := (hb.cell (p := ⟨w.heap.size, 0, none⟩) (by simp)).trans (by simp [go_sem])
    have hB : Below w.heap.size w wr := hW1.trans (hb.mono (by omega))
    have hsz : w.heap.size ≤ wr.heap.size := hB.size
    by_cases hlt : k < xs.length
    · obtain ⟨b, off, rfl, hbl, c0, c1⟩ := hc.get hb hW1 (by omega) k hlt
      clear hc
      have hz : w.heap.size < wr.heap.size := by have := hb.size; simp at this; omega
      have HS : Hid (hasS d (xs.drop k) l = ((xs[k].2 == l) || hasS d (xs.drop (k + 1)) l)) := hasS_step d l xs k hlt
      by_cases h3 : (xs[k].2 == l) = true
      · go_wp2
        go_ret
        exact ⟨ret_bool (by rw [HR.out, HS.out, h3]; rfl), by go_grown⟩
      · have h3' : (xs[k].2 == l) = false := by simpa using h3
        go_wp2
        go_roundw
        case rel => exact ⟨k + 1, by omega, by go_num, by rw [HR.out, HS.out, h3']; rfl, by go_grown⟩
        case measure => simp [intOf]; omega
    · go_wp2
      go_ret
      exact ⟨ret_bool (by rw [HR.out, List.drop_of_length_le (by omega)]; simp [hasS]), hB⟩

/-- has's literal: 'e.Level == level'. -/
theorem has1_any (x : Int × Int) (B : Nat) (l : Int) (w : World) (hB : B < w.heap.size) (hl : w.cell? ⟨B, 0, none⟩ = some (.int .i64 l)) :
    Calls Try.prog 77 #[.agg #[.int .i64 x.1, .int .i64 x.2], .pointer (some ⟨B, 0, none⟩)] w fun e w' => e = .returned (.bool (x.2 == l)) ∧ Below w.heap.size w w' := by
  go_enter Try.func77, Try.ntmps77
  go_wp2
  go_ret
  exact ⟨rfl, by go_grown⟩

set_option maxHeartbeats 400000 in
theorem IndexFunc_has (B : Nat) (l : Int) (p : Option Addr) (cap : Nat) (xs : List (Int × Int)) (w : World) (hm : xs.length ≤ maxLen) (hc : CatsAt w p xs) (hB : B < w.heap.size) (hl : w.cell? ⟨B, 0, none⟩ = some (.int .i64 l)) :
    Calls Try.prog 85 #[.slice p xs.length cap, .func (.func 77) #[] #[.pointer (some ⟨B, 0, none⟩)]] w fun e w' => e = .returned (.int .i64 (idxF (fun x => x.2 == l) xs 0)) ∧ Below w.heap.size w w' := by
  unfold maxLen at hm
  go_enter Try.func85, Try.ntmps85
  go_wp2
  go_loopw [8] (fun i wr => ∃ k : Nat, k ≤ xs.length ∧ i = .int .i64 k ∧ idxF (fun x => x.2 == l) xs 0 = idxF (fun x => x.2 == l) (xs.drop k) k ∧ Below w.heap.size w wr) (fun i _ => xs.length - (intOf i).toNat)
  case atStart => exact ⟨0, Nat.zero_le _, rfl, by simp, Below.refl _ _⟩
  case round =>
    obtain ⟨k, hk, rfl, hr, hb⟩ := hrel
    have HR : Hid (idxF (fun x => x.2 == l) xs 0 = idxF (fun x => x.2 == l) (xs.drop k) k) := hr; clear hr
    by_cases hlt : k < xs.length
    · obtain ⟨b, off, rfl, hbl, c0, c1⟩ := hc.get hb (Below.refl _ _) (Nat.le_refl _) k hlt
      clear hc
      have hl' : wr.cell? ⟨B, 0, none⟩ = some (.int .i64 l) := (hb.cell (p := ⟨B, 0, none⟩) hB).trans hl
      have hsz : w.heap.size ≤ wr.heap.size := hb.size
      have HS : Hid (idxF (fun x => x.2 == l) (xs.drop k) k = if (xs[k].2 == l) = true then (k : Int) else idxF (fun x => x.2 == l) (xs.drop (k + 1)) (k + 1)) := idxF_step _ xs k hlt
      by_cases h3 : (xs[k].2 == l) = true
      · go_wp2_with (first | (go_at_call 77; refine (has1_any _ _ _ _ (by omega) hl').mono ?_; rintro e w' ⟨rfl, hb2⟩))
        go_ret
        exact ⟨ret_int (by rw [HR.out, HS.out, if_pos h3]), hb.trans (hb2.mono hsz)⟩
      · have h3' : (xs[k].2 == l) = false := by simpa using h3
        go_wp2_with (first | (go_at_call 77; refine (has1_any _ _ _ _ (by omega) hl').mono ?_; rintro e w' ⟨rfl, hb2⟩))
        go_roundw
        case rel => exact ⟨k + 1, by omega, by go_num, by rw [HR.out, HS.out, if_neg h3], hb.trans (hb2.mono hsz)⟩
        case measure => simp [intOf]; omega
    · go_wp2
      go_ret
      exact ⟨ret_int (by rw [HR.out, List.drop_of_length_le (by omega)]; rfl), hb⟩

set_option maxHeartbeats 400000 in
theorem ContainsFunc_has (B : Nat) (l : Int) (p : Option Addr) (cap : Nat) (xs : List (Int × Int)) (w : World) (hm : xs.length ≤ maxLen) (hc : CatsAt w p xs) (hB : B < w.heap.size) (hl : w.cell? ⟨B, 0, none⟩ = some (.int .i64 l)) :
    Calls Try.prog 76 #[.slice p xs.length cap, .func (.func 77) #[] #[.pointer (some ⟨B, 0, none⟩)]] w fun e w' => e = .returned (.bool (xs.any fun x => x.2 == l)) ∧ Below w.heap.size w w' := by
  go_enter Try.func76, Try.ntmps76
  go_wp2_with (first | (go_at_call 85; refine (IndexFunc_has B l p cap xs _ hm hc hB hl).mono ?_; rintro e w' ⟨rfl, hb⟩))
  go_ret
  exact ⟨ret_bool (idxF_any _ xs 0), hb⟩

set_option maxHeartbeats 400000 in
theorem has_any (d l : Int) (p : Option Addr) (cap : Nat) (xs : List (Int × Int)) (w : World) (hm : xs.length ≤ maxLen) (hc : CatsAt w p xs) :
    Calls Try.prog 63 #[.agg #[.int .i64 d, .slice p xs.length cap], .int .i64 l] w fun e w' => e = .returned (.bool (hasS d xs l)) ∧ Below w.heap.size w w' := by
  have hc2 : CatsAt ((w.alloc (.cells #[.int .i64 d, .slice p xs.length cap] 25)).alloc (.cells #[.int .i64 l] 3)) p xs := hc.below (((Below.refl _ w).alloc (Nat.le_refl _) _).alloc (by simp) _)
  have hC := ContainsFunc_has (w.heap.size + 1) l p cap xs _ hm hc2 (by simp) (by simp [go_sem])
  clear hc hc2
  by_cases h1 : (d == l) = true
  · go_enter Try.func63, Try.ntmps63
    go_wp2
    go_ret
    exact ⟨ret_bool (by simp [hasS, h1]), by go_grown⟩
  · have h1' : (d == l) = false := by simpa using h1
    go_enter Try.func63, Try.ntmps63
    go_wp2_with (first | (go_at_call 76; refine hC.mono ?_; rintro e w' ⟨rfl, hb⟩))
    go_ret
    exact ⟨ret_bool (by simp [hasS, h1']), (((Below.refl _ w).alloc (Nat.le_refl _) _).alloc (by simp) _).trans (hb.mono (by simp; omega))⟩

def plainS (d : Int) (xs : List (Int × Int)) : Bool := rightS d xs && !hasS d xs 5
def freeS (d : Int) (xs : List (Int × Int)) : Bool := plainS d xs && !hasS d xs 0

set_option maxHeartbeats 400000 in
theorem Plain_any (d : Int) (p : Option Addr) (cap : Nat) (xs : List (Int × Int)) (w : World) (hm : xs.length ≤ maxLen) (hc : CatsAt w p xs) :
    Calls Try.prog 48 #[.agg #[.int .i64 d, .slice p xs.length cap]] w fun e w' => e = .returned (.bool (plainS d xs)) ∧ Below w.heap.size w w' := by
  have hW1 : Below w.heap.size w (w.alloc (.cells #[.int .i64 d, .slice p xs.length cap] 25)) := (Below.refl _ _).alloc (Nat.le_refl _) _
  have hR := Right_any d p cap xs _ hm (hc.below hW1)
  by_cases h1 : rightS d xs = true
  · go_enter Try.func48, Try.ntmps48
    go_wp2_with (first | (go_at_call 64; refine hR.mono ?_; rintro e w1 ⟨rfl, hb⟩; have b0 : w1.cell? ⟨w.heap.size, 0, none⟩ = some (.int .i64 d) := (hb.cell (p := ⟨w.heap.size, 0, none⟩) (by simp)).trans (by simp [go_sem]); have b1 : w1.cell? ⟨w.heap.size, 1, none⟩ = some (.slice p xs.length cap) := (hb.cell (p := ⟨w.heap.size, 1, none⟩) (by simp)).trans (by simp [go_sem]); have hB := hW1.trans (hb.mono (by simp)); have hH := has_any d 5 p cap xs _ hm (hc.below hB)) | (go_at_call 63; refine hH.mono ?_; rintro e w2 ⟨rfl, hb2⟩))
    go_ret
    exact ⟨ret_bool (by simp [plainS, h1]), hB.trans (hb2.mono hB.size)⟩
  · have h1' : rightS d xs = false := by simpa using h1
    go_enter Try.func48, Try.ntmps48
    go_wp2_with (first | (go_at_call 64; refine hR.mono ?_; rintro e w1 ⟨rfl, hb⟩))
    go_ret
    exact ⟨ret_bool (by simp [plainS, h1']), hW1.trans (hb.mono (by simp))⟩

set_option maxHeartbeats 400000 in
theorem refPlain_any (d : Int) (p : Option Addr) (cap : Nat) (xs : List (Int × Int)) (w : World) (hm : xs.length ≤ maxLen) (hc : CatsAt w p xs) :
    Calls Try.prog 15 #[.agg #[.int .i64 d, .slice p xs.length cap]] w fun e w' => e = .returned (.bool (plainS d xs)) ∧ Below w.heap.size w w' := by
  have hW1 : Below w.heap.size w (w.alloc (.cells #[.int .i64 d, .slice p xs.length cap] 25)) := (Below.refl _ _).alloc (Nat.le_refl _) _
  have hR := refRight_any d p cap xs _ hm (hc.below hW1)
  by_cases h1 : rightS d xs = true
  · go_enter Try.func15, Try.ntmps15
    go_wp2_with (first | (go_at_call 32; refine hR.mono ?_; rintro e w1 ⟨rfl, hb⟩; have b0 : w1.cell? ⟨w.heap.size, 0, none⟩ = some (.int .i64 d) := (hb.cell (p := ⟨w.heap.size, 0, none⟩) (by simp)).trans (by simp [go_sem]); have b1 : w1.cell? ⟨w.heap.size, 1, none⟩ = some (.slice p xs.length cap) := (hb.cell (p := ⟨w.heap.size, 1, none⟩) (by simp)).trans (by simp [go_sem]); have hB := hW1.trans (hb.mono (by simp)); have hH := refHas_any d 5 p cap xs _ hm (hc.below hB)) | (go_at_call 31; refine hH.mono ?_; rintro e w2 ⟨rfl, hb2⟩))
    go_ret
    exact ⟨ret_bool (by simp [plainS, h1]), hB.trans (hb2.mono hB.size)⟩
  · have h1' : rightS d xs = false := by simpa using h1
    go_enter Try.func15, Try.ntmps15
    go_wp2_with (first | (go_at_call 32; refine hR.mono ?_; rintro e w1 ⟨rfl, hb⟩))
    go_ret
    exact ⟨ret_bool (by simp [plainS, h1']), hW1.trans (hb.mono (by simp))⟩

set_option maxHeartbeats 400000 in
theorem Free_any (d : Int) (p : Option Addr) (cap : Nat) (xs : List (Int × Int)) (w : World) (hm : xs.length ≤ maxLen) (hc : CatsAt w p xs) :
    Calls Try.prog 47 #[.agg #[.int .i64 d, .slice p xs.length cap]] w fun e w' => e = .returned (.bool (freeS d xs)) ∧ Below w.heap.size w w' := by
  have hW1 : Below w.heap.size w (w.alloc (.cells #[.int .i64 d, .slice p xs.length cap] 25)) := (Below.refl _ _).alloc (Nat.le_refl _) _
  have hR := Plain_any d p cap xs _ hm (hc.below hW1)
  by_cases h1 : plainS d xs = true
  · go_enter Try.func47, Try.ntmps47
    go_wp2_with (first | (go_at_call 48; refine hR.mono ?_; rintro e w1 ⟨rfl, hb⟩; have b0 : w1.cell? ⟨w.heap.size, 0, none⟩ = some (.int .i64 d) := (hb.cell (p := ⟨w.heap.size, 0, none⟩) (by simp)).trans (by simp [go_sem]); have b1 : w1.cell? ⟨w.heap.size, 1, none⟩ = some (.slice p xs.length cap) := (hb.cell (p := ⟨w.heap.size, 1, none⟩) (by simp)).trans (by simp [go_sem]); have hB := hW1.trans (hb.mono (by simp)); have hH := has_any d 0 p cap xs _ hm (hc.below hB)) | (go_at_call 63; refine hH.mono ?_; rintro e w2 ⟨rfl, hb2⟩))
    go_ret
    exact ⟨ret_bool (by simp [freeS, h1]), hB.trans (hb2.mono hB.size)⟩
  · have h1' : plainS d xs = false := by simpa using h1
    go_enter Try.func47, Try.ntmps47
    go_wp2_with (first | (go_at_call 48; refine hR.mono ?_; rintro e w1 ⟨rfl, hb⟩))
    go_ret
    exact ⟨ret_bool (by simp [freeS, h1']), hW1.trans (hb.mono (by simp))⟩

set_option maxHeartbeats 400000 in
theorem refFree_any (d : Int) (p : Option Addr) (cap : Nat) (xs : List (Int × Int)) (w : World) (hm : xs.length ≤ maxLen) (hc : CatsAt w p xs) :
    Calls Try.prog 14 #[.agg #[.int .i64 d, .slice p xs.length cap]] w fun e w' => e = .returned (.bool (freeS d xs)) ∧ Below w.heap.size w w' := by
  have hW1 : Below w.heap.size w (w.alloc (.cells #[.int .i64 d, .slice p xs.length cap] 25)) := (Below.refl _ _).alloc (Nat.le_refl _) _
  have hR := refPlain_any d p cap xs _ hm (hc.below hW1)
  by_cases h1 : plainS d xs = true
  · go_enter Try.func14, Try.ntmps14
    go_wp2_with (first | (go_at_call 15; refine hR.mono ?_; rintro e w1 ⟨rfl, hb⟩; have b0 : w1.cell? ⟨w.heap.size, 0, none⟩ = some (.int .i64 d) := (hb.cell (p := ⟨w.heap.size, 0, none⟩) (by simp)).trans (by simp [go_sem]); have b1 : w1.cell? ⟨w.heap.size, 1, none⟩ = some (.slice p xs.length cap) := (hb.cell (p := ⟨w.heap.size, 1, none⟩) (by simp)).trans (by simp [go_sem]); have hB := hW1.trans (hb.mono (by simp)); have hH := refHas_any d 0 p cap xs _ hm (hc.below hB)) | (go_at_call 31; refine hH.mono ?_; rintro e w2 ⟨rfl, hb2⟩))
    go_ret
    exact ⟨ret_bool (by simp [freeS, h1]), hB.trans (hb2.mono hB.size)⟩
  · have h1' : plainS d xs = false := by simpa using h1
    go_enter Try.func14, Try.ntmps14
    go_wp2_with (first | (go_at_call 15; refine hR.mono ?_; rintro e w1 ⟨rfl, hb⟩))
    go_ret
    exact ⟨ret_bool (by simp [freeS, h1']), hW1.trans (hb.mono (by simp))⟩

end Go.Proofs.Ytonhdkldacghoaa
