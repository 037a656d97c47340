/- Bytes written over others, and what that is page by page. -/
import Derived.Test.YtblhikmhmnkclaaPieces
import Derived.Test.YtblhikmhmnkclaaOpen
import Derived.Lib.BufferWrite
namespace Go.Proofs.Ytblhikmhmnkclaa
open Go.RowKit
/-- The bytes d, with s from a on. -/
def over (d : List UInt8) (a : Nat) (s : List UInt8) : List UInt8 := (List.range d.length).map fun j => if a ≤ j ∧ j - a < s.length then s.getD (j - a) 0 else d.getD j 0
theorem over_len (d : List UInt8) (a : Nat) (s : List UInt8) : (over d a s).length = d.length := by unfold over; simp
theorem over_get (d : List UInt8) (a : Nat) (s : List UInt8) (j : Nat) (hj : j < d.length) : (over d a s).getD j 0 = if a ≤ j ∧ j - a < s.length then s.getD (j - a) 0 else d.getD j 0 := by
  unfold over; rw [List.getD_eq_getElem?_getD, List.getElem?_map, List.getElem?_range hj]; rfl
theorem over_out (d : List UInt8) (a : Nat) (s : List UInt8) (j : Nat) (hj : d.length ≤ j) : (over d a s).getD j 0 = 0 := by
  rw [List.getD_eq_getElem?_getD, List.getElem?_eq_none (by rw [over_len]; exact hj)]; rfl
theorem ext_getD {l m : List UInt8} (h : l.length = m.length) (hg : ∀ j, j < l.length → l.getD j 0 = m.getD j 0) : l = m := by
  apply List.ext_getElem h
  intro i h1 h2
  have := hg i h1
  rwa [List.getD_eq_getElem?_getD, List.getD_eq_getElem?_getD, List.getElem?_eq_getElem h1, List.getElem?_eq_getElem h2] at this
theorem getD_take (s : List UInt8) (n j : Nat) (h : j < n) : (s.take n).getD j 0 = s.getD j 0 := by
  rw [List.getD_eq_getElem?_getD, List.getD_eq_getElem?_getD, List.getElem?_take_of_lt h]
theorem getD_drop (s : List UInt8) (n j : Nat) : (s.drop n).getD j 0 = s.getD (n + j) 0 := by
  rw [List.getD_eq_getElem?_getD, List.getD_eq_getElem?_getD, List.getElem?_drop]
theorem over_nil (d : List UInt8) (a : Nat) : over d a [] = d := ext_getD (over_len _ _ _) (fun j hj => by rw [over_len] at hj; rw [over_get d a [] j hj, if_neg (by simp)])
/-- Two pieces, one behind the other. -/
theorem over_over (d : List UInt8) (a n : Nat) (s : List UInt8) (hn : n ≤ s.length) : over (over d a (s.take n)) (a + n) (s.drop n) = over d a s := by
  refine ext_getD (by simp [over_len]) (fun j hj => ?_)
  rw [over_len, over_len] at hj
  rw [over_get _ _ _ _ (by rw [over_len]; exact hj), over_get _ _ _ _ hj, over_get _ _ _ _ hj]
  simp only [List.length_take, List.length_drop]
  by_cases h1 : a + n ≤ j ∧ j - (a + n) < s.length - n
  · rw [if_pos h1, if_pos (by omega), getD_drop]; congr 1; omega
  · rw [if_neg h1]
    by_cases h2 : a ≤ j ∧ j - a < min n s.length
    · rw [if_pos h2, if_pos (by omega), getD_take _ _ _ (by omega)]
    · rw [if_neg h2, if_neg (by omega)]
/-- One piece of a writing: what stands then, and what is left. -/
def stepP (e : Nat) (p : List UInt8 × List UInt8) (x : Nat) : List UInt8 × List UInt8 := (over p.1 x (p.2.take (nx e x - x)), p.2.drop (nx e x - x))
def runP (e : Nat) (d s : List UInt8) (pre : List Nat) : List UInt8 × List UInt8 := pre.foldl (stepP e) (d, s)
theorem runP_snoc (e : Nat) (d s : List UInt8) (pre : List Nat) (x : Nat) : runP e d s (pre ++ [x]) = stepP e (runP e d s pre) x := by unfold runP; rw [List.foldl_append]; rfl
theorem fold_len (e : Nat) : ∀ (pre : List Nat) (p : List UInt8 × List UInt8), (pre.foldl (stepP e) p).1.length = p.1.length
  | [], _ => rfl
  | x :: l, p => by rw [List.foldl_cons, fold_len e l]; exact over_len _ _ _
theorem runP_len (e : Nat) (d s : List UInt8) (pre : List Nat) : (runP e d s pre).1.length = d.length := fold_len e pre (d, s)
theorem runP_chn : ∀ (k e f : Nat) (d s : List UInt8), e - f ≤ k → s.length = e - f → (runP e d s (chn k e f)).1 = over d f s
  | 0, e, f, d, s, hk, hs => by
    have : s = [] := List.eq_nil_of_length_eq_zero (by omega)
    subst this; show d = _; rw [over_nil]
  | k + 1, e, f, d, s, hk, hs => by
    unfold chn
    split
    · rename_i h
      have h1 := nx_lt h
      have h2 := nx_le e f
      show (runP e (over d f (s.take (nx e f - f))) (s.drop (nx e f - f)) (chn k e (nx e f))).1 = _
      rw [runP_chn k e (nx e f) _ _ (by omega) (by rw [List.length_drop]; omega)]
      have := over_over d f (nx e f - f) s (by omega)
      rwa [show f + (nx e f - f) = nx e f from by omega] at this
    · have : s = [] := List.eq_nil_of_length_eq_zero (by omega)
      subst this; show d = _; rw [over_nil]
theorem runP_all (a : Nat) (d s : List UInt8) : (runP (a + s.length) d s (allPc a (a + s.length))).1 = over d a s := runP_chn _ _ _ _ _ (by omega) (by omega)
/-- A piece touches its own page alone. -/
theorem pad_over_ne (d t : List UInt8) (x k : Nat) (hx : x % 64 + t.length ≤ 64) (hk : k ≠ x / 64) : pad (over d x t) k = pad d k := by
  unfold pad
  apply List.map_congr_left
  intro j hj
  rw [List.mem_range] at hj
  by_cases h : 64 * k + j < d.length
  · rw [over_get _ _ _ _ h, if_neg (by omega)]
  · rw [over_out _ _ _ _ (by omega), List.getD_eq_getElem?_getD, List.getElem?_eq_none (by omega)]; rfl
theorem pad_over_at (d t : List UInt8) (x : Nat) (hx : x % 64 + t.length ≤ 64) (hd : x + t.length ≤ d.length) : pad (over d x t) (x / 64) = (pad d (x / 64)).take (x % 64) ++ t ++ (pad d (x / 64)).drop (x % 64 + t.length) := by
  refine ext_getD (by simp [pad_len]; omega) (fun j hj => ?_)
  rw [pad_len] at hj
  have hp : ∀ (d : List UInt8) (i j : Nat), j < 64 → (pad d i).getD j 0 = d.getD (64 * i + j) 0 := fun d i j hj => by
    unfold pad; rw [List.getD_eq_getElem?_getD, List.getElem?_map, List.getElem?_range hj]; rfl
  rw [hp _ _ _ hj]
  rw [List.getD_eq_getElem?_getD (l := _ ++ _ ++ _), List.getElem?_append, List.getElem?_append]
  simp only [List.length_append, List.length_take, pad_len]
  by_cases h1 : j < x % 64
  · rw [if_pos (by omega), if_pos (by omega), List.getElem?_take_of_lt h1, ← List.getD_eq_getElem?_getD, hp _ _ _ hj]
    by_cases h : 64 * (x / 64) + j < d.length
    · rw [over_get _ _ _ _ h, if_neg (by omega)]
    · rw [over_out _ _ _ _ (by omega), List.getD_eq_getElem?_getD, List.getElem?_eq_none (by omega)]; rfl
  · by_cases h2 : j < x % 64 + t.length
    · rw [if_pos (by omega), if_neg (by omega), over_get _ _ _ _ (by omega), if_pos (by omega), ← List.getD_eq_getElem?_getD]; congr 1; omega
    · rw [if_neg (by omega), List.getElem?_drop, show x % 64 + t.length + (j - (min (x % 64) 64 + t.length)) = j from by omega, ← List.getD_eq_getElem?_getD, hp _ _ _ hj]
      by_cases h : 64 * (x / 64) + j < d.length
      · rw [over_get _ _ _ _ h, if_neg (by omega)]
      · rw [over_out _ _ _ _ (by omega), List.getD_eq_getElem?_getD, List.getElem?_eq_none (by omega)]; rfl
set_option maxRecDepth 100000 in
theorem slice_page (pb lo hi : Nat) (w : World) (h1 : lo ≤ hi) (h2 : hi ≤ 64) (h3 : lo < 64) : (Instr.sliceAt 96 (.pointer (some ⟨pb, 0, none⟩)) (some (.int .i64 (lo : Int))) (some (.int .i64 (hi : Int))) none).run Try.prog w = .ok (.slice (some ⟨pb, lo, none⟩) (hi - lo) (64 - lo)) w := by
  have ha : Try.prog.arrayLen 96 = 64 := by kernel_rfl
  have he : Try.prog.elem 96 = 5 := by kernel_rfl
  have hz : (Go.sizeOf 5).run Try.prog w = .ok 1 w := by
    obtain ⟨i, hi⟩ := Option.isSome_iff_exists.1 (show (Try.prog.info? 5).isSome = true by kernel_rfl)
    have hs : (Try.prog.info? 5).map (·.size) = some 1 := by kernel_rfl
    rw [hi] at hs
    simp only [Option.map_some, Option.some.injEq] at hs
    simp [Go.sizeOf, typeInfo, hi, hs]
  have := run_sliceAt_array_lh (P := Try.prog) w 96 ⟨pb, 0, none⟩ (by kernel_rfl) .i64 .i64 lo hi (by omega) (by omega) (by rw [ha]; omega)
  rw [this, he, hz]
  simp only [Result.andThen, slicedAt, Int.toNat_natCast, ha, Nat.mul_one]
  rw [if_neg (by omega)]
  congr 3
  unfold Addr.add; split <;> simp_all
end Go.Proofs.Ytblhikmhmnkclaa
