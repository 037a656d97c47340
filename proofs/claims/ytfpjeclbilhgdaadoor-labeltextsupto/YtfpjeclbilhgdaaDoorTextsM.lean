/- A label's text, and what a text says, as plain functions on lists of bytes. -/
import Derived.Test.YtfpjeclbilhgdaaDoorDigM
import Derived.Test.YtfpjeclbilhgdaaDoorWords
namespace Go.Proofs.YtfpjeclbilhgdaaDoor
open Go.RowKit
/-- A category's number of digits, with no nought ahead. -/
def pcF : List UInt8 → Option Int := fun l => l.foldl (fun o b => o.bind fun n => pcStep n b.toNat) (some 0)
theorem pcF_snoc (l : List UInt8) (b : UInt8) : pcF (l ++ [b]) = (pcF l).bind fun n => pcStep n b.toNat := by
  unfold pcF; rw [List.foldl_append]; rfl
theorem pcF_dec (n : Nat) : 1 ≤ n → n ≤ 2305843009213693951 → pcF (Lib.decDigits n) = some (n : Int) := by
  induction n using Nat.strongRecOn with
  | _ n ih =>
    intro h1 h2
    rw [Lib.decDigits]
    split
    · rename_i h
      show pcF ([] ++ [_]) = _
      rw [pcF_snoc]
      show pcStep 0 _ = _
      unfold pcStep
      rw [dig_toNat n h, if_neg (by omega), if_neg (by omega)]
      congr 1; omega
    · rename_i h
      rw [pcF_snoc, ih (n / 10) (by omega) (by omega) (by omega)]
      show pcStep _ _ = _
      unfold pcStep
      rw [dig_toNat (n % 10) (by omega), if_neg (by omega), if_neg (by omega)]
      congr 1; omega
theorem pcF_some : ∀ (m : Nat) (l : List UInt8), l.length = m → ∀ n, pcF l = some n → (n = 0 ∧ l = []) ∨ (1 ≤ n ∧ n ≤ 2305843009213693951 ∧ l = Lib.decDigits n.toNat) := by
  intro m
  induction m with
  | zero =>
    intro l hl n h
    obtain rfl := List.eq_nil_of_length_eq_zero hl
    have : n = 0 := by have : some (0 : Int) = some n := h; cases this; rfl
    exact .inl ⟨this, rfl⟩
  | succ m ih =>
    intro l hl n h
    obtain ⟨a, x, rfl⟩ : ∃ a x, l = a ++ [x] := ⟨_, _, (List.dropLast_concat_getLast (by rintro rfl; simp at hl)).symm⟩
    rw [pcF_snoc] at h
    obtain ⟨k, hk, hs⟩ := Option.bind_eq_some_iff.1 h
    unfold pcStep at hs
    split at hs
    · cases hs
    · rename_i hd
      split at hs
      · cases hs
      · rename_i hq
        cases hs
        have hx : x = UInt8.ofNat (48 + (x.toNat - 48)) := UInt8.toNat_inj.1 (by rw [dig_toNat _ (by omega)]; omega)
        rcases ih a (by simpa using hl) k hk with ⟨rfl, rfl⟩ | ⟨k1, k2, ka⟩
        · refine .inr ⟨by omega, by omega, ?_⟩
          rw [Lib.decDigits, dif_pos (by omega)]
          rw [show (10 * (0 : Int) + ((x.toNat : Int) - 48)).toNat = x.toNat - 48 from by omega]
          rw [← hx]; rfl
        · refine .inr ⟨by omega, by omega, ?_⟩
          rw [Lib.decDigits, dif_neg (by omega), ka]
          rw [show (10 * k + ((x.toNat : Int) - 48)).toNat / 10 = k.toNat from by omega, show (10 * k + ((x.toNat : Int) - 48)).toNat % 10 = x.toNat - 48 from by omega, ← hx]
/-- The level of a sign. -/
def lvL (l : List UInt8) : Option Int := match l with
  | [42] => some 0 | [48] => some 1 | [49] => some 2 | [50] => some 3 | [51] => some 4 | [74] => some 5 | _ => none
def sgL (v : Int) : UInt8 := if v = 0 then 42 else if v = 1 then 48 else if v = 2 then 49 else if v = 3 then 50 else if v = 4 then 51 else 74
theorem lvL_some {l : List UInt8} {v : Int} (h : lvL l = some v) : 0 ≤ v ∧ v ≤ 5 ∧ l = [sgL v] := by
  unfold lvL at h
  split at h <;> first | (cases h; exact ⟨by decide, by decide, rfl⟩) | cases h
theorem lvL_sg (v : Int) (h0 : 0 ≤ v) (h1 : v ≤ 5) : lvL [sgL v] = some v := by
  rcases (show v = 0 ∨ v = 1 ∨ v = 2 ∨ v = 3 ∨ v = 4 ∨ v = 5 by omega) with rfl | rfl | rfl | rfl | rfl | rfl <;> rfl
/-- An entry's word. -/
def enW (x : Int × Int) : List UInt8 := Lib.decDigits x.1.toNat ++ [58, sgL x.2]
def enL (w : List UInt8) : Option (Int × Int) := match pcF (Lib.cut w [58]).1, lvL (Lib.cut w [58]).2.1 with
  | some n, some v => if 0 < n then some (n, v) else none
  | _, _ => none
theorem dec_no (u : Nat) : (58 : UInt8) ∉ Lib.decDigits u ∧ (32 : UInt8) ∉ Lib.decDigits u := by
  constructor
  · intro h; exact absurd (dec_digits u _ h).2 (by decide)
  · intro h; exact absurd (dec_digits u _ h).1 (by decide)
theorem enL_enW (x : Int × Int) (h1 : 1 ≤ x.1) (h2 : x.1 ≤ 2305843009213693951) (h3 : 0 ≤ x.2) (h4 : x.2 ≤ 5) : enL (enW x) = some x := by
  unfold enL enW
  rw [cut_hit _ _ (dec_no _).1]
  simp only
  rw [pcF_dec _ (by omega) (by omega), lvL_sg _ h3 h4]
  simp only
  rw [if_pos (by omega)]
  congr 1
  exact Prod.ext (by show ((x.1.toNat : Nat) : Int) = x.1; omega) rfl
theorem enL_some {w : List UInt8} {x : Int × Int} (h : enL w = some x) : w = enW x ∧ 1 ≤ x.1 ∧ x.1 ≤ 2305843009213693951 ∧ 0 ≤ x.2 ∧ x.2 ≤ 5 := by
  unfold enL at h
  split at h
  · rename_i n v hn hv
    split at h
    · rename_i h0
      cases h
      obtain ⟨l1, l2, l3⟩ := lvL_some hv
      rcases pcF_some _ _ rfl n hn with ⟨e, _⟩ | ⟨k1, k2, k3⟩
      · omega
      · refine ⟨?_, k1, k2, l1, l2⟩
        by_cases hm : (58 : UInt8) ∈ w
        · obtain ⟨a, b, rfl, ha⟩ := List.eq_append_cons_of_mem hm
          rw [cut_hit a b ha] at l3 k3
          simp only at l3 k3
          unfold enW
          rw [k3, l3]
        · rw [cut_miss w hm] at l3
          cases l3
    · cases h
  · cases h
theorem sg_no (v : Int) : sgL v ≠ 32 ∧ sgL v ≠ 125 ∧ sgL v ≠ 123 := by unfold sgL; (repeat' split) <;> decide
theorem enW_no32 (x : Int × Int) : (32 : UInt8) ∉ enW x := by
  unfold enW
  intro h
  rcases List.mem_append.1 h with h | h
  · exact (dec_no _).2 h
  · simp at h; exact (sg_no x.2).1 h.symm
/-- A label's text. -/
def lbT (d : Int) (xs : List (Int × Int)) : List UInt8 := 123 :: (jn32 ([sgL d] :: xs.map enW) ++ [125])
def allE : List (List UInt8) → Option (List (Int × Int))
  | [] => some []
  | w :: ws => match enL w, allE ws with
    | some x, some xs => some (x :: xs)
    | _, _ => none
theorem allE_map : ∀ xs : List (Int × Int), (∀ x ∈ xs, 1 ≤ x.1 ∧ x.1 ≤ 2305843009213693951 ∧ 0 ≤ x.2 ∧ x.2 ≤ 5) → allE (xs.map enW) = some xs
  | [], _ => rfl
  | x :: xs, h => by
    obtain ⟨h1, h2, h3, h4⟩ := h x (by simp)
    rw [List.map_cons, allE, enL_enW x h1 h2 h3 h4, allE_map xs (fun y hy => h y (by simp [hy]))]
theorem allE_some : ∀ {ws : List (List UInt8)} {xs : List (Int × Int)}, allE ws = some xs → ws = xs.map enW
  | [], xs, h => by cases h; rfl
  | w :: ws, xs, h => by
    rw [allE] at h
    split at h
    · rename_i x ys hx hy
      cases h
      rw [List.map_cons, ← (enL_some hx).1, ← allE_some hy]
    · cases h
/-- What a text says, before it is known to be a label that can be. -/
def preL (s : List UInt8) : Option (Int × List (Int × Int)) :=
  if s.head? = some 123 ∧ s.tail.getLast? = some 125 then
    match Lib.splitK [32] 0 (min 18 (s.tail.dropLast.length + 1) - 1) s.tail.dropLast with
    | [] => none
    | w :: ws => match lvL w, allE ws with
      | some d, some xs => some (d, xs)
      | _, _ => none
  else none
theorem preL_some {s : List UInt8} {d : Int} {xs : List (Int × Int)} (h : preL s = some (d, xs)) : s = lbT d xs ∧ xs.length ≤ 17 := by
  unfold preL at h
  split at h
  · rename_i hh
    split at h
    · cases h
    · rename_i w ws hw
      split at h
      · rename_i d' xs' hd hx
        cases h
        have hj := spl_join (min 18 (s.tail.dropLast.length + 1) - 1) s.tail.dropLast
        have hl := spl_len (min 18 (s.tail.dropLast.length + 1) - 1) s.tail.dropLast
        rw [hw] at hj hl
        rw [(lvL_some hd).2.2, allE_some hx] at hj
        rw [allE_some hx] at hl
        refine ⟨?_, by simp at hl; omega⟩
        unfold lbT
        rw [hj]
        obtain ⟨e1, e2⟩ := hh
        have hne : s.tail ≠ [] := fun e => by rw [e] at e2; cases e2
        have e3 : s.tail.dropLast ++ [125] = s.tail := by
          have := List.dropLast_concat_getLast hne
          rw [List.getLast?_eq_some_getLast hne] at e2
          rw [← Option.some.inj e2]; exact this
        rw [e3]
        cases s with
        | nil => cases e1
        | cons y t => simp at e1; rw [e1]; rfl
      · cases h
  · cases h
theorem preL_text (d : Int) (xs : List (Int × Int)) (hd : 0 ≤ d ∧ d ≤ 5) (hl : xs.length ≤ 16) (hx : ∀ x ∈ xs, 1 ≤ x.1 ∧ x.1 ≤ 2305843009213693951 ∧ 0 ≤ x.2 ∧ x.2 ≤ 5) : preL (lbT d xs) = some (d, xs) := by
  have hw : ∀ w ∈ [sgL d] :: xs.map enW, (32 : UInt8) ∉ w := fun w h => by
    rcases List.mem_cons.1 h with rfl | h
    · intro hm; simp at hm; exact (sg_no d).1 hm.symm
    · obtain ⟨x, _, rfl⟩ := List.mem_map.1 h; exact enW_no32 x
  have hn : ([sgL d] :: xs.map enW).length ≤ min 18 ((jn32 ([sgL d] :: xs.map enW)).length + 1) - 1 + 1 := by
    have := jn32_len ([sgL d] :: xs.map enW)
    simp only [List.length_cons, List.length_map] at this ⊢
    omega
  unfold preL
  rw [if_pos ⟨rfl, by unfold lbT; simp⟩]
  have e : (lbT d xs).tail.dropLast = jn32 ([sgL d] :: xs.map enW) := by unfold lbT; simp
  rw [e, spl_words _ _ (by simp) hw hn]
  simp only
  rw [lvL_sg d hd.1 hd.2, allE_map xs hx]
end Go.Proofs.YtfpjeclbilhgdaaDoor
