/- What Join of package dir and of the reference answer. -/
import Derived.Test.YthifejdphflfpaaDoorJoinS
import Derived.Test.YthifejdphflfpaaDoorSame
namespace Go.Proofs.YthifejdphflfpaaDoor
open Go.RowKit Go.Sort
theorem join_snoc (r : List (List UInt8)) (y sep : List UInt8) (h : r ≠ []) : Lib.join (r ++ [y]) sep = Lib.join r sep ++ (sep ++ y) := by
  cases r with
  | nil => exact absurd rfl h
  | cons x r =>
    rw [List.cons_append, Lib.join_cons, Lib.join_cons]
    unfold Lib.joinTail
    simp
/-- How many bytes the texts have, each with one more. -/
def sumS (l : List ByteArray) : Nat := (l.map fun x => x.size + 1).sum
theorem sumS_take (l : List ByteArray) (k : Nat) : sumS (l.take k) ≤ sumS l := by
  have h : sumS l = sumS (l.take k) + sumS (l.drop k) := by
    unfold sumS
    rw [← List.sum_append_nat, ← List.map_append, List.take_append_drop]
  omega
theorem sumS_mem {l : List ByteArray} {x : ByteArray} (h : x ∈ l) : x.size + 1 ≤ sumS l := by
  unfold sumS
  induction l with
  | nil => cases h
  | cons y l ih =>
    simp only [List.map_cons, List.sum_cons]
    rcases List.mem_cons.1 h with rfl | h
    · omega
    · have := ih h; omega
theorem sumS_len (l : List ByteArray) : l.length ≤ sumS l := by
  unfold sumS
  induction l with
  | nil => simp
  | cons y l ih => simp only [List.map_cons, List.sum_cons, List.length_cons]; omega
theorem join_len : ∀ l : List ByteArray, (Lib.join (l.map (·.data.toList)) [47]).length ≤ sumS l
  | [] => by simp [Lib.join]
  | x :: r => by
    rw [List.map_cons, Lib.join_cons, List.length_append]
    have key : ∀ r : List ByteArray, (Lib.joinTail [47] (r.map (·.data.toList))).length = sumS r := fun r => by
      unfold Lib.joinTail sumS
      induction r with
      | nil => rfl
      | cons y r ih =>
        simp only [List.map_cons, List.flatten_cons, List.length_append, List.sum_cons, ih]
        have : y.data.toList.length = y.size := by simp
        simp [this]; omega
    rw [key]
    have : x.data.toList.length = x.size := by simp
    rw [this]
    unfold sumS
    simp only [List.map_cons, List.sum_cons]; omega
def pathB (l : List ByteArray) : ByteArray := ⟨(47 :: Lib.join (l.map (·.data.toList)) [47]).toArray⟩
theorem pathB_size (l : List ByteArray) : (pathB l).size ≤ sumS l + 1 := by
  have h : (pathB l).size = (Lib.join (l.map (·.data.toList)) [47]).length + 1 := by
    show (47 :: Lib.join (l.map (·.data.toList)) [47]).toArray.size = _
    simp
  have := join_len l
  omega
theorem pathB_nil : pathB [] = ⟨#[47]⟩ := rfl
theorem pathB_one (x : ByteArray) : (⟨#[47]⟩ : ByteArray) ++ x = pathB [x] := by
  refine ByteArray.ext (Array.ext' ?_)
  simp [pathB, Lib.join_one, ByteArray.data_append]
theorem pathB_snoc (l : List ByteArray) (x : ByteArray) (h : l ≠ []) : (pathB l ++ (⟨#[47]⟩ : ByteArray)) ++ x = pathB (l ++ [x]) := by
  refine ByteArray.ext (Array.ext' ?_)
  unfold pathB
  rw [List.map_append, List.map_cons, List.map_nil, join_snoc _ _ _ (by simpa using h)]
  simp [ByteArray.data_append]
set_option maxHeartbeats 1000000 in
theorem Join_any (p : Option Addr) (cap : Nat) (l : List ByteArray) (w : World) (hl : sumS l ≤ 1048576) (hc : TsAt w p l) (hcap : l.length ≤ cap) :
    Calls Tryd.prog 26 #[.slice p l.length cap] w fun e w' => e = .returned (.string (pathB l)) ∧ Below w.heap.size w w' := by
  have hln := sumS_len l
  have hJ : Calls Tryd.prog 41 #[.slice p l.length cap, .string ⟨#[47]⟩] w fun e w' => e = .returned (.string ⟨(Lib.join (l.map (·.data.toList)) [47]).toArray⟩) ∧ Below w.heap.size w w' := by
    rcases Nat.eq_zero_or_pos l.length with h0 | h0
    · have := List.length_eq_zero_iff.1 h0
      subst this
      exact (Tryd.strings_Join_none p cap ⟨#[47]⟩ w).mono fun e w' ⟨he, hw⟩ => ⟨he, by rw [hw]; exact Below.refl _ _⟩
    · obtain ⟨b, off, rfl, hb, _⟩ := hc 0 h0
      refine Tryd.strings_Join b off cap l ⟨#[47]⟩ w (fun j x hx => ?_) hb (by omega) hcap (by have := join_len l; show (Lib.join (l.map (·.data.toList)) [47]).length ≤ _; omega)
      obtain ⟨hj, rfl⟩ := List.getElem?_eq_some_iff.1 hx
      obtain ⟨b', off', he, _, hcj⟩ := hc j hj
      obtain ⟨rfl, rfl⟩ : b = b' ∧ off = off' := by simpa using he
      exact hcj
  have HJ := Lib.hid hJ
  have hS : (⟨#[47]⟩ : ByteArray) ++ ⟨(Lib.join (l.map (·.data.toList)) [47]).toArray⟩ = pathB l := by
    refine ByteArray.ext (Array.ext' ?_)
    simp [pathB, ByteArray.data_append]
  have hz : (⟨#[47]⟩ : ByteArray).size + (⟨(Lib.join (l.map (·.data.toList)) [47]).toArray⟩ : ByteArray).size ≤ 9223372036854775807 := by
    have h1 : (⟨(Lib.join (l.map (·.data.toList)) [47]).toArray⟩ : ByteArray).size = (Lib.join (l.map (·.data.toList)) [47]).length := by
      show (Lib.join (l.map (·.data.toList)) [47]).toArray.size = _; simp
    have h2 : (⟨#[47]⟩ : ByteArray).size = 1 := rfl
    have := join_len l
    omega
  have HS := Lib.hid hS
  clear hS hJ hc
  generalize (⟨(Lib.join (l.map (·.data.toList)) [47]).toArray⟩ : ByteArray) = J at HJ HS hz
  go_enter Tryd.func26, Tryd.ntmps26
  go_wp2_with (go_at_call 41; refine HJ.out.mono ?_; rintro e w1 ⟨rfl, hb1⟩)
  go_ret
  exact ⟨by rw [← HS.out]; rfl, hb1⟩
set_option maxRecDepth 100000 in
set_option maxHeartbeats 2000000 in
theorem refJoin_any (p : Option Addr) (cap : Nat) (l : List ByteArray) (w : World) (hl : sumS l ≤ 1048576) (hc : TsAt w p l) :
    Calls Tryd.prog 27 #[.slice p l.length cap] w fun e w' => e = .returned (.string (pathB l)) ∧ Below w.heap.size w w' := by
  have hln := sumS_len l
  go_enter Tryd.func27, Tryd.ntmps27
  go_wp2_with fail
  go_loopw [3, 8] (fun s i wr => ∃ k : Nat, k ≤ l.length ∧ i = .int .i64 k ∧ s = .string (pathB (l.take k)) ∧ Below w.heap.size w wr) (fun _ i _ => l.length - (intOf i).toNat)
  case atStart => exact ⟨0, Nat.zero_le _, rfl, rfl, Below.refl _ _⟩
  case round =>
    obtain ⟨k, hk, rfl, rfl, hb⟩ := hrel
    by_cases hlt : k < l.length
    · have hki : (k : Int) < (l.length : Int) := by omega
      obtain ⟨b, off, rfl, hbl, hq⟩ := hc k hlt
      have c0 := (hb.cell (p := ⟨b, off + k, none⟩) hbl).trans hq
      have hbw : b < wr.heap.size := by have := hb.size; omega
      have hps := pathB_size (l.take k)
      have hst := sumS_take l k
      have hms := sumS_mem (List.getElem_mem hlt)
      have HTk := Lib.hid (List.take_succ_eq_append_getElem hlt)
      have hne : 0 < k → l.take k ≠ [] := fun h0 e => by
        have := congrArg List.length e
        rw [List.length_take, List.length_nil] at this; omega
      obtain ⟨x, hx⟩ : ∃ x, l[k] = x := ⟨_, rfl⟩
      rw [hx] at c0 hms HTk
      obtain ⟨L, hL⟩ : ∃ L, l.take k = L := ⟨_, rfl⟩
      rw [hL] at hps hst HTk hne ⊢
      have h1 : (⟨#[47]⟩ : ByteArray).size = 1 := rfl
      by_cases h0 : 0 < k
      · have hd : decide (0 < k) = true := by simpa using h0
        have HN := Lib.hid (pathB_snoc L x (hne h0))
        have hz1 : (pathB L).size + (⟨#[47]⟩ : ByteArray).size ≤ 9223372036854775807 := by omega
        have hz2 : (pathB L ++ (⟨#[47]⟩ : ByteArray)).size + x.size ≤ 9223372036854775807 := by rw [ByteArray.size_append]; omega
        clear hc hq hx hL hne h1
        go_wp2
        go_roundw
        case rel => exact ⟨k + 1, by omega, by go_num, by rw [HTk.out, ← HN.out], hb⟩
        case measure => simp [intOf]; omega
      · have hk0 : k = 0 := by omega
        have hL0 : L = [] := by rw [← hL, hk0]; rfl
        have hd : decide (0 < k) = false := by rw [decide_eq_false_iff_not]; omega
        have HN := Lib.hid (pathB_one x)
        have hpl : pathB L = ⟨#[47]⟩ := by rw [hL0]; rfl
        have hz2 : (⟨#[47]⟩ : ByteArray).size + x.size ≤ 9223372036854775807 := by omega
        have HL0 := Lib.hid hL0
        rw [hpl]
        clear hc hq hx hL hne h1 hk0 hL0 hpl
        go_wp2
        go_roundw
        case rel => exact ⟨k + 1, by omega, by go_num, by rw [HTk.out, HL0.out]; exact congrArg Value.string HN.out, hb⟩
        case measure => simp [intOf]; omega
    · obtain rfl : k = l.length := by omega
      have hkk : ¬ (l.length : Int) < (l.length : Int) := by omega
      rw [List.take_length]
      go_wp2
      go_ret
      exact ⟨rfl, hb⟩
end Go.Proofs.YthifejdphflfpaaDoor
