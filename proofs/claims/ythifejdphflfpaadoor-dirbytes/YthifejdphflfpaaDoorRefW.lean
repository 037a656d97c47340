/- What Word and Eight of the reference answer. -/
import Derived.Test.YthifejdphflfpaaDoorFirst
import Derived.Lib.ConvBytes
import Derived.Laws.IdiomStrings
namespace Go.Proofs.YthifejdphflfpaaDoor
open Go.RowKit Go.Sort
def fitR (d : Nat) (a n : Int) : Bool := decide (0 ≤ a) && decide (0 ≤ n) && decide (a ≤ d) && decide (n ≤ d - a)
theorem Fits_any (p : Option Addr) (cap : Nat) (d : Nat) (a n : Int) (w : World) (hd : d ≤ 4096) : Calls Tryd.prog 60 #[.slice p d cap, .int .i64 a, .int .i64 n] w fun e w' => e = .returned (.bool (fitR d a n)) ∧ w' = w := by
  by_cases h1 : 0 ≤ a
  · by_cases h2 : 0 ≤ n
    · by_cases h3 : a ≤ d
      · by_cases h4 : n ≤ d - a
        · go_enter Tryd.func60, Tryd.ntmps60
          go_wp2
          go_ret
          exact ⟨by simp [fitR, h1, h2, h3, h4], rfl⟩
        · go_enter Tryd.func60, Tryd.ntmps60
          go_wp2
          go_ret
          exact ⟨by simp [fitR, h1, h2, h3, h4], rfl⟩
      · go_enter Tryd.func60, Tryd.ntmps60
        go_wp2
        go_ret
        exact ⟨by simp [fitR]; omega, rfl⟩
    · go_enter Tryd.func60, Tryd.ntmps60
      go_wp2
      go_ret
      exact ⟨by simp [fitR]; omega, rfl⟩
  · go_enter Tryd.func60, Tryd.ntmps60
    go_wp2
    go_ret
    exact ⟨by simp [fitR]; omega, rfl⟩
theorem numLx_lt : ∀ l : List UInt8, numL l < 256 ^ l.length
  | [] => by simp [numL]
  | b :: l => by
    have h1 := numLx_lt l
    have h2 : b.toNat < 256 := b.toNat_lt
    simp only [numL, List.length_cons, Nat.pow_succ]
    omega
theorem numLx_drop (S : List UInt8) (k : Nat) (h : k < S.length) : numL (S.drop k) = S[k].toNat + 256 * numL (S.drop (k + 1)) := by
  rw [List.drop_eq_getElem_cons h]; rfl
theorem numLx_8 (S : List UInt8) (hS : S.length ≤ 8) (k : Nat) : numL (S.drop k) < 18446744073709551616 := by
  have h1 := numLx_lt (S.drop k)
  have h2 : 256 ^ (S.drop k).length ≤ 256 ^ 8 := Nat.pow_le_pow_right (by decide) (by rw [List.length_drop]; omega)
  have h3 : (256 : Nat) ^ 8 = 18446744073709551616 := by decide
  omega
set_option maxRecDepth 100000 in
set_option maxHeartbeats 2000000 in
/-- Out of whatever Read answers. -/
theorem Word_of (v : Value) (a : Int) (S : ByteArray) (err : Int) (w : World) (hS : S.size ≤ 8) (HR : Calls Tryd.prog 51 #[v, .int .i64 a, .int .i64 8] w fun e w' => e = .returned (.tuple #[.string S, .int .i64 err]) ∧ Below w.heap.size w w') :
    Calls Tryd.prog 36 #[v, .int .i64 a] w fun e w' => e = .returned (.tuple #[.int .u64 (numL S.data.toList : Nat), .int .i64 err]) ∧ Below w.heap.size w w' := by
  have HRd := Lib.hid HR
  clear HR
  have hsl : S.data.toList.length = S.size := by simp
  go_enter Tryd.func36, Tryd.ntmps36
  go_wp2_with (go_at_call 51; refine HRd.out.mono ?_; rintro e w2 ⟨rfl, hb2⟩; refine Hid.out ?_)
  refine Lib.hid ?_
  go_wp2_with fail
  go_loopw [8, 9] (fun xv iv wr => ∃ k : Nat, xv = .int .u64 (numL (S.data.toList.drop k) : Nat) ∧ iv = .int .i64 ((k : Int) - 1) ∧ k ≤ S.size ∧ Below w.heap.size w wr) (fun _ iv _ => (intOf iv + 1).toNat)
  case atStart => exact ⟨S.size, by rw [List.drop_of_length_le (by omega)]; rfl, rfl, Nat.le_refl _, hb2⟩
  case round =>
    obtain ⟨k, rfl, rfl, hk, hbr⟩ := hrel
    by_cases h1 : 0 < k
    · obtain ⟨m, rfl⟩ : ∃ m, k = m + 1 := ⟨k - 1, by omega⟩
      have hm : m < S.data.toList.length := by omega
      have hmi : (((m + 1 : Nat) : Int) - 1) = (m : Int) := by omega
      have hsm : (m : Int) < (S.size : Int) := by omega
      have hst := numLx_drop S.data.toList m hm
      have hlt := numLx_8 S.data.toList (by omega) m
      have hse : S.data.toList[m] = S[m] := by simp [Array.getElem_toList]; rfl
      rw [hse] at hst
      have HST := Lib.hid hst
      obtain ⟨X, hX⟩ : ∃ X, numL (S.data.toList.drop (m + 1)) = X := ⟨_, rfl⟩
      rw [hX] at HST
      have h2 : S[m].toNat < 256 := S[m].toNat_lt
      have hb : S[m].toNat + 256 * X < 18446744073709551616 := by rw [HST.out] at hlt; exact hlt
      have hw1 : IntKind.u64.wrap ((X : Int) * 256) = (X : Int) * 256 := by rw [IntKind.wrap_u64]; omega
      have hw2 : IntKind.u64.wrap ((X : Int) * 256 + (S[m].toNat : Int)) = (X : Int) * 256 + (S[m].toNat : Int) := by rw [IntKind.wrap_u64]; omega
      have hw3 : IntKind.u64.wrap (S[m].toNat : Int) = (S[m].toNat : Int) := by rw [IntKind.wrap_u64]; omega
      have hge : (0 : Int) ≤ (m : Int) := by omega
      rw [hX, hmi]
      clear hX hst hlt hse hmi
      go_wp2
      refine ⟨⟨m, ?_, rfl, by omega, hbr⟩, ?_⟩
      · rw [HST.out]; congr 1; push_cast; omega
      · simp only [intOf]; omega
    · obtain rfl : k = 0 := by omega
      have hge : ¬ (0 : Int) ≤ ((0 : Nat) : Int) - 1 := by omega
      have hge2 : decide ((0 : Int) ≤ ((0 : Nat) : Int) - 1) = false := by decide
      rw [List.drop_zero]
      obtain ⟨X, hX⟩ : ∃ X, numL S.data.toList = X := ⟨_, rfl⟩
      rw [hX]
      have HX := Lib.hid hX
      clear hX
      go_wp2
      go_ret2
      exact ⟨by rw [HX.out]; rfl, hbr⟩
set_option maxRecDepth 100000 in
set_option maxHeartbeats 2000000 in
theorem Read8_any (g cp A : Nat) (d : List UInt8) (w : World) (hd : d.length ≤ 4096) (hcp : d.length ≤ cp) (hcm : cp ≤ 9223372036854775807) (hA : A + 8 ≤ d.length) (hc : ∀ j, j < d.length → w.cell? ⟨g, j, none⟩ = some (.int .u8 ((d.getD j 0).toNat : Int))) :
    Calls Tryd.prog 51 #[.slice (some ⟨g, 0, none⟩) d.length cp, .int .i64 A, .int .i64 8] w fun e w' => e = .returned (.tuple #[.string ⟨((d.drop A).take 8).toArray⟩, .int .i64 0]) ∧ Below w.heap.size w w' := by
  have hFt := Fits_any (some ⟨g, 0, none⟩) cp d.length A 8 w hd
  rw [show fitR d.length A 8 = true from by simp only [fitR, Bool.and_eq_true, decide_eq_true_eq]; omega] at hFt
  have HFt := Lib.hid hFt
  clear hFt
  have hL : ((d.drop A).take 8).length = 8 := by rw [List.length_take, List.length_drop]; omega
  have hAi : (A : Int) + 8 ≤ (cp : Int) := by omega
  have hne : ¬ (cp = A) := by omega
  have hcv1 : Sem.run Tryd.prog (convert 51 9 (.slice (some ⟨g, A, none⟩) 8 (cp - A))) w = .ok (.string ⟨((d.drop A).take 8).toArray⟩) w := by
    have := run_convert_bytes_back (P := Tryd.prog) w 51 9 5 ⟨g, A, none⟩ (cp - A) ((d.drop A).take 8) Tryd.underlying51 Tryd.underlying5 Tryd.underlying9 (fun j hj => by
      rw [hL] at hj
      have h1 := hc (A + j) (by omega)
      rw [addr_plus, h1]
      rw [List.getElem_take, List.getElem_drop, List.getD_eq_getElem?_getD, List.getElem?_eq_getElem (by omega)]
      rfl)
    rwa [hL] at this
  clear hc
  go_enter Tryd.func51, Tryd.ntmps51
  go_wp2_with (go_at_call 60; refine HFt.out.mono ?_; rintro e w1 ⟨rfl, hw1⟩; rw [hw1]; clear hw1 w1)
  go_ret2
  exact ⟨rfl, Below.refl _ _⟩
end Go.Proofs.YthifejdphflfpaaDoor
