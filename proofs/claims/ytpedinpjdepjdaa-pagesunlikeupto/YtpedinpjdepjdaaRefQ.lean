/- What the reference of layer 3 answers: Write that does not fit, Read, Eight. -/
import Derived.Test.YtpedinpjdepjdaaRefP
import Derived.BigQuiet
namespace Go.Proofs.Ytpedinpjdepjdaa
open Go.RowKit
theorem own_form {w : World} {base e size n : Nat} {v : Value} {xs : List Value} (h : w.ownsRow base e size v n xs) : ∃ sp cp, v = .slice sp n cp := by
  rcases h.2 with ⟨h, h0⟩ | ⟨g, cp, _, h, _⟩
  · exact ⟨none, 0, by rw [h, h0]⟩
  · exact ⟨_, _, h⟩
set_option maxRecDepth 100000 in
theorem refWrite_no (base : Nat) (v : Value) (d : List UInt8) (a : Int) (s : ByteArray) (w : World) (hd : d.length ≤ 4096) (hown : w.ownsRow base 5 1 v d.length (u8s d)) (hf : fitR d.length a s.size = false) :
    Calls Try.prog 19 #[v, .int .i64 a, .string s] w fun e w' => e = .returned (.tuple #[v, .int .i64 9]) ∧ w' = w := by
  obtain ⟨sp, cp, rfl⟩ := own_form hown
  have hFt := Fits_any sp cp d.length a s.size w hd
  rw [hf] at hFt
  have HFt := Lib.hid hFt
  clear hFt hown
  go_enter Try.func19, Try.ntmps19
  go_wp2_with (go_at_call 37; refine HFt.out.mono ?_; rintro e w1 ⟨rfl, hw1⟩; rw [hw1]; clear hw1 w1)
  go_ret2
  exact ⟨rfl, rfl⟩
set_option maxRecDepth 100000 in
theorem refRead_no (base : Nat) (v : Value) (d : List UInt8) (a n : Int) (w : World) (hd : d.length ≤ 4096) (hown : w.ownsRow base 5 1 v d.length (u8s d)) (hf : fitR d.length a n = false) :
    Calls Try.prog 18 #[v, .int .i64 a, .int .i64 n] w fun e w' => e = .returned (.tuple #[.string ⟨#[]⟩, .int .i64 9]) ∧ w' = w := by
  obtain ⟨sp, cp, rfl⟩ := own_form hown
  have hFt := Fits_any sp cp d.length a n w hd
  rw [hf] at hFt
  have HFt := Lib.hid hFt
  clear hFt hown
  go_enter Try.func18, Try.ntmps18
  go_wp2_with (go_at_call 37; refine HFt.out.mono ?_; rintro e w1 ⟨rfl, hw1⟩; rw [hw1]; clear hw1 w1)
  go_ret2
  exact ⟨rfl, rfl⟩
set_option maxRecDepth 100000 in
set_option maxHeartbeats 2000000 in
theorem refRead_any (base : Nat) (v : Value) (d : List UInt8) (a n : Int) (w : World) (hd : d.length ≤ 4096) (hown : w.ownsRow base 5 1 v d.length (u8s d)) (hf : fitR d.length a n = true) :
    Calls Try.prog 18 #[v, .int .i64 a, .int .i64 n] w fun e w' => e = .returned (.tuple #[.string ⟨((d.drop a.toNat).take n.toNat).toArray⟩, .int .i64 0]) ∧ Below w.heap.size w w' := by
  obtain ⟨sp, cp, rfl⟩ := own_form hown
  have hFt := Fits_any sp cp d.length a n w hd
  rw [hf] at hFt
  have HFt := Lib.hid hFt
  obtain ⟨A, rfl, N, rfl, hAN⟩ : ∃ A : Nat, a = (A : Int) ∧ ∃ N : Nat, n = (N : Int) ∧ A + N ≤ d.length := by
    simp only [fitR, Bool.and_eq_true, decide_eq_true_eq] at hf
    exact ⟨a.toNat, by omega, n.toNat, by omega, by omega⟩
  have hN : (((A : Int).toNat, (N : Int).toNat) : Nat × Nat) = (A, N) := by simp
  simp only [Prod.mk.injEq] at hN
  rw [hN.1, hN.2]
  clear hFt hf hN
  have hcl := fun g hg => hown.cells (g := g) hg
  rcases hown.2 with ⟨hv, h0⟩ | ⟨g, cp', cur, hv, _, _, hcc, hcm, _⟩
  · simp only [Value.slice.injEq] at hv
    obtain ⟨rfl, -, rfl⟩ := hv
    have hd0 := List.length_eq_zero_iff.1 h0
    subst hd0
    obtain rfl : A = 0 := by simp at hAN; omega
    obtain rfl : N = 0 := by simp at hAN; omega
    have hcv : ∀ w, Sem.run Try.prog (convert 29 9 (.slice none 0 0)) w = .ok (.string ⟨#[]⟩) w := fun w => by
      rw [run_convert_bytes_string w 29 9 5 none 0 0 Try.underlying29 Try.underlying5 Try.underlying9]
      simp [Conv.bytesToString]; rfl
    clear hown hcl
    go_enter Try.func18, Try.ntmps18
    go_wp2_with (go_at_call 37; refine HFt.out.mono ?_; rintro e w1 ⟨rfl, hw1⟩; rw [hw1]; clear hw1 w1)
    go_ret2
    exact ⟨rfl, Below.refl _ _⟩
  · simp only [Value.slice.injEq] at hv
    obtain ⟨rfl, -, rfl⟩ := hv
    unfold maxLen at hcm
    have hL : ((d.drop A).take N).length = N := by rw [List.length_take, List.length_drop]; omega
    have hcv : ∀ (ad : Addr) (c : Nat), (∀ j, j < N → w.cell? (ad.add j) = some (.int .u8 ((((d.drop A).take N).getD j 0).toNat : Int))) → Sem.run Try.prog (convert 29 9 (.slice (some ad) N c)) w = .ok (.string ⟨((d.drop A).take N).toArray⟩) w := fun ad c hc => by
      have := run_convert_bytes_back (P := Try.prog) w 29 9 5 ad c ((d.drop A).take N) Try.underlying29 Try.underlying5 Try.underlying9 (fun j hj => by
        have h1 := hc j (by omega)
        rw [List.getD_eq_getElem?_getD, List.getElem?_eq_getElem hj] at h1
        exact h1)
      rwa [hL] at this
    have hAi : (A : Int) + (N : Int) ≤ (cp : Int) := by omega
    have hAi2 : (A : Int) ≤ (A : Int) + (N : Int) := by omega
    have hsum : ((A : Int) + (N : Int)).toNat = A + N := by omega
    rcases Nat.eq_or_lt_of_le (show A ≤ cp by omega) with hcA | hcA
    · subst hcA
      obtain rfl : N = 0 := by omega
      have hcv1 := hcv ⟨g, 0, none⟩ 0 (fun j hj => by omega)
      clear hown hcl hcv
      go_enter Try.func18, Try.ntmps18
      go_wp2_with (go_at_call 37; refine HFt.out.mono ?_; rintro e w1 ⟨rfl, hw1⟩; rw [hw1]; clear hw1 w1)
      go_ret2
      exact ⟨rfl, Below.refl _ _⟩
    · have hne : ¬ (cp = A) := by omega
      have hcv1 := hcv ⟨g, A, none⟩ (cp - A) (fun j hj => by
        have h1 := hcl g rfl (A + j) (.int .u8 ((((d.drop A).take N).getD j 0).toNat : Int)) (by
          unfold u8s
          rw [List.getElem?_map, List.getElem?_eq_getElem (by omega : A + j < d.length), List.getD_eq_getElem?_getD, List.getElem?_take, if_pos hj, List.getElem?_drop, List.getElem?_eq_getElem (by omega : A + j < d.length)]
          rfl)
        by_cases hj0 : j = 0
        · subst hj0
          by_cases hA0 : A = 0
          · subst hA0; simpa [Addr.add] using h1
          · simpa [Addr.add, hA0] using h1
        · simp only [Addr.add] at h1 ⊢
          rw [if_neg (by omega)] at h1
          rw [if_neg hj0]
          simpa using h1)
      clear hown hcl hcv
      go_enter Try.func18, Try.ntmps18
      go_wp2_with (go_at_call 37; refine HFt.out.mono ?_; rintro e w1 ⟨rfl, hw1⟩; rw [hw1]; clear hw1 w1)
      go_ret2
      exact ⟨rfl, Below.refl _ _⟩
end Go.Proofs.Ytpedinpjdepjdaa
