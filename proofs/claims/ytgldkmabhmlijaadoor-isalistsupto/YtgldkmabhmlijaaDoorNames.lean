/- What isName and jumps of package isa answer. -/
import Derived.Test.YtgldkmabhmlijaaDoorParM
namespace Go.Proofs.YtgldkmabhmlijaaDoor
open Go.RowKit Go.Sort
def isLet (b : UInt8) : Bool := decide (97 ≤ b.toNat) && decide (b.toNat ≤ 122)
/-- A name: one to sixteen letters. -/
def nameL (l : List UInt8) : Bool := decide (1 ≤ l.length) && decide (l.length ≤ 16) && l.all isLet
set_option maxRecDepth 100000 in
set_option maxHeartbeats 1000000 in
theorem isName_any (s : ByteArray) (w : World) : Calls Tryd.prog 43 #[.string s] w fun e w' => e = .returned (.bool (nameL s.data.toList)) ∧ Below w.heap.size w w' := by
  have hl : s.data.toList.length = s.size := by simp
  by_cases h1 : 1 ≤ s.size
  · by_cases h2 : s.size ≤ 16
    · have h1i : ¬ (s.size : Int) < 1 := by omega
      have h2i : ¬ (16 : Int) < (s.size : Int) := by omega
      have HN : Hid (nameL s.data.toList = s.data.toList.all isLet) := by
        have a1 : decide (1 ≤ s.data.toList.length) = true := by rw [hl]; simpa using h1
        have a2 : decide (s.data.toList.length ≤ 16) = true := by rw [hl]; simpa using h2
        simp only [Hid, nameL, a1, a2, Bool.true_and]
      go_enter Tryd.func43, Tryd.ntmps43
      go_wp2
      go_loopw [14] (fun i wr => ∃ k m : Nat, k ≤ s.size ∧ i = .int .i64 k ∧ (∀ j (h : j < k) (h2 : j < s.data.toList.length), isLet s.data.toList[j] = true) ∧ wr = w.drewN m) (fun i _ => s.size - (intOf i).toNat)
      case atStart => exact ⟨0, 0, by omega, rfl, fun j hj => by omega, rfl⟩
      case round =>
        obtain ⟨k, m, hk, rfl, hj, rfl⟩ := hrel
        have HJ := Lib.hid hj
        clear hj
        by_cases hlt : k < s.size
        · have hki : (k : Int) < (s.size : Int) := by omega
          have hb : s[k].toNat = byS s k := byS_get s k hlt
          have hb256 := byS_lt s k
          have hby : s.data.toList[k]'(by rw [hl]; exact hlt) = s[k] := by simp [ByteArray.getElem_eq_getElem_data]
          have hlet : isLet (s.data.toList[k]'(by rw [hl]; exact hlt)) = (decide (97 ≤ byS s k) && decide (byS s k ≤ 122)) := by rw [hby]; unfold isLet; rw [hb]
          have HL := Lib.hid hlet
          clear hlet hby
          obtain ⟨b, hbb⟩ : ∃ b, b = byS s k := ⟨_, rfl⟩
          rw [← hbb] at hb hb256 HL
          clear hbb
          by_cases hlo : 97 ≤ b
          · have hloi : ¬ (b : Int) < 97 := by omega
            by_cases hhi : b ≤ 122
            · have hhii : ¬ (122 : Int) < (b : Int) := by omega
              have HJ2 : Hid (∀ j (h : j < k + 1) (h2 : j < s.data.toList.length), isLet s.data.toList[j] = true) := fun j hj h2 => by
                by_cases e : j = k
                · subst e; rw [HL.out]; simp [hlo, hhi]
                · exact HJ.out j (by omega) h2
              go_wp2
              go_roundw
              case rel => exact ⟨k + 1, m, by omega, by go_num, HJ2.out, rfl⟩
              case measure => simp [intOf]; omega
            · have hhii : (122 : Int) < (b : Int) := by omega
              have HF : Hid (s.data.toList.all isLet = false) := by
                simp only [Hid]; rw [List.all_eq_false]
                exact ⟨_, List.getElem_mem (by rw [hl]; exact hlt), by rw [HL.out]; simp; omega⟩
              go_wp2
              go_ret
              exact ⟨by rw [HN.out, HF.out]; rfl, bdn (Below.refl _ _) _⟩
          · have hloi : (b : Int) < 97 := by omega
            have HF : Hid (s.data.toList.all isLet = false) := by
              simp only [Hid]; rw [List.all_eq_false]
              exact ⟨_, List.getElem_mem (by rw [hl]; exact hlt), by rw [HL.out]; simp; omega⟩
            go_wp2
            go_ret
            exact ⟨by rw [HN.out, HF.out]; rfl, bdn (Below.refl _ _) _⟩
        · have HT : Hid (s.data.toList.all isLet = true) := by
            simp only [Hid]; rw [List.all_eq_true]
            intro x hx
            obtain ⟨j, hj, rfl⟩ := List.getElem_of_mem hx
            exact HJ.out j (by rw [hl] at hj; omega) hj
          obtain rfl : k = s.size := by omega
          go_wp2
          go_ret
          exact ⟨by rw [HN.out, HT.out]; rfl, bdn (Below.refl _ _) _⟩
    · have h1i : ¬ (s.size : Int) < 1 := by omega
      have h2i : (16 : Int) < (s.size : Int) := by omega
      have HN : Hid (nameL s.data.toList = false) := by
        have a2 : decide (s.data.toList.length ≤ 16) = false := by rw [hl]; simpa using h2
        simp only [Hid, nameL, a2, Bool.and_false, Bool.false_and]
      go_enter Tryd.func43, Tryd.ntmps43
      go_wp2
      go_ret
      exact ⟨by rw [HN.out]; rfl, Below.refl _ _⟩
  · have h1i : (s.size : Int) < 1 := by omega
    have HN : Hid (nameL s.data.toList = false) := by
      have a1 : decide (1 ≤ s.data.toList.length) = false := by rw [hl]; simpa using h1
      simp only [Hid, nameL, a1, Bool.false_and]
    go_enter Tryd.func43, Tryd.ntmps43
    go_wp2
    go_ret
    exact ⟨by rw [HN.out]; rfl, Below.refl _ _⟩
set_option maxRecDepth 100000 in
set_option maxHeartbeats 1000000 in
theorem jumps_any (op : Int) (w : World) : Calls Tryd.prog 46 #[.int .i64 op] w fun e w' => e = .returned (.bool (decide (sh op = 5 ∨ sh op = 6))) ∧ Below w.heap.size w w' := by
  obtain ⟨s, hs⟩ : ∃ s, s = sh op := ⟨_, rfl⟩
  have HS := Lib.hid (shapeOf_any op)
  rw [← hs] at HS ⊢
  clear hs
  go_enter Tryd.func46, Tryd.ntmps46
  go_wp2_with (first | (go_at_call 14; refine (HS.out _).mono ?_; rintro e w1 ⟨rfl, hb1⟩; refine Hid.out ?_))
  refine Lib.hid ?_
  have H0 : Hid (∀ k, k < 3 → wd s k = 6 → decide (s = 5 ∨ s = 6) = true) := fun k hk h => by
    rcases (show k = 0 ∨ k = 1 ∨ k = 2 by omega) with rfl | rfl | rfl <;> simp [wd] at h ⊢ <;> omega
  have H1 : Hid ((∀ k, k < 3 → wd s k ≠ 6) → decide (s = 5 ∨ s = 6) = false) := fun h => by
    simp only [decide_eq_false_iff_not]
    rintro (rfl | rfl)
    · exact h 0 (by omega) rfl
    · exact h 1 (by omega) rfl
  go_wp2_with fail
  go_loopw [7] (fun i wr => ∃ k : Nat, k ≤ 3 ∧ i = .int .i64 k ∧ (∀ j, j < k → wd s j ≠ 6) ∧ wr = w1) (fun i _ => 3 - (intOf i).toNat)
  case atStart => exact ⟨0, by omega, rfl, fun j hj => by omega, rfl⟩
  case round =>
    obtain ⟨k, hk, rfl, hj, rfl⟩ := hrel
    have HJ := Lib.hid hj
    clear hj
    by_cases hlt : k < 3
    · have hki : (k : Int) < 3 := by omega
      have ik := idx3 s k hlt
      by_cases h6 : wd s k = 6
      · have HR : Hid (decide (s = 5 ∨ s = 6) = true) := H0.out k hlt h6
        have hq : (wd s k == 6) = true := by simp [h6]
        clear h6
        go_wp2
        go_ret
        exact ⟨by rw [HR.out]; rfl, hb1⟩
      · have hq : (wd s k == 6) = false := by simp [h6]
        have HJ2 : Hid (∀ j, j < k + 1 → wd s j ≠ 6) := fun j hj => if e : j = k then e ▸ h6 else HJ.out j (by omega)
        clear h6
        go_wp2
        go_roundw
        case rel => exact ⟨k + 1, by omega, by go_num, HJ2.out, trivial⟩
        case measure => simp [intOf]; omega
    · have HR : Hid (decide (s = 5 ∨ s = 6) = false) := H1.out (fun j hj => HJ.out j (by omega))
      obtain rfl : k = 3 := by omega
      go_wp2
      go_ret
      exact ⟨by rw [HR.out]; rfl, hb1⟩
end Go.Proofs.YtgldkmabhmlijaaDoor
