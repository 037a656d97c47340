/- What register and Named of the reference answer. -/
import Derived.Test.YtgldkmabhmlijaaGreatDoorRVal
namespace Go.Proofs.YtgldkmabhmlijaaGreatDoor
open Go.RowKit Go.Sort
set_option maxRecDepth 100000 in
set_option maxHeartbeats 1000000 in
theorem register_any (s : ByteArray) (w : World) (hs : s.size < 1000000) : Calls Tryz.prog 21 #[.string s] w fun e w' => e = .returned (.tuple #[.int .i64 ((regL s.data.toList).getD 0), .bool (regL s.data.toList).isSome]) ∧ Below w.heap.size w w' := by
  have hl : s.data.toList.length = s.size := by simp
  by_cases h2 : 2 ≤ s.size
  · have h2i : ¬ (s.size : Int) < 2 := by omega
    have h1i : (1 : Int) ≤ (s.size : Int) := by omega
    have h0i : (0 : Int) < (s.size : Int) := by omega
    by_cases h3 : s.size ≤ 3
    · have h3i : ¬ (3 : Int) < (s.size : Int) := by omega
      have hb0 : s[0].toNat = byS s 0 := byS_get s 0 (by omega)
      have hget : s.data.toList[0]'(by omega) = s[0] := by simp [ByteArray.getElem_eq_getElem_data]
      have hhd : s.data.toList.head? = some s[0] := by rw [List.head?_eq_getElem?, List.getElem?_eq_getElem (by omega), hget]
      by_cases h114 : byS s 0 = 114
      · have HR : Hid (regL s.data.toList = valL (s.extract 1 s.size).data.toList) := by
          simp only [Hid]; unfold regL
          rw [if_pos ⟨by omega, by omega, by rw [hhd, show s[0] = 114 from UInt8.toNat_inj.1 (by rw [hb0, h114]; rfl)]⟩, ByteArray.data_extract, Array.toList_extract]
          simp only [List.extract_eq_take_drop]
          rw [List.take_of_length_le (by rw [List.length_drop]; omega), List.drop_one]
        have hq : ((byS s 0 : Int) != 114) = false := by rw [h114]; rfl
        have hq2 : (!((byS s 0 : Int) == 114)) = false := by rw [h114]; rfl
        have HV := Lib.hid (fun W => Value_any (s.extract 1 s.size) W (by rw [ByteArray.size_extract]; omega))
        obtain ⟨q, hqq⟩ : ∃ q, s.extract 1 s.size = q := ⟨_, rfl⟩
        rw [hqq] at HV HR
        rw [h114] at hb0
        clear hhd hget h114 hq hq2
        generalize valL q.data.toList = o at HV HR
        go_enter Tryz.func21, Tryz.ntmps21
        go_wp2_with (go_at_call 22; refine (HV.out _).mono ?_; rintro e w1 ⟨rfl, hb1⟩)
        go_ret2
        exact ⟨by rw [HR.out]; rfl, hb1⟩
      · have HR : Hid (regL s.data.toList = none) := by
          simp only [Hid]; unfold regL
          rw [if_neg]
          rintro ⟨_, _, e⟩
          rw [hhd] at e
          have e2 : s[0] = 114 := Option.some.inj e
          exact h114 (by rw [← hb0, e2]; rfl)
        have hq2 : ((byS s 0 : Int) == 114) = false := by simp; omega
        clear hhd hget h114
        go_enter Tryz.func21, Tryz.ntmps21
        go_wp2
        go_ret2
        exact ⟨by rw [HR.out]; rfl, Below.refl _ _⟩
    · have h3i : (3 : Int) < (s.size : Int) := by omega
      have HR : Hid (regL s.data.toList = none) := by
        simp only [Hid]; unfold regL; rw [if_neg (by omega)]
      go_enter Tryz.func21, Tryz.ntmps21
      go_wp2
      go_ret2
      exact ⟨by rw [HR.out]; rfl, Below.refl _ _⟩
  · have h2i : (s.size : Int) < 2 := by omega
    have HR : Hid (regL s.data.toList = none) := by
      simp only [Hid]; unfold regL; rw [if_neg (by omega)]
    go_enter Tryz.func21, Tryz.ntmps21
    go_wp2
    go_ret2
    exact ⟨by rw [HR.out]; rfl, Below.refl _ _⟩
set_option maxRecDepth 100000 in
set_option maxHeartbeats 1000000 in
theorem rNamed_any (s : ByteArray) (w : World) (hs : s.size < 1000000) : Calls Tryz.prog 23 #[.string s] w fun e w' => e = .returned (.bool (nameL s.data.toList)) ∧ Below w.heap.size w w' := by
  have hl : s.data.toList.length = s.size := by simp
  go_enter Tryz.func23, Tryz.ntmps23
  go_wp2_with fail
  go_loopw [3] (fun i wr => ∃ k m : Nat, k ≤ s.size ∧ i = .int .i64 k ∧ (∀ j (h : j < k) (h2 : j < s.data.toList.length), isLet s.data.toList[j] = true) ∧ wr = w.drewN m) (fun i _ => s.size - (intOf i).toNat)
  case atStart => exact ⟨0, 0, by omega, rfl, fun j hj => by omega, rfl⟩
  case round =>
    obtain ⟨k, m, hk, rfl, hj, rfl⟩ := hrel
    have HJ := Lib.hid hj
    clear hj
    by_cases hlt : k < s.size
    · have hki : (k : Int) < (s.size : Int) := by omega
      have hb : s[k].toNat = byS s k := byS_get s k hlt
      have hb256 := byS_lt s k
      have hby : s.data.toList[k]'(by rw [hl]; exact hlt) = s[k] := by simp [ByteArray.getElem_eq_getElem_data]
      have hlet : isLet (s.data.toList[k]'(by rw [hl]; exact hlt)) = (decide (97 ≤ byS s k) && decide (byS s k ≤ 122)) := by rw [hby]; unfold isLet; rw [hb]
      have HL := Lib.hid hlet
      clear hlet hby
      obtain ⟨b, hbb⟩ : ∃ b, b = byS s k := ⟨_, rfl⟩
      rw [← hbb] at hb hb256 HL
      clear hbb
      by_cases hlo : 97 ≤ b
      · have hloi : ¬ (b : Int) < 97 := by omega
        by_cases hhi : b ≤ 122
        · have hhii : ¬ (122 : Int) < (b : Int) := by omega
          have HJ2 : Hid (∀ j (h : j < k + 1) (h2 : j < s.data.toList.length), isLet s.data.toList[j] = true) := fun j hj h2 => by
            by_cases e : j = k
            · subst e; rw [HL.out]; simp [hlo, hhi]
            · exact HJ.out j (by omega) h2
          go_wp2
          go_roundw
          case rel => exact ⟨k + 1, m, by omega, by go_num, HJ2.out, rfl⟩
          case measure => simp [intOf]; omega
        · have hhii : (122 : Int) < (b : Int) := by omega
          have HF : Hid (nameL s.data.toList = false) := by
            have : s.data.toList.all isLet = false := by
              rw [List.all_eq_false]
              exact ⟨_, List.getElem_mem (by rw [hl]; exact hlt), by rw [HL.out]; simp; omega⟩
            simp only [Hid, nameL, this, Bool.and_false]
          go_wp2
          go_ret
          exact ⟨by rw [HF.out]; rfl, bdn (Below.refl _ _) _⟩
      · have hloi : (b : Int) < 97 := by omega
        have HF : Hid (nameL s.data.toList = false) := by
          have : s.data.toList.all isLet = false := by
            rw [List.all_eq_false]
            exact ⟨_, List.getElem_mem (by rw [hl]; exact hlt), by rw [HL.out]; simp; omega⟩
          simp only [Hid, nameL, this, Bool.and_false]
        go_wp2
        go_ret
        exact ⟨by rw [HF.out]; rfl, bdn (Below.refl _ _) _⟩
    · have HT : Hid (nameL s.data.toList = (decide ((1 : Int) ≤ (s.size : Int)) && decide ((s.size : Int) ≤ 16))) := by
        have : s.data.toList.all isLet = true := by
          rw [List.all_eq_true]
          intro x hx
          obtain ⟨j, hj, rfl⟩ := List.getElem_of_mem hx
          exact HJ.out j (by rw [hl] at hj; omega) hj
        simp only [Hid, nameL, this, hl, Bool.and_true]
        congr 1 <;> rw [decide_eq_decide] <;> omega
      obtain rfl : k = s.size := by omega
      have hki : ¬ (s.size : Int) < (s.size : Int) := by omega
      by_cases h1 : (1 : Int) ≤ (s.size : Int) <;> by_cases h2 : (s.size : Int) ≤ 16 <;>
      · go_wp2
        go_ret
        exact ⟨by rw [HT.out]; simp [h1, h2], bdn (Below.refl _ _) _⟩
end Go.Proofs.YtgldkmabhmlijaaGreatDoor
