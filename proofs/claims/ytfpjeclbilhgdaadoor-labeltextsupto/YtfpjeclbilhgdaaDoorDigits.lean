/- What Digits, Number, r and Text of the references answer. -/
import Derived.Test.YtfpjeclbilhgdaaDoorAppInt
namespace Go.Proofs.YtfpjeclbilhgdaaDoor
open Go.RowKit Go.Sort
theorem nDig_le (u : Nat) (h : u < 18446744073709551616) : Lib.nDigits u ≤ 20 := by
  rcases Nat.eq_zero_or_pos u with rfl | h1
  · unfold Lib.nDigits; simp
  · have := Lib.numDigits_eq u h1 h; split at this <;> omega
def digB (n : Nat) : ByteArray := ⟨(Lib.decDigits n).toArray⟩
theorem conv1 (w : World) (x : Int) (h : 0 ≤ x ∧ x < 256) : Sem.run Tryd.prog (convert 39 9 (.slice (some ⟨w.heap.size, 0, none⟩) 1 1)) (w.alloc (.cells #[.int .u8 x] 5)) = .ok (.string ⟨#[UInt8.ofNat x.toNat]⟩) (w.alloc (.cells #[.int .u8 x] 5)) := by
  have := run_convert_bytes_back (P := Tryd.prog) (w.alloc (.cells #[.int .u8 x] 5)) 39 9 5 ⟨w.heap.size, 0, none⟩ 1 [UInt8.ofNat x.toNat] Tryd.underlying39 Tryd.underlying5 Tryd.underlying9 (fun j hj => by
    have hj0 : j = 0 := by simp at hj; exact hj
    subst hj0
    show (w.alloc (.cells #[.int .u8 x] 5)).cell? ⟨w.heap.size, 0, none⟩ = some (.int .u8 ((UInt8.ofNat x.toNat).toNat : Int))
    rw [World.cell?_alloc_new, UInt8.toNat_ofNat']
    simp; omega)
  exact this
set_option maxRecDepth 100000 in
set_option maxHeartbeats 2000000 in
theorem Digits_any (n : Nat) (w : World) (hn : n < 4611686018427387904) : Calls Tryd.prog 23 #[.int .i64 n] w fun e w' => e = .returned (.string (digB n)) ∧ Below w.heap.size w w' := by
  have hni : ¬ (n : Int) < 0 := by omega
  go_enter Tryd.func23, Tryd.ntmps23
  go_wp2
  go_loopw [0, 3] (fun x r wr => ∃ (m : Nat) (q : ByteArray), m ≤ n ∧ x = .int .i64 m ∧ r = .string q ∧ Lib.decDigits n = Lib.decDigits m ++ q.data.toList ∧ Below w.heap.size w wr) (fun x _ _ => (intOf x).toNat)
  case atStart => exact ⟨n, ⟨#[]⟩, Nat.le_refl _, rfl, rfl, by simp, Below.refl _ _⟩
  case round =>
    obtain ⟨m, q, hm, rfl, rfl, hq, hB⟩ := hrel
    have HQ := Lib.hid hq
    clear hq
    have hmi : (0 : Int) ≤ (m : Int) := by omega
    have hqs : q.size ≤ 20 := by
      have h1 := congrArg List.length HQ.out
      rw [Lib.decDigits_length, List.length_append] at h1
      have h2 := nDig_le n (by omega)
      have h3 : q.data.toList.length = q.size := by simp
      omega
    have hcv := conv1 wr (48 + (m : Int) % 10) (by omega)
    obtain ⟨dg, hdg⟩ : ∃ dg, dg = UInt8.ofNat (48 + (m : Int) % 10).toNat := ⟨_, rfl⟩
    rw [← hdg] at hcv
    have HDg : Hid (dg = UInt8.ofNat (48 + m % 10)) := by rw [hdg]; congr 1
    clear hdg
    have h1s : (⟨#[dg]⟩ : ByteArray).size = 1 := rfl
    have hsz : (⟨#[dg]⟩ : ByteArray).size + q.size ≤ 9223372036854775807 := by omega
    by_cases hlt : m < 10
    · have HR : Hid (digB n = ⟨#[dg]⟩ ++ q) := by
        apply ByteArray.ext
        show (Lib.decDigits n).toArray = _
        rw [HQ.out, Lib.decDigits, dif_pos hlt, HDg.out, show m % 10 = m from by omega]
        simp [ByteArray.data_append]
      have hdz : (m : Int) / 10 = 0 := by omega
      go_wp2
      go_ret
      exact ⟨by rw [HR.out]; rfl, hB.alloc hB.size _⟩
    · have HR : Hid (Lib.decDigits n = Lib.decDigits (m / 10) ++ (⟨#[dg]⟩ ++ q : ByteArray).data.toList) := by
        simp only [Hid]
        rw [HQ.out, Lib.decDigits, dif_neg hlt, HDg.out]
        simp [ByteArray.data_append]
      have hdz : ((m : Int) / 10 == 0) = false := by simp; omega
      generalize hqq : (⟨#[dg]⟩ ++ q : ByteArray) = q' at HR
      go_wp2
      go_roundw
      case rel => exact ⟨m / 10, q', by omega, by go_num, rfl, HR.out, hB.alloc hB.size _⟩
      case measure => simp [intOf]; omega
end Go.Proofs.YtfpjeclbilhgdaaDoor
