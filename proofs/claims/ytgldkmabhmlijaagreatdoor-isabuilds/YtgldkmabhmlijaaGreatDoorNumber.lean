/- What Number, r and Text of the reference answer. -/
import Derived.Test.YtgldkmabhmlijaaGreatDoorDigits
namespace Go.Proofs.YtgldkmabhmlijaaGreatDoor
open Go.RowKit Go.Sort
theorem itoaB_nat (n : Nat) : (⟨(Lib.itoa (n : Int)).toArray⟩ : ByteArray) = digB n := by
  unfold Lib.itoa digB; rw [if_neg (by omega)]; rfl
set_option maxRecDepth 100000 in
theorem Number_any (n : Int) (w : World) (h : -1000000 ≤ n ∧ n ≤ 1000000) : Calls Tryz.prog 26 #[.int .i64 n] w fun e w' => e = .returned (.string ⟨(Lib.itoa n).toArray⟩) ∧ Below w.heap.size w w' := by
  by_cases hn : n < 0
  · obtain ⟨m, rfl⟩ : ∃ m : Nat, n = -(m : Int) := ⟨(-n).toNat, by omega⟩
    have HD := Lib.hid (fun W => Digits_any m W (by omega))
    have HI : Hid ((⟨(Lib.itoa (-(m : Int))).toArray⟩ : ByteArray) = ⟨#[45]⟩ ++ digB m) := by
      apply ByteArray.ext
      show (Lib.itoa (-(m : Int))).toArray = _
      unfold Lib.itoa; rw [if_pos hn, show (-(m : Int)).natAbs = m from by omega]
      simp [ByteArray.data_append, digB]
    have hsz : (digB m).size ≤ 20 := by
      show (Lib.decDigits m).length ≤ 20
      rw [Lib.decDigits_length]; exact nDig_le m (by omega)
    have hs2 : (⟨#[45]⟩ : ByteArray).size + (digB m).size ≤ 9223372036854775807 := by
      have : (⟨#[45]⟩ : ByteArray).size = 1 := rfl
      omega
    generalize digB m = q at *
    go_enter Tryz.func26, Tryz.ntmps26
    go_wp2_with (go_at_call 40; refine (HD.out _).mono ?_; rintro e w1 ⟨rfl, hb1⟩)
    go_ret
    exact ⟨by rw [HI.out]; rfl, hb1⟩
  · obtain ⟨m, rfl⟩ : ∃ m : Nat, n = (m : Int) := ⟨n.toNat, by omega⟩
    rw [itoaB_nat]
    have HD := Lib.hid (fun W => Digits_any m W (by omega))
    go_enter Tryz.func26, Tryz.ntmps26
    go_wp2_with (go_at_call 40; refine (HD.out _).mono ?_; rintro e w1 ⟨rfl, hb1⟩)
    go_ret
    exact ⟨rfl, hb1⟩
set_option maxRecDepth 100000 in
theorem r_any (n : Int) (w : World) (h : 0 ≤ n ∧ n ≤ 1000000) : Calls Tryz.prog 25 #[.int .i64 n] w fun e w' => e = .returned (.string ⟨(32 :: 114 :: Lib.itoa n).toArray⟩) ∧ Below w.heap.size w w' := by
  obtain ⟨m, rfl⟩ : ∃ m : Nat, n = (m : Int) := ⟨n.toNat, by omega⟩
  have HD := Lib.hid (fun W => Digits_any m W (by omega))
  have HI : Hid ((⟨(32 :: 114 :: Lib.itoa (m : Int)).toArray⟩ : ByteArray) = ⟨#[32, 114]⟩ ++ digB m) := by
    apply ByteArray.ext
    show (32 :: 114 :: Lib.itoa (m : Int)).toArray = _
    unfold Lib.itoa; rw [if_neg (by omega)]
    simp [ByteArray.data_append, digB]
  have hsz : (digB m).size ≤ 20 := by
    show (Lib.decDigits m).length ≤ 20
    rw [Lib.decDigits_length]; exact nDig_le m (by omega)
  have hs2 : (⟨#[32, 114]⟩ : ByteArray).size + (digB m).size ≤ 9223372036854775807 := by
    have : (⟨#[32, 114]⟩ : ByteArray).size = 2 := rfl
    omega
  generalize digB m = q at *
  go_enter Tryz.func25, Tryz.ntmps25
  go_wp2_with (go_at_call 40; refine (HD.out _).mono ?_; rintro e w1 ⟨rfl, hb1⟩)
  go_ret
  exact ⟨by rw [HI.out]; rfl, hb1⟩
end Go.Proofs.YtgldkmabhmlijaaGreatDoor
