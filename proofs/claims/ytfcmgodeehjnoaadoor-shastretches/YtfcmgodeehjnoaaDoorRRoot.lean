/- The first bits of a root, as the reference finds them. -/
import Derived.Test.YtfcmgodeehjnoaaDoorRFits
namespace Go.Proofs.YtfcmgodeehjnoaaDoor
open Go.RowKit Go.Sort
theorem rootR_succ (p e k x : Nat) : rootR p e (k + 1) x = rootR p e k (if fitsR (x + 2 ^ k) p e = true then x + 2 ^ k else x) := by rw [rootR]
theorem half_pow (k : Nat) : 2 ^ (k + 1) / 2 = 2 ^ k := by rw [Nat.pow_succ]; omega
set_option maxRecDepth 100000 in
set_option maxHeartbeats 1000000 in
theorem root_any (p e : Nat) (w : World) (he : e < 10) (he0 : 0 < e) : Calls Tryd.prog 14 #[.int .u64 (p : Int), .int .i64 (e : Int)] w fun r w' => r = .returned (.int .u32 ((rootR p e 37 0 % 4294967296 : Nat) : Int)) ∧ Below w.heap.size w w' := by
  obtain ⟨R, hR⟩ : ∃ R, rootR p e 37 0 = R := ⟨_, rfl⟩
  have HR := Lib.hid hR
  have HF := Lib.hid (fun x W (h : x < 18446744073709551616) => fits_any x p e W h he he0)
  rw [hR]
  clear hR
  go_enter Tryd.func14, Tryd.ntmps14
  go_wp2_with fail
  go_loopw [5, 6] (fun xv bv wr => ∃ k x b : Nat, xv = .int .u64 x ∧ bv = .int .u64 b ∧ b = 2 ^ k / 2 ∧ k ≤ 37 ∧ x + 2 ^ k ≤ 137438953472 ∧ rootR p e k x = R ∧ Below w.heap.size w wr) (fun _ bv _ => (intOf bv).toNat)
  case atStart => exact ⟨37, 0, 68719476736, rfl, rfl, by decide, by omega, by decide, HR.out, Below.refl _ _⟩
  case round =>
    obtain ⟨k, x, b, rfl, rfl, hb, hk, hx, hr, hbr⟩ := hrel
    cases k with
    | zero =>
      have hb0 : b = 0 := hb
      subst hb0
      have hx2 : x = R := hr
      subst hx2
      have hw : IntKind.u32.wrap (x : Int) = ((x % 4294967296 : Nat) : Int) := by rw [IntKind.wrap_u32']; omega
      clear hr hx hb
      go_wp2
      go_ret
      exact ⟨ret_u32 (by first | rfl | omega), hbr⟩
    | succ m =>
      rw [half_pow] at hb
      rw [rootR_succ] at hr
      have hpm : 2 ^ (m + 1) = 2 ^ m + 2 ^ m := by rw [Nat.pow_succ]; omega
      have hpos : 0 < 2 ^ m := Nat.pow_pos (by decide)
      rw [hpm] at hx
      have HN : Hid (b / 2 = 2 ^ m / 2) := Lib.hid (by rw [hb])
      rw [← hb] at hr hx hpos
      have hb0 : (0 : Int) < (b : Int) := by omega
      have hw1 : IntKind.u64.wrap ((x : Int) + (b : Int)) = ((x + b : Nat) : Int) := by rw [IntKind.wrap_u64]; omega
      have hw2 : (b : Int) / 2 = ((b / 2 : Nat) : Int) := by omega
      have hw3 : IntKind.u64.wrap ((b / 2 : Nat) : Int) = ((b / 2 : Nat) : Int) := by rw [IntKind.wrap_u64]; omega
      obtain ⟨y, hy⟩ : ∃ y, x + b = y := ⟨_, rfl⟩
      rw [hy] at hw1 hr
      have HC := Lib.hid (HF.out y wr (by omega))
      have HB2 : Hid (2 * (b / 2) ≤ b) := Lib.hid (by omega)
      obtain ⟨b2, hb2⟩ : ∃ b2, b / 2 = b2 := ⟨_, rfl⟩
      rw [hb2] at hw2 hw3 HN HB2
      have HX : Hid (x + b + b ≤ 137438953472) := Lib.hid (by omega)
      have HY := Lib.hid hy
      have HBm : Hid (b = 2 ^ m) := Lib.hid hb
      have HB := Lib.hid hbr
      have Hr := Lib.hid hr
      have HK := Lib.hid hk
      have HP := Lib.hid hpos
      have HLt : Hid (b2 < b) := Lib.hid (by omega)
      cases hf : fitsR y p e
      · rw [hf] at HC Hr
        clear hr hx hb hpm hpos hk hbr hy hf hb2
        go_wp2_with (go_at_call 21; refine HC.out.mono ?_; rintro r w2 ⟨rfl, hb3⟩)
        refine ⟨⟨m, x, b2, rfl, rfl, HN.out, by have := HK.out; omega, by have := HX.out; have := HBm.out; omega, Hr.out, HB.out.trans (hb3.mono HB.out.size)⟩, by simp only [intOf]; have := HLt.out; omega⟩
      · rw [hf] at HC Hr
        clear hr hx hb hpm hpos hk hbr hy hf hb2
        go_wp2_with (go_at_call 21; refine HC.out.mono ?_; rintro r w2 ⟨rfl, hb3⟩)
        refine ⟨⟨m, y, b2, rfl, rfl, HN.out, by have := HK.out; omega, by have := HX.out; have := HY.out; have := HBm.out; omega, Hr.out, HB.out.trans (hb3.mono HB.out.size)⟩, by simp only [intOf]; have := HLt.out; omega⟩
end Go.Proofs.YtfcmgodeehjnoaaDoor
