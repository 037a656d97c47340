/- The word that four bytes are. -/
import Derived.Test.YtfcmgodeehjnoaaDoorSmall
namespace Go.Proofs.YtfcmgodeehjnoaaDoor
open Go.RowKit Go.Sort
def w4 (a b c d : UInt8) : Nat := a.toNat * 16777216 + b.toNat * 65536 + c.toNat * 256 + d.toNat
theorem w4_lt (a b c d : UInt8) : w4 a b c d < 4294967296 := by
  have := a.toNat_lt; have := b.toNat_lt; have := c.toNat_lt; have := d.toNat_lt
  unfold w4; omega
theorem u8w (n : Nat) (h : n < 256) : IntKind.u32.wrap (n : Int) = (n : Int) := by rw [IntKind.wrap_u32']; omega
theorem w4_or (a b c d : Nat) (ha : a < 256) (hb : b < 256) (hc : c < 256) (hd : d < 256) :
    bits .or .u32 (bits .or .u32 (bits .or .u32 ((a : Int) * 16777216) ((b : Int) * 65536)) ((c : Int) * 256)) (d : Int) = ((a * 16777216 + b * 65536 + c * 256 + d : Nat) : Int) := by
  rw [show (a : Int) * 16777216 = ((a * 16777216 : Nat) : Int) from by simp, show (b : Int) * 65536 = ((b * 65536 : Nat) : Int) from by simp, show (c : Int) * 256 = ((c * 256 : Nat) : Int) from by simp]
  rw [u32_or_nat _ _ (by omega) (by omega), nat_join 24 _ _ (by omega) (by omega), u32_or_nat _ _ (by omega) (by omega), nat_join 16 _ _ (by omega) (by omega), u32_or_nat _ _ (by omega) (by omega), nat_join 8 _ _ (by omega) (by omega)]
set_option maxRecDepth 100000 in
set_option maxHeartbeats 1000000 in
theorem word_any (g o len cap : Nat) (a b c d : UInt8) (w : World) (hl : 4 ≤ len) (h0 : w.cell? ⟨g, o, none⟩ = some (.int .u8 (a.toNat : Int))) (h1 : w.cell? ⟨g, o + 1, none⟩ = some (.int .u8 (b.toNat : Int)))
    (h2 : w.cell? ⟨g, o + 2, none⟩ = some (.int .u8 (c.toNat : Int))) (h3 : w.cell? ⟨g, o + 3, none⟩ = some (.int .u8 (d.toNat : Int))) :
    Calls Tryd.prog 34 #[.slice (some ⟨g, o, none⟩) len cap] w fun e w' => e = .returned (.int .u32 (w4 a b c d : Nat)) ∧ Drew w w' := by
  have ba := a.toNat_lt; have bb := b.toNat_lt; have bc := c.toNat_lt; have bd := d.toNat_lt
  have l0 : (0 : Int) < (len : Int) := by omega
  have l1 : (1 : Int) < (len : Int) := by omega
  have l2 : (2 : Int) < (len : Int) := by omega
  have l3 : (3 : Int) < (len : Int) := by omega
  have HO := Lib.hid (w4_or _ _ _ _ ba bb bc bd)
  go_enter Tryd.func34, Tryd.ntmps34
  go_upto_region 1 with fail
  go_quiet (fail)
  go_wp2
  go_ret
  exact ⟨ret_u32 HO.out, _, rfl⟩
end Go.Proofs.YtfcmgodeehjnoaaDoor
