/- What stands behind the bytes of a text. -/
import Derived.Test.YtfcmgodeehjnoaaDoorRev
import Derived.Test.YtfcmgodeehjnoaaDoorShelf
namespace Go.Proofs
open Go.Shelf Go.RowKit
theorem Tryd.Builder_Extra_105 : Builder.Extra Tryd.prog Tryd.lays105_ren where
  sizeBuilder := by kernel_rfl
  liesBuilder := by kernel_rfl
  t5 := Tryd.underlying5
  a5 := Tryd.isAgg5
  z5 := Tryd.sizeOf5
  v5 := Tryd.zeroValue5
  infoByte := by kernel_rfl
  cellsByte := by kernel_rfl
  sizeByte := by kernel_rfl
  neB5 := by decide
theorem Tryd.strings_Repeat (s : ByteArray) (c : Nat) (w : World) (hc : c ≤ 9223372036854775807) (hlen : s.size * c ≤ 140737488355328) :
    Calls Tryd.prog 32 #[.string s, .int .i64 c] w fun e w' => e = .returned (.string ⟨(Lib.repeatL s.data.toList c).toArray⟩) ∧ Below w.heap.size w w' := Any.strings_Repeat Tryd.lays105 Tryd.Builder_Extra_105 s c w hc hlen
end Go.Proofs
namespace Go.Proofs.YtfcmgodeehjnoaaDoor
open Go.RowKit Go.Sort
/-- A one, zeros, and how many bits there were. -/
def endL (n : Nat) : List UInt8 := (0x80 : UInt8) :: (List.replicate ((119 - n % 64) % 64) 0 ++ bytes8 (n * 8))
theorem rep_zero : ∀ c : Nat, Lib.repeatL [0] c = List.replicate c 0
  | 0 => rfl
  | c + 1 => by rw [Lib.repeatL, rep_zero c]; rfl
theorem end_str (n : Nat) : (⟨#[128]⟩ : ByteArray) ++ ⟨(List.replicate ((119 - n % 64) % 64) (0 : UInt8)).toArray⟩ ++ ⟨(bytes8 (n * 8)).toArray⟩ = ⟨(endL n).toArray⟩ := by
  apply ByteArray.ext
  apply Array.ext'
  simp [endL]
set_option maxRecDepth 100000 in
set_option maxHeartbeats 1000000 in
theorem ending_any (n : Nat) (w : World) (hn : n ≤ 8000) : Calls Tryd.prog 25 #[.int .i64 (n : Int)] w fun e w' => e = .returned (.string ⟨(endL n).toArray⟩) ∧ Below w.heap.size w w' := by
  have hR := fun W : World => Tryd.strings_Repeat ⟨#[0]⟩ ((119 - n % 64) % 64) W (by omega) (by show 1 * _ ≤ _; omega)
  have hL : Lib.repeatL (⟨#[0]⟩ : ByteArray).data.toList ((119 - n % 64) % 64) = List.replicate ((119 - n % 64) % 64) 0 := rep_zero _
  rw [hL] at hR
  have hH := fun W : World => highFirst_any (n * 8) W (by omega)
  have HE := Lib.hid (end_str n)
  have e2 : (128 - (n : Int) % 64 - 9) % 64 = (((119 - n % 64) % 64 : Nat) : Int) := by omega
  have e3 : IntKind.u64.wrap (n : Int) = (n : Int) := by rw [IntKind.wrap_u64]; omega
  have e4 : IntKind.u64.wrap (8 * (n : Int)) = ((n * 8 : Nat) : Int) := by rw [IntKind.wrap_u64]; omega
  have hm : n % 64 < 64 := Nat.mod_lt _ (by decide)
  have hg : (119 - n % 64) % 64 < 64 := Nat.mod_lt _ (by decide)
  generalize (119 - n % 64) % 64 = gap at *
  generalize n * 8 = nb at *
  have hb8 : (bytes8 nb).length = 8 := rfl
  have hg2 : ¬ 9223372036854775807 < 1 + gap := by omega
  have hg3 : ¬ 9223372036854775807 < 1 + gap + 8 := by omega
  have hg4 : ¬ 9223372036854775807 < 1 + (gap + 8) := by omega
  go_enter Tryd.func25, Tryd.ntmps25
  go_wp2_with (first
    | (go_at_call 32; refine (hR _).mono ?_; rintro e w1 ⟨rfl, hb1⟩)
    | (go_at_call 33; refine (hH _).mono ?_; rintro e w2 ⟨rfl, hb2⟩))
  go_ret
  refine ⟨?_, hb1.trans (hb2.mono hb1.size)⟩
  rw [← HE.out]
  rfl
end Go.Proofs.YtfcmgodeehjnoaaDoor
