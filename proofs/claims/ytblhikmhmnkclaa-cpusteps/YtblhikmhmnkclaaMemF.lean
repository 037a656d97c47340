/- What Load and Store of the law's own memory do. -/
import Derived.Test.YtblhikmhmnkclaaMem
namespace Go.Proofs.Ytblhikmhmnkclaa.Fl
open Go.RowKit Go.Lib
variable {K : Nat → Prop}
set_option maxRecDepth 100000 in
set_option maxHeartbeats 1000000 in
theorem Load_yes (base Bb a n : Nat) (need : Int) (d : List UInt8) (ls : List (Nat × Bool)) (w : World) (h : BAt K w base Bb d ls) (hf : a + n ≤ d.length) :
    Calls Try.prog 67 #[.agg #[.pointer (some ⟨Bb, 0, none⟩)], .int .u64 a, .int .i64 n, .int .i64 need] w fun e w' => e = .returned (.tuple #[.string ⟨((d.drop a).take n).toArray⟩, .int .i64 0]) ∧ Below w.heap.size w w' := by
  have hlen := h.len
  have hb1 : Below w.heap.size w (w.alloc (.cells #[.pointer (some ⟨Bb, 0, none⟩)] 35)) := (Below.refl _ _).alloc (Nat.le_refl _) _
  have hc : wrap64 (a : Int) = a := wrap64_id (by omega) (by omega)
  have hg : ¬ (1048576 : Int) < (a : Int) := by omega
  have HR := Lib.hid (Read_any base Bb a n d ls _ (h.below hb1) hf)
  clear h
  go_enter Try.func67, Try.ntmps67
  go_wp2_with (first
    | (go_at_call 10; refine HR.out.mono ?_; rintro e w2 ⟨rfl, hb2⟩))
  go_ret2
  exact ⟨rfl, hb1.trans (hb2.mono hb1.size)⟩
set_option maxRecDepth 100000 in
set_option maxHeartbeats 1000000 in
theorem Load_no (base Bb : Nat) (a : Int) (n : Nat) (need : Int) (d : List UInt8) (ls : List (Nat × Bool)) (w : World) (h : BAt K w base Bb d ls) (h0 : 0 ≤ a) (hf : ¬ a + n ≤ d.length) :
    Calls Try.prog 67 #[.agg #[.pointer (some ⟨Bb, 0, none⟩)], .int .u64 a, .int .i64 n, .int .i64 need] w fun e w' => e = .returned (.tuple #[.string ⟨#[]⟩, .int .i64 9]) ∧ Below w.heap.size w w' := by
  have hlen := h.len
  have hb1 : Below w.heap.size w (w.alloc (.cells #[.pointer (some ⟨Bb, 0, none⟩)] 35)) := (Below.refl _ _).alloc (Nat.le_refl _) _
  by_cases ha : (1048576 : Int) < a
  · clear h
    go_enter Try.func67, Try.ntmps67
    go_wp2_with fail
    go_ret2
    exact ⟨rfl, hb1⟩
  · have hc : wrap64 (a : Int) = a := wrap64_id (by omega) (by omega)
    have HR := Lib.hid (Read_no base Bb a n d ls _ (h.below hb1) (by omega) (by simp [fitsB]; omega))
    clear h
    go_enter Try.func67, Try.ntmps67
    go_wp2_with (first
      | (go_at_call 10; refine HR.out.mono ?_; rintro e w2 ⟨rfl, hb2⟩))
    go_ret2
    exact ⟨rfl, hb1.trans (hb2.mono hb1.size)⟩
set_option maxRecDepth 100000 in
set_option maxHeartbeats 1000000 in
theorem Store_yes (base Bb a : Nat) (s : ByteArray) (d : List UInt8) (ls : List (Nat × Bool)) (w : World) (h : BAt K w base Bb d ls) (hf : a + s.size ≤ d.length) :
    Calls Try.prog 68 #[.agg #[.pointer (some ⟨Bb, 0, none⟩)], .int .u64 a, .string s] w fun e w' => e = .returned (.int .i64 0) ∧ (∃ ls', BAt K w' base Bb (over d a s.data.toList) ls') ∧ Below base w w' ∧ Fr K w w' := by
  have hlen := h.len
  have hbs := size_of_blk h
  have hb1 : Below w.heap.size w (w.alloc (.cells #[.pointer (some ⟨Bb, 0, none⟩)] 35)) := (Below.refl _ _).alloc (Nat.le_refl _) _
  have hc : wrap64 (a : Int) = a := wrap64_id (by omega) (by omega)
  have hg : ¬ (1048576 : Int) < (a : Int) := by omega
  have HR := Write_yes base Bb a s d ls _ (h.below hb1) hf
  rw [show (w.alloc (.cells #[.pointer (some ⟨Bb, 0, none⟩)] 35)).heap.size = w.heap.size + 1 from by simp] at HR
  have HR := Lib.hid HR
  clear h
  go_enter Try.func68, Try.ntmps68
  go_wp2_with (first
    | (go_at_call 7; refine HR.out.mono ?_; rintro e w2 ⟨rfl, hA, hB, hF⟩))
  go_ret
  exact ⟨rfl, hA, (hb1.mono hbs).trans hB, (Fr.below hb1).trans hF⟩
set_option maxRecDepth 100000 in
set_option maxHeartbeats 1000000 in
theorem Store_no (base Bb : Nat) (a : Int) (s : ByteArray) (d : List UInt8) (ls : List (Nat × Bool)) (w : World) (h : BAt K w base Bb d ls) (h0 : 0 ≤ a) (hs : s.size ≤ 8) (hf : ¬ a + s.size ≤ d.length) :
    Calls Try.prog 68 #[.agg #[.pointer (some ⟨Bb, 0, none⟩)], .int .u64 a, .string s] w fun e w' => e = .returned (.int .i64 9) ∧ Below w.heap.size w w' := by
  have hlen := h.len
  have hb1 : Below w.heap.size w (w.alloc (.cells #[.pointer (some ⟨Bb, 0, none⟩)] 35)) := (Below.refl _ _).alloc (Nat.le_refl _) _
  by_cases ha : (1048576 : Int) < a
  · clear h
    go_enter Try.func68, Try.ntmps68
    go_wp2_with fail
    go_ret
    exact ⟨rfl, hb1⟩
  · have hc : wrap64 (a : Int) = a := wrap64_id (by omega) (by omega)
    have HR := Write_no base Bb a s d ls _ (h.below hb1) (by omega) (by omega) (by omega)
    rw [show (w.alloc (.cells #[.pointer (some ⟨Bb, 0, none⟩)] 35)).heap.size = w.heap.size + 1 from by simp] at HR
    have HR := Lib.hid HR
    clear h
    go_enter Try.func68, Try.ntmps68
    go_wp2_with (first
      | (go_at_call 7; refine HR.out.mono ?_; rintro e w2 ⟨rfl, hB⟩))
    go_ret
    exact ⟨rfl, hb1.trans (hB.mono (by simp))⟩
/-- The memory as a value. -/
def memV (Bb : Nat) : Value := .iface 35 (.agg #[.pointer (some ⟨Bb, 0, none⟩)])
set_option maxRecDepth 100000 in
set_option maxHeartbeats 1000000 in
theorem load_yes (base Bb a n : Nat) (need : Int) (d : List UInt8) (ls : List (Nat × Bool)) (w : World) (h : BAt K w base Bb d ls) (hf : a + n ≤ d.length) :
    Calls Try.prog 16 #[memV Bb, .int .u64 a, .int .i64 n, .int .i64 need] w fun e w' => e = .returned (.tuple #[.string ⟨((d.drop a).take n).toArray⟩, .bool true]) ∧ Below w.heap.size w w' := by
  have HL := Lib.hid (Load_yes base Bb a n need d ls w h hf)
  obtain ⟨S, hS⟩ : ∃ S : ByteArray, (⟨((d.drop a).take n).toArray⟩ : ByteArray) = S := ⟨_, rfl⟩
  have hz : S.size = n := by rw [← hS]; show (List.toArray _).size = n; simp; omega
  rw [hS] at HL ⊢
  clear hS h
  unfold memV
  go_enter Try.func16, Try.ntmps16
  go_wp2_with (first
    | (go_at_call 67; refine HL.out.mono ?_; rintro e w1 ⟨rfl, hb⟩))
  go_ret2
  exact ⟨rfl, hb⟩
set_option maxRecDepth 100000 in
set_option maxHeartbeats 1000000 in
theorem load_no (base Bb : Nat) (a : Int) (n : Nat) (need : Int) (d : List UInt8) (ls : List (Nat × Bool)) (w : World) (h : BAt K w base Bb d ls) (h0 : 0 ≤ a) (hf : ¬ a + n ≤ d.length) :
    Calls Try.prog 16 #[memV Bb, .int .u64 a, .int .i64 n, .int .i64 need] w fun e w' => e = .returned (.tuple #[.string ⟨#[]⟩, .bool false]) ∧ Below w.heap.size w w' := by
  have HL := Lib.hid (Load_no base Bb a n need d ls w h h0 hf)
  clear h
  unfold memV
  go_enter Try.func16, Try.ntmps16
  go_wp2_with (first
    | (go_at_call 67; refine HL.out.mono ?_; rintro e w1 ⟨rfl, hb⟩))
  go_ret2
  exact ⟨rfl, hb⟩
end Go.Proofs.Ytblhikmhmnkclaa.Fl
