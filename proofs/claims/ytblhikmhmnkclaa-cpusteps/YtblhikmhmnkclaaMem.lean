/- What Load and Store of a memory of plain bytes do. -/
import Derived.Test.YtblhikmhmnkclaaRead
import Derived.Test.YtblhikmhmnkclaaNum
import Derived.Test.YtblhikmhmnkclaaRes
namespace Go.Proofs.Ytblhikmhmnkclaa
open Go.RowKit Go.Lib
variable {K : Nat → Prop}
theorem len_u64 {n : Nat} (h : n ≤ 4096) : IntKind.u64.wrap (n : Int) = n := by rw [IntKind.wrap_u64]; omega
theorem within_any (base Bb : Nat) (addr : Int) (d : List UInt8) (ls : List (Nat × Bool)) (w : World) (h : BAt K w base Bb d ls) :
    Calls Try.prog 71 #[.agg #[.pointer (some ⟨Bb, 0, none⟩)], .int .u64 addr] w fun e w' => e = .returned (.bool (decide (addr ≤ d.length))) ∧ Below w.heap.size w w' := by
  have hl := len_u64 h.len
  have hb1 : Below w.heap.size w (w.alloc (.cells #[.pointer (some ⟨Bb, 0, none⟩)] 62)) := (Below.refl _ _).alloc (Nat.le_refl _) _
  have HL := Lib.hid (Len_any (h.below hb1))
  clear h
  go_enter Try.func71, Try.ntmps71
  go_wp2_with (first | (go_at_call 23; refine HL.out.mono ?_; rintro e w' ⟨rfl, hw'⟩; rw [hw']; clear hw' w'))
  go_ret
  exact ⟨rfl, hb1⟩
set_option maxRecDepth 100000 in
set_option maxHeartbeats 1000000 in
theorem Load_yes (base Bb a n : Nat) (need : Int) (d : List UInt8) (ls : List (Nat × Bool)) (w : World) (h : BAt K w base Bb d ls) (hf : a + n ≤ d.length) :
    Calls Try.prog 69 #[.agg #[.pointer (some ⟨Bb, 0, none⟩)], .int .u64 a, .int .i64 n, .int .i64 need] w fun e w' => e = .returned (.tuple #[.string ⟨((d.drop a).take n).toArray⟩, .int .i64 0]) ∧ Below w.heap.size w w' := by
  have hlen := h.len
  have hb1 : Below w.heap.size w (w.alloc (.cells #[.pointer (some ⟨Bb, 0, none⟩)] 62)) := (Below.refl _ _).alloc (Nat.le_refl _) _
  have HW := Lib.hid (within_any base Bb a d ls _ (h.below hb1))
  have hd : decide ((a : Int) ≤ (d.length : Int)) = true := by simp; omega
  rw [hd] at HW
  have hc : wrap64 (a : Int) = a := wrap64_id (by omega) (by omega)
  have h1 := h.below hb1
  clear h hd
  go_enter Try.func69, Try.ntmps69
  go_wp2_with (first
    | (go_at_call 71; refine HW.out.mono ?_; rintro e w1 ⟨rfl, hbw⟩; refine Hid.out ?_))
  refine Lib.hid ?_
  have hs1 := hbw.size
  have hbw1 : w1.heap[w.heap.size]? = some (.cells #[.pointer (some ⟨Bb, 0, none⟩)] 62 (0, 0)) := (hbw.block _ (by simp)).trans (heap_new _ _)
  have c1 : w1.cell? ⟨w.heap.size, 0, none⟩ = some (.pointer (some ⟨Bb, 0, none⟩)) := by simp [World.cell?, hbw1]
  have HR := Lib.hid (Read_any base Bb a n d ls w1 (h1.below hbw) hf)
  have hB1 : Below w.heap.size w w1 := hb1.trans (hbw.mono (by simp))
  clear hbw hbw1 h1
  go_wp2_with (first
    | (go_at_call 10; refine HR.out.mono ?_; rintro e w2 ⟨rfl, hb2⟩))
  go_ret2
  exact ⟨rfl, hB1.trans (hb2.mono hB1.size)⟩
set_option maxRecDepth 100000 in
set_option maxHeartbeats 1000000 in
theorem Load_no (base Bb : Nat) (a : Int) (n : Nat) (need : Int) (d : List UInt8) (ls : List (Nat × Bool)) (w : World) (h : BAt K w base Bb d ls) (h0 : 0 ≤ a) (hf : ¬ a + n ≤ d.length) :
    Calls Try.prog 69 #[.agg #[.pointer (some ⟨Bb, 0, none⟩)], .int .u64 a, .int .i64 n, .int .i64 need] w fun e w' => e = .returned (.tuple #[.string ⟨#[]⟩, .int .i64 9]) ∧ Below w.heap.size w w' := by
  have hlen := h.len
  have hb1 : Below w.heap.size w (w.alloc (.cells #[.pointer (some ⟨Bb, 0, none⟩)] 62)) := (Below.refl _ _).alloc (Nat.le_refl _) _
  have HW := Lib.hid (within_any base Bb a d ls _ (h.below hb1))
  have h1 := h.below hb1
  clear h
  by_cases ha : a ≤ d.length
  · have hd : decide ((a : Int) ≤ (d.length : Int)) = true := by simpa using ha
    rw [hd] at HW
    have hc : wrap64 (a : Int) = a := wrap64_id (by omega) (by omega)
    clear hd
    go_enter Try.func69, Try.ntmps69
    go_wp2_with (first
      | (go_at_call 71; refine HW.out.mono ?_; rintro e w1 ⟨rfl, hbw⟩; refine Hid.out ?_))
    refine Lib.hid ?_
    have hs1 := hbw.size
    have hbw1 : w1.heap[w.heap.size]? = some (.cells #[.pointer (some ⟨Bb, 0, none⟩)] 62 (0, 0)) := (hbw.block _ (by simp)).trans (heap_new _ _)
    have c1 : w1.cell? ⟨w.heap.size, 0, none⟩ = some (.pointer (some ⟨Bb, 0, none⟩)) := by simp [World.cell?, hbw1]
    have HR := Lib.hid (Read_no base Bb a n d ls w1 (h1.below hbw) (by omega) (by simp [fitsB]; omega))
    have hB1 : Below w.heap.size w w1 := hb1.trans (hbw.mono (by simp))
    clear hbw hbw1 h1
    go_wp2_with (first
      | (go_at_call 10; refine HR.out.mono ?_; rintro e w2 ⟨rfl, hb2⟩))
    go_ret2
    exact ⟨rfl, hB1.trans (hb2.mono hB1.size)⟩
  · have hd : decide ((a : Int) ≤ (d.length : Int)) = false := by simpa using ha
    rw [hd] at HW
    clear hd
    go_enter Try.func69, Try.ntmps69
    go_wp2_with (first
      | (go_at_call 71; refine HW.out.mono ?_; rintro e w1 ⟨rfl, hbw⟩))
    go_ret2
    exact ⟨rfl, hb1.trans (hbw.mono (by simp))⟩
theorem ps_new (w : World) (l : List ByteArray) : PsAt (w.alloc (.cells (l.map Value.string).toArray 9)) (some ⟨w.heap.size, 0, none⟩) l :=
  .inr ⟨w.heap.size, 0, _, _, rfl, heap_new _ _, fun j h => by simp [h]⟩
theorem size_of_blk {w : World} {base Bb : Nat} {d : List UInt8} {ls : List (Nat × Bool)} (h : BAt K w base Bb d ls) : base ≤ w.heap.size := by
  obtain ⟨v, hv, _⟩ := h.blk; have := (Array.getElem?_eq_some_iff.1 hv).1; have := h.bb; omega
/-- Write of one part. -/
theorem Write_one (base Bb : Nat) (a : Int) (s : ByteArray) (d : List UInt8) (ls : List (Nat × Bool)) (w : World) (h : BAt K w base Bb d ls) (ha : a ≤ 9223372036854775807) (hs : s.size < 4611686018427387904) :
    Calls Try.prog 7 #[.pointer (some ⟨Bb, 0, none⟩), .int .i64 a, .slice (some ⟨w.heap.size, 0, none⟩) 1 1] (w.alloc (.cells #[.string s] 9)) fun e w' =>
      if 0 ≤ a ∧ a + s.size ≤ d.length then e = .returned (.int .i64 0) ∧ (∃ ls', BAt K w' base Bb (over d a.toNat s.data.toList) ls') ∧ Below base w w' ∧ Fr K w w'
      else e = .returned (.int .i64 9) ∧ Below w.heap.size w w' := by
  have hb1 : Below w.heap.size w (w.alloc (.cells #[.string s] 9)) := (Below.refl _ _).alloc (Nat.le_refl _) _
  have := Write_any base Bb d ls _ 1 a [s] _ (h.below hb1) (ps_new w [s]) (by simp [sumL]; omega) (by simp) ha
  refine this.mono ?_
  intro e w2 h2
  by_cases hf : 0 ≤ a ∧ a + s.size ≤ d.length
  · rw [if_pos (by simp [fitsB, sumL]; omega)] at h2
    rw [if_pos hf]
    obtain ⟨h3, ⟨l, hl⟩, hB, hF⟩ := h2
    exact ⟨h3, ⟨l, by simpa [catL] using hl⟩, (hb1.mono (size_of_blk h)).trans hB, (Fr.below hb1).trans hF⟩
  · rw [if_neg (by simp [fitsB, sumL]; omega)] at h2
    rw [if_neg hf]
    obtain ⟨h3, rfl⟩ := h2
    exact ⟨h3, hb1⟩
theorem Write_yes (base Bb a : Nat) (s : ByteArray) (d : List UInt8) (ls : List (Nat × Bool)) (w : World) (h : BAt K w base Bb d ls) (hf : a + s.size ≤ d.length) :
    Calls Try.prog 7 #[.pointer (some ⟨Bb, 0, none⟩), .int .i64 a, .slice (some ⟨w.heap.size, 0, none⟩) 1 1] (w.alloc (.cells #[.string s] 9)) fun e w' =>
      e = .returned (.int .i64 0) ∧ (∃ ls', BAt K w' base Bb (over d a s.data.toList) ls') ∧ Below base w w' ∧ Fr K w w' :=
  (Write_one base Bb a s d ls w h (by have := h.len; omega) (by have := h.len; omega)).mono fun e w' h' => by
    rw [if_pos (by omega), Int.toNat_natCast] at h'
    exact h'
theorem Write_no (base Bb : Nat) (a : Int) (s : ByteArray) (d : List UInt8) (ls : List (Nat × Bool)) (w : World) (h : BAt K w base Bb d ls) (hs : s.size < 4611686018427387904) (ha : a ≤ 9223372036854775807) (hf : ¬ (0 ≤ a ∧ a + s.size ≤ d.length)) :
    Calls Try.prog 7 #[.pointer (some ⟨Bb, 0, none⟩), .int .i64 a, .slice (some ⟨w.heap.size, 0, none⟩) 1 1] (w.alloc (.cells #[.string s] 9)) fun e w' =>
      e = .returned (.int .i64 9) ∧ Below w.heap.size w w' :=
  (Write_one base Bb a s d ls w h ha hs).mono fun e w' h' => by
    rw [if_neg hf] at h'
    exact h'
set_option maxRecDepth 100000 in
set_option maxHeartbeats 1000000 in
theorem Store_yes (base Bb a : Nat) (s : ByteArray) (d : List UInt8) (ls : List (Nat × Bool)) (w : World) (h : BAt K w base Bb d ls) (hf : a + s.size ≤ d.length) :
    Calls Try.prog 70 #[.agg #[.pointer (some ⟨Bb, 0, none⟩)], .int .u64 a, .string s] w fun e w' => e = .returned (.int .i64 0) ∧ (∃ ls', BAt K w' base Bb (over d a s.data.toList) ls') ∧ Below base w w' ∧ Fr K w w' := by
  have hlen := h.len
  have hbs := size_of_blk h
  have hb1 : Below w.heap.size w (w.alloc (.cells #[.pointer (some ⟨Bb, 0, none⟩)] 62)) := (Below.refl _ _).alloc (Nat.le_refl _) _
  have HW := Lib.hid (within_any base Bb a d ls _ (h.below hb1))
  have h1 := h.below hb1
  have hd : decide ((a : Int) ≤ (d.length : Int)) = true := by simp; omega
  rw [hd] at HW
  have hc : wrap64 (a : Int) = a := wrap64_id (by omega) (by omega)
  clear hd h
  go_enter Try.func70, Try.ntmps70
  go_wp2_with (first
    | (go_at_call 71; refine HW.out.mono ?_; rintro e w1 ⟨rfl, hbw⟩; refine Hid.out ?_))
  refine Lib.hid ?_
  have hs1 := hbw.size
  have hbw1 : w1.heap[w.heap.size]? = some (.cells #[.pointer (some ⟨Bb, 0, none⟩)] 62 (0, 0)) := (hbw.block _ (by simp)).trans (heap_new _ _)
  have c1 : w1.cell? ⟨w.heap.size, 0, none⟩ = some (.pointer (some ⟨Bb, 0, none⟩)) := by simp [World.cell?, hbw1]
  have HR := Lib.hid (Write_yes base Bb a s d ls w1 (h1.below hbw) hf)
  have hB1 : Below w.heap.size w w1 := hb1.trans (hbw.mono (by simp))
  clear hbw hbw1 h1
  go_wp2_with (first
    | (go_at_call 7; refine HR.out.mono ?_; rintro e w2 ⟨rfl, hA, hB, hF⟩))
  go_ret
  exact ⟨rfl, hA, (hB1.mono hbs).trans hB, (Fr.below hB1).trans hF⟩
set_option maxRecDepth 100000 in
set_option maxHeartbeats 1000000 in
theorem Store_no (base Bb : Nat) (a : Int) (s : ByteArray) (d : List UInt8) (ls : List (Nat × Bool)) (w : World) (h : BAt K w base Bb d ls) (h0 : 0 ≤ a) (hs : s.size ≤ 8) (hf : ¬ a + s.size ≤ d.length) :
    Calls Try.prog 70 #[.agg #[.pointer (some ⟨Bb, 0, none⟩)], .int .u64 a, .string s] w fun e w' => e = .returned (.int .i64 9) ∧ Below w.heap.size w w' := by
  have hlen := h.len
  have hb1 : Below w.heap.size w (w.alloc (.cells #[.pointer (some ⟨Bb, 0, none⟩)] 62)) := (Below.refl _ _).alloc (Nat.le_refl _) _
  have HW := Lib.hid (within_any base Bb a d ls _ (h.below hb1))
  have h1 := h.below hb1
  clear h
  by_cases ha : a ≤ d.length
  · have hd : decide ((a : Int) ≤ (d.length : Int)) = true := by simpa using ha
    rw [hd] at HW
    have hc : wrap64 (a : Int) = a := wrap64_id (by omega) (by omega)
    clear hd
    go_enter Try.func70, Try.ntmps70
    go_wp2_with (first
      | (go_at_call 71; refine HW.out.mono ?_; rintro e w1 ⟨rfl, hbw⟩; refine Hid.out ?_))
    refine Lib.hid ?_
    have hs1 := hbw.size
    have hbw1 : w1.heap[w.heap.size]? = some (.cells #[.pointer (some ⟨Bb, 0, none⟩)] 62 (0, 0)) := (hbw.block _ (by simp)).trans (heap_new _ _)
    have c1 : w1.cell? ⟨w.heap.size, 0, none⟩ = some (.pointer (some ⟨Bb, 0, none⟩)) := by simp [World.cell?, hbw1]
    have HR := Lib.hid (Write_no base Bb a s d ls w1 (h1.below hbw) (by omega) (by omega) (by omega))
    have hB1 : Below w.heap.size w w1 := hb1.trans (hbw.mono (by simp))
    clear hbw hbw1 h1
    go_wp2_with (first
      | (go_at_call 7; refine HR.out.mono ?_; rintro e w2 ⟨rfl, hB⟩))
    go_ret
    exact ⟨rfl, hB1.trans (hB.mono hB1.size)⟩
  · have hd : decide ((a : Int) ≤ (d.length : Int)) = false := by simpa using ha
    rw [hd] at HW
    clear hd
    go_enter Try.func70, Try.ntmps70
    go_wp2_with (first
      | (go_at_call 71; refine HW.out.mono ?_; rintro e w1 ⟨rfl, hbw⟩))
    go_ret
    exact ⟨rfl, hb1.trans (hbw.mono (by simp))⟩
/-- The memory as a value. -/
def memV (Bb : Nat) : Value := .iface 62 (.agg #[.pointer (some ⟨Bb, 0, none⟩)])
set_option maxRecDepth 100000 in
set_option maxHeartbeats 1000000 in
theorem load_yes (base Bb a n : Nat) (need : Int) (d : List UInt8) (ls : List (Nat × Bool)) (w : World) (h : BAt K w base Bb d ls) (hf : a + n ≤ d.length) :
    Calls Try.prog 16 #[memV Bb, .int .u64 a, .int .i64 n, .int .i64 need] w fun e w' => e = .returned (.tuple #[.string ⟨((d.drop a).take n).toArray⟩, .bool true]) ∧ Below w.heap.size w w' := by
  have HL := Lib.hid (Load_yes base Bb a n need d ls w h hf)
  obtain ⟨S, hS⟩ : ∃ S : ByteArray, (⟨((d.drop a).take n).toArray⟩ : ByteArray) = S := ⟨_, rfl⟩
  have hz : S.size = n := by rw [← hS]; show (List.toArray _).size = n; simp; omega
  rw [hS] at HL ⊢
  clear hS h
  unfold memV
  go_enter Try.func16, Try.ntmps16
  go_wp2_with (first
    | (go_at_call 69; refine HL.out.mono ?_; rintro e w1 ⟨rfl, hb⟩))
  go_ret2
  exact ⟨rfl, hb⟩
set_option maxRecDepth 100000 in
set_option maxHeartbeats 1000000 in
theorem load_no (base Bb : Nat) (a : Int) (n : Nat) (need : Int) (d : List UInt8) (ls : List (Nat × Bool)) (w : World) (h : BAt K w base Bb d ls) (h0 : 0 ≤ a) (hf : ¬ a + n ≤ d.length) :
    Calls Try.prog 16 #[memV Bb, .int .u64 a, .int .i64 n, .int .i64 need] w fun e w' => e = .returned (.tuple #[.string ⟨#[]⟩, .bool false]) ∧ Below w.heap.size w w' := by
  have HL := Lib.hid (Load_no base Bb a n need d ls w h h0 hf)
  clear h
  unfold memV
  go_enter Try.func16, Try.ntmps16
  go_wp2_with (first
    | (go_at_call 69; refine HL.out.mono ?_; rintro e w1 ⟨rfl, hb⟩))
  go_ret2
  exact ⟨rfl, hb⟩
end Go.Proofs.Ytblhikmhmnkclaa
