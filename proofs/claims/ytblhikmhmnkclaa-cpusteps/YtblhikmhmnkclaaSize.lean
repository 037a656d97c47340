/- What Resize and New of package pages do. -/
import Derived.Test.YtblhikmhmnkclaaShrink
namespace Go.Proofs.Ytblhikmhmnkclaa
open Go.RowKit Go.Lib
/-- n bytes of d, with 0 behind the end. -/
def fit (d : List UInt8) (n : Nat) : List UInt8 := d.take n ++ List.replicate (n - d.length) 0
theorem fit_len (d : List UInt8) (n : Nat) : (fit d n).length = n := by unfold fit; simp; omega
theorem Resize_nil (n : Int) (w : World) : Calls Try.prog 13 #[.pointer none, .int .i64 n] w fun e w' => e = .returned (.int .i64 4) ∧ w' = w := by
  go_enter Try.func13, Try.ntmps13
  go_wp2
  go_ret
  exact ⟨rfl, rfl⟩
theorem Resize_no (Bb : Nat) (n : Int) (w : World) (hn : n < 0 ∨ 4096 < n) :
    Calls Try.prog 13 #[.pointer (some ⟨Bb, 0, none⟩), .int .i64 n] w fun e w' => e = .returned (.int .i64 1) ∧ w' = w := by
  by_cases h0 : n < 0
  · go_enter Try.func13, Try.ntmps13
    go_wp2
    go_ret
    exact ⟨rfl, rfl⟩
  · have h1 : 4096 < n := hn.resolve_left h0
    go_enter Try.func13, Try.ntmps13
    go_wp2
    go_ret
    exact ⟨rfl, rfl⟩
set_option maxHeartbeats 1000000 in
theorem Resize_z (base Bb n : Nat) (d : List UInt8) (ls : List (Nat × Bool)) (w : World) (h : BAt N0 w base Bb d ls) (hn : n ≤ 4096) :
    Calls Try.prog 13 #[.pointer (some ⟨Bb, 0, none⟩), .int .i64 n] w fun e w' => e = .returned (.int .i64 0) ∧ (∃ ls', BAt N0 w' base Bb (fit d n) ls') ∧ Below base w w' ∧ Fz w w' := by
  obtain ⟨v, hv, _⟩ := h.blk
  have c0 : w.cell? ⟨Bb, 0, none⟩ = some (.int .i64 d.length) := by simp [World.cell?, hv]
  have h1 : ¬ (n : Int) < 0 := by omega
  have h2 : ¬ (4096 : Int) < (n : Int) := by omega
  by_cases hlt : n < d.length
  · have HS := Lib.hid (shrink_any base Bb n d ls w h hlt)
    have hlti : (n : Int) < (d.length : Int) := by omega
    have he : fit d n = d.take n := by unfold fit; rw [show n - d.length = 0 from by omega]; simp
    rw [← he] at HS
    clear hv h he
    go_enter Try.func13, Try.ntmps13
    go_wp2_with (first | (go_at_call 24; refine HS.out.mono ?_; rintro e w1 ⟨⟨u, rfl⟩, hA, hB⟩))
    go_ret
    exact ⟨rfl, hA, hB⟩
  · have HS := Lib.hid (grow_any base Bb n d ls w h (by omega) hn)
    have hlti : ¬ (n : Int) < (d.length : Int) := by omega
    have he : fit d n = d ++ List.replicate (n - d.length) 0 := by unfold fit; rw [List.take_of_length_le (by omega)]
    rw [← he] at HS
    clear hv h he
    go_enter Try.func13, Try.ntmps13
    go_wp2_with (first | (go_at_call 25; refine HS.out.mono ?_; rintro e w1 ⟨⟨u, rfl⟩, ⟨lq, hA, _⟩, hB⟩))
    go_ret
    exact ⟨rfl, ⟨lq, hA⟩, hB⟩
theorem Resize_any (base Bb n : Nat) (d : List UInt8) (ls : List (Nat × Bool)) (w : World) (h : BAt N0 w base Bb d ls) (hn : n ≤ 4096) :
    Calls Try.prog 13 #[.pointer (some ⟨Bb, 0, none⟩), .int .i64 n] w fun e w' => e = .returned (.int .i64 0) ∧ (∃ ls', BAt N0 w' base Bb (fit d n) ls') ∧ Below base w w' :=
  (Resize_z base Bb n d ls w h hn).mono fun _ _ hr => ⟨hr.1, hr.2.1, hr.2.2.1⟩
set_option maxHeartbeats 1000000 in
theorem Resize_e (base Bb n : Nat) (w : World) (h : BAt N0 w base Bb [] []) (hn : n ≤ 4096) :
    Calls Try.prog 13 #[.pointer (some ⟨Bb, 0, none⟩), .int .i64 n] w fun e w' => e = .returned (.int .i64 0) ∧ (∃ ls', BAt N0 w' base Bb (List.replicate n 0) ls' ∧ ∀ x ∈ ls', base ≤ x.1) ∧ Below base w w' := by
  obtain ⟨v, hv, _⟩ := h.blk
  have c0 : w.cell? ⟨Bb, 0, none⟩ = some (.int .i64 0) := by simp [World.cell?, hv]
  have h1 : ¬ (n : Int) < 0 := by omega
  have h2 : ¬ (4096 : Int) < (n : Int) := by omega
  have HS := Lib.hid (grow_any base Bb n [] [] w h (by simp) hn)
  clear hv h
  go_enter Try.func13, Try.ntmps13
  go_wp2_with (first | (go_at_call 25; refine HS.out.mono ?_; rintro e w1 ⟨⟨u, rfl⟩, ⟨lq, hA, hO⟩, hB, _⟩))
  go_ret
  refine ⟨rfl, ⟨lq, by simpa using hA, fun x hx => ?_⟩, hB⟩
  obtain ⟨i, hi⟩ := List.getElem?_of_mem hx
  exact (hA.pgs i x hi).2 ((hO x hx).resolve_left (by simp))
/-- An object of no bytes. -/
theorem BAt.empty (w : World) : BAt N0 (w.alloc (.cells #[.int .i64 0, .slice none 0 0] 47)) w.heap.size w.heap.size [] [] :=
  ⟨⟨.slice none 0 0, heap_new _ _, World.ownsRow_nil _ _ _ _⟩, fun i x h => by simp at h, by simp, by simp, by simp, Nat.le_refl _, foe0 _ _ _⟩
theorem New_no (n : Int) (w : World) (hn : n < 0 ∨ 4096 < n) : Calls Try.prog 6 #[.int .i64 n] w fun e w' => e = .returned (.tuple #[.pointer none, .int .i64 1]) ∧ Below w.heap.size w w' := by
  have HR := Lib.hid (Resize_no w.heap.size n (w.alloc (.cells #[.int .i64 0, .slice none 0 0] 47)) hn)
  go_enter Try.func6, Try.ntmps6
  go_wp2_with (first | (go_at_call 13; refine HR.out.mono ?_; rintro e w1 ⟨rfl, rfl⟩))
  go_ret2
  exact ⟨rfl, (Below.refl _ _).alloc (Nat.le_refl _) _⟩
theorem New_any (n : Nat) (w : World) (hn : n ≤ 4096) : Calls Try.prog 6 #[.int .i64 n] w fun e w' => e = .returned (.tuple #[.pointer (some ⟨w.heap.size, 0, none⟩), .int .i64 0]) ∧ (∃ ls, BAt N0 w' w.heap.size w.heap.size (List.replicate n 0) ls ∧ ∀ x ∈ ls, w.heap.size ≤ x.1) ∧ Below w.heap.size w w' := by
  have HR := Lib.hid (Resize_e w.heap.size w.heap.size n _ (BAt.empty w) hn)
  go_enter Try.func6, Try.ntmps6
  go_wp2_with (first | (go_at_call 13; refine HR.out.mono ?_; rintro e w1 ⟨rfl, hA, hB⟩))
  go_ret2
  exact ⟨rfl, hA, ((Below.refl _ _).alloc (Nat.le_refl _) _).trans hB⟩
end Go.Proofs.Ytblhikmhmnkclaa
