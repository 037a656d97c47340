/- What SetWord of package pages writes; Word, SetWord, Copy and Unlike of nil. -/
import Derived.Test.YtpedinpjdepjdaaLives
namespace Go.Proofs.Ytpedinpjdepjdaa
open Go.RowKit Go.Lib
theorem Word_nil (a : Int) (w : World) : Calls Try.prog 22 #[.pointer none, .int .i64 a] w fun e w' => e = .returned (.tuple #[.int .u64 0, .int .i64 4]) ∧ Below w.heap.size w w' := by
  have H := Lib.hid (Read_nil a 8 w)
  go_enter Try.func22, Try.ntmps22
  go_wp2_with (first | (go_at_call 14; refine H.out.mono ?_; rintro e w1 ⟨rfl, hb⟩))
  go_ret2
  exact ⟨rfl, hb⟩
theorem Copy_nil (w : World) : Calls Try.prog 8 #[.pointer none] w fun e w' => e = .returned (.pointer none) ∧ w' = w := by
  go_enter Try.func8, Try.ntmps8
  go_wp2
  go_ret
  exact ⟨rfl, rfl⟩
/-- Byte j of a number. -/
def byteOf (x : Int) (j : Nat) : UInt8 := UInt8.ofNat ((x / 2 ^ (8 * j) % 256).toNat)
def eight (x : Int) : List UInt8 := (List.range 8).map (byteOf x)
theorem byteOf_nat (x : Int) (j : Nat) : ((byteOf x j).toNat : Int) = x / 2 ^ (8 * j) % 256 := by
  unfold byteOf
  have h1 := Int.emod_nonneg (x / 2 ^ (8 * j)) (by decide : (256 : Int) ≠ 0)
  have h2 := Int.emod_lt_of_pos (x / 2 ^ (8 * j)) (by decide : (0 : Int) < 256)
  rw [UInt8.toNat_ofNat']
  omega
set_option maxRecDepth 100000 in
set_option maxHeartbeats 1000000 in
theorem SetWord_gen (bp : Option Addr) (a : Int) (x : Nat) (w : World) (R : Value → World → Prop)
    (hW : ∀ W', Below w.heap.size w W' → Calls Try.prog 13 #[.pointer bp, .int .i64 a, .slice (some ⟨W'.heap.size, 0, none⟩) 1 1] (W'.alloc (.cells #[.string ⟨(eight x).toArray⟩] 9)) fun e w' => ∃ v, e = .returned v ∧ R v w') :
    Calls Try.prog 25 #[.pointer bp, .int .i64 a, .int .u64 x] w fun e w' => ∃ v, e = .returned v ∧ R v w' := by
  have HW := Lib.hid hW
  clear hW
  go_enter Try.func25, Try.ntmps25
  go_wp2_with fail
  go_loopw [9] (fun y wr => ∃ k : Nat, y = .int .i64 k ∧ k ≤ 8 ∧ (∃ vs : List UInt8, vs.length = 8 ∧ wr.heap[w.heap.size]? = some (.cells (u8s vs).toArray 88 (0, 0)) ∧ ∀ j, j < k → vs.getD j 0 = byteOf x j) ∧ RowKit.Below w.heap.size w wr) (fun y _ => (8 - RowKit.intOf y).toNat)
  case atStart => exact ⟨0, rfl, by omega, ⟨List.replicate 8 0, by simp, heap_new _ _, fun j hj => by omega⟩, (Below.refl _ _).alloc (Nat.le_refl _) _⟩
  case round =>
    obtain ⟨k, rfl, hk, ⟨vs, hvl, hvb, hvs⟩, hB⟩ := hrel
    have hlw := (Array.getElem?_eq_some_iff.1 hvb).1
    by_cases hlt : k < 8
    · have hki : (k : Int) < 8 := by omega
      have cc : wr.cell? ⟨w.heap.size, k, none⟩ = some (.int .u8 ((vs.getD k 0).toNat : Int)) := by
        rw [cell_of_row _ _ _ _ _ _ hvb]
        simp [u8s, List.getD_eq_getElem?_getD, List.getElem?_eq_getElem (by omega : k < vs.length)]
      have cf : wr.frozen? ⟨w.heap.size, k, none⟩ = false := by simp [World.frozen?, hvb]
      go_wp2
      refine ⟨⟨k + 1, by go_num, by omega, ⟨vs.set k (byteOf x k), by rw [List.length_set]; exact hvl, ?_, fun j hj => ?_⟩, hB.setCell (p := ⟨w.heap.size, k, none⟩) (Nat.le_refl _) _⟩, by simp [RowKit.intOf]; omega⟩
      · rw [heap_setCell_same _ _ _ _ _ _ hvb, ← byteOf_nat]
        congr 2
        simp [u8s]
      · rw [List.getD_eq_getElem?_getD, List.getElem?_set]
        by_cases hjk : k = j
        · subst hjk; rw [if_pos rfl]; simp [hvl, hlt]
        · rw [if_neg hjk, ← List.getD_eq_getElem?_getD, hvs j (by omega)]
    · obtain rfl : k = 8 := by omega
      have hve : vs = eight x := ext_getD (by rw [hvl]; simp [eight]) (fun j hj => by
        rw [hvs j (by omega)]
        unfold eight
        rw [List.getD_eq_getElem?_getD, List.getElem?_map, List.getElem?_range (by omega)]; rfl)
      have hcv : Sem.run Try.prog (convert 29 9 (.slice (some ⟨w.heap.size, 0, none⟩) 8 8)) wr = .ok (.string ⟨(eight x).toArray⟩) wr := by
        have h8 : (eight x).length = 8 := by simp [eight]
        have := run_convert_bytes_back (P := Try.prog) wr 29 9 5 ⟨w.heap.size, 0, none⟩ 8 (eight x) Try.underlying29 Try.underlying5 Try.underlying9 (fun j hj => by
          rw [show (⟨w.heap.size, 0, none⟩ : Addr).add j = ⟨w.heap.size, j, none⟩ from by unfold Addr.add; split <;> simp_all]
          rw [cell_of_row _ _ _ _ _ _ hvb, hve]
          simp [u8s, hj])
        rwa [h8] at this
      have HW2 := Lib.hid (HW.out wr hB)
      clear hvb hvs hve
      go_wp2_with (first | (go_at_call 13; refine HW2.out.mono ?_; rintro e w2 ⟨v, rfl, hR⟩))
      go_ret
      exact ⟨v, rfl, hR⟩
theorem sumE (x : Int) : sumL [⟨(eight x).toArray⟩] = 8 := by unfold sumL; show (eight x).toArray.size + 0 = 8; simp [eight]
theorem SetWord_nil (a : Int) (x : Nat) (w : World) : Calls Try.prog 25 #[.pointer none, .int .i64 a, .int .u64 x] w fun e w' => e = .returned (.int .i64 4) ∧ Below w.heap.size w w' := by
  refine (SetWord_gen none a x w (fun v w' => v = .int .i64 4 ∧ Below w.heap.size w w') (fun W' hb => ?_)).mono ?_
  · refine (Write_nil (some ⟨W'.heap.size, 0, none⟩) 1 a [⟨(eight x).toArray⟩] _ (ps_new W' [⟨(eight x).toArray⟩]) (by rw [sumE]; decide) (by simp)).mono ?_
    rintro e w' ⟨rfl, rfl⟩
    exact ⟨_, rfl, rfl, hb.alloc hb.size _⟩
  · rintro e w' ⟨v, rfl, rfl, hb⟩
    exact ⟨rfl, hb⟩
theorem intInfo : (Try.prog.info? 3).map (fun i => (i.zero, i.size, i.bytes)) = some (some (.int .i64 0), 1, 8) := by kernel_rfl
end Go.Proofs.Ytpedinpjdepjdaa
