/- What Encode of package isa answers, for every instruction. -/
import Derived.Test.YtgldkmabhmlijaaDoorPack
import Derived.Laws.Strings2
namespace Go.Proofs.YtgldkmabhmlijaaDoor
open Go.RowKit Go.Sort
def toU (ns : List Int) : List UInt8 := ns.map fun n => UInt8.ofNat (n % 256).toNat
def q4l (q : Q4) : List Int := [q.1, q.2.1, q.2.2.1, q.2.2.2]
/-- Four bytes, each of them one. -/
def okQ (q : Q4) : Prop := (0 ≤ q.1 ∧ q.1 < 256) ∧ (0 ≤ q.2.1 ∧ q.2.1 < 256) ∧ (0 ≤ q.2.2.1 ∧ q.2.2.1 < 256) ∧ (0 ≤ q.2.2.2 ∧ q.2.2.2 < 256)
theorem pkW_ok (c : Cod) (w : Int) (r : Q4) (h : okQ r) : okQ (pkW c w r) := by
  unfold okQ at h ⊢; unfold pkW
  repeat' split
  all_goals first | exact h | (simp only; omega)
theorem pk_ok (c : Cod) (s k : Nat) : okQ (pk c s k) := by
  induction k with
  | zero => simp only [pk, okQ]; omega
  | succ k ih => exact pkW_ok _ _ _ ih
theorem bytesC_ok (c : Cod) : okQ (bytesC c) := pk_ok _ _ _
theorem toU_byte (n : Int) (h : 0 ≤ n ∧ n < 256) : ((UInt8.ofNat (n % 256).toNat).toNat : Int) = n := by
  rw [UInt8.toNat_ofNat']; omega
def q4s (q : Q4) : ByteArray := ⟨(toU (q4l q)).toArray⟩
theorem conv4 (q : Q4) (w : World) (B : Nat) (hq : okQ q) (h : At4 w B q) : Sem.run Tryd.prog (convert 44 9 (.slice (some ⟨B, 0, none⟩) 4 4)) w = .ok (.string (q4s q)) w := by
  refine run_convert_bytes_back (P := Tryd.prog) w 44 9 5 ⟨B, 0, none⟩ 4 (toU (q4l q)) Tryd.underlying44 Tryd.underlying5 Tryd.underlying9 (fun j hj => ?_)
  obtain ⟨_, ⟨b0, b1, b2, b3⟩, _⟩ := h
  obtain ⟨o0, o1, o2, o3⟩ := hq
  have hj' : j < 4 := hj
  rcases (show j = 0 ∨ j = 1 ∨ j = 2 ∨ j = 3 by omega) with rfl | rfl | rfl | rfl
  · show w.cell? ⟨B, 0, none⟩ = some (.int .u8 ((UInt8.ofNat (q.1 % 256).toNat).toNat : Int)); rw [toU_byte _ o0]; exact b0
  · show w.cell? ⟨B, 1, none⟩ = some (.int .u8 ((UInt8.ofNat (q.2.1 % 256).toNat).toNat : Int)); rw [toU_byte _ o1]; exact b1
  · show w.cell? ⟨B, 2, none⟩ = some (.int .u8 ((UInt8.ofNat (q.2.2.1 % 256).toNat).toNat : Int)); rw [toU_byte _ o2]; exact b2
  · show w.cell? ⟨B, 3, none⟩ = some (.int .u8 ((UInt8.ofNat (q.2.2.2 % 256).toNat).toNat : Int)); rw [toU_byte _ o3]; exact b3
set_option maxRecDepth 100000 in
set_option maxHeartbeats 4000000 in
theorem Encode_yes (c : Cod) (w : World) (h : rightI c = true) : Calls Tryd.prog 6 #[c.v] w fun e w' => e = .returned (.tuple #[.string (q4s (bytesC c)), .int .i64 0]) ∧ Below w.heap.size w w' := by
  have HR : Hid (∀ w, Calls Tryd.prog 12 #[c.v] w fun e w' => e = .returned (.bool true) ∧ Below w.heap.size w w') := by have := Right_any c; rw [h] at this; exact this
  clear h
  have HP := Lib.hid (pack_any c)
  have hok := bytesC_ok c
  obtain ⟨q, hq⟩ : ∃ q, q = bytesC c := ⟨_, rfl⟩
  rw [← hq] at HP hok ⊢
  clear hq
  have hv : c.v = .agg #[.int .i64 c.op, .int .i64 c.a, .int .i64 c.b, .int .i64 c.c, .int .i64 c.n] := rfl
  rw [hv] at HR HP ⊢
  clear hv
  go_enter Tryd.func6, Tryd.ntmps6
  go_wp2_with (first | (go_at_call 12; refine (HR.out _).mono ?_; rintro e w1 ⟨rfl, hb1⟩; refine Hid.out ?_))
  refine Lib.hid ?_
  have k1 : At5 w1 w.heap.size c := (At5.new w c _).below hb1 (by simp)
  obtain ⟨kl, ⟨a0, a1, a2, a3, a4⟩, af⟩ := k1
  go_wp2_with (first | (go_at_call 13; refine (HP.out _).mono ?_; rintro e w2 ⟨rfl, hb2⟩; refine Hid.out ?_))
  refine Lib.hid ?_
  have hcv := conv4 q (w2.alloc (.cells #[.int .u8 q.1, .int .u8 q.2.1, .int .u8 q.2.2.1, .int .u8 q.2.2.2] 42)) w2.heap.size hok (At4.new w2 q _)
  unfold qv
  go_wp2
  go_ret2
  refine ⟨rfl, ?_⟩
  have hB1 : Below w.heap.size w w1 := ((Below.refl _ w).alloc (Nat.le_refl _) _).trans (hb1.mono (by simp))
  have hB2 : Below w.heap.size w w2 := hB1.trans (hb2.mono hB1.size)
  exact hB2.alloc hB2.size _
theorem Encode_no (c : Cod) (w : World) (h : rightI c = false) : Calls Tryd.prog 6 #[c.v] w fun e w' => e = .returned (.tuple #[.string ⟨#[]⟩, .int .i64 12]) ∧ Below w.heap.size w w' := by
  have HR : Hid (∀ w, Calls Tryd.prog 12 #[c.v] w fun e w' => e = .returned (.bool false) ∧ Below w.heap.size w w') := by have := Right_any c; rw [h] at this; exact this
  clear h
  have hv : c.v = .agg #[.int .i64 c.op, .int .i64 c.a, .int .i64 c.b, .int .i64 c.c, .int .i64 c.n] := rfl
  rw [hv] at HR ⊢
  clear hv
  go_enter Tryd.func6, Tryd.ntmps6
  go_wp2_with (first | (go_at_call 12; refine (HR.out _).mono ?_; rintro e w1 ⟨rfl, hb1⟩))
  go_ret2
  exact ⟨rfl, ((Below.refl _ w).alloc (Nat.le_refl _) _).trans (hb1.mono (by simp))⟩
end Go.Proofs.YtgldkmabhmlijaaDoor
