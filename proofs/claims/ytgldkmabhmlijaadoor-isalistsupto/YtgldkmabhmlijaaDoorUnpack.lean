/- What unpack of package isa answers, for every four bytes. -/
import Derived.Test.YtgldkmabhmlijaaDoorPack
import Derived.Laws.Strings2
import Derived.Laws.BitsAllLaws
namespace Go.Proofs.YtgldkmabhmlijaaDoor
open Go.RowKit Go.Sort
def byS (s : ByteArray) (i : Nat) : Nat := (s.data.getD i 0).toNat
theorem byS_lt (s : ByteArray) (i : Nat) : byS s i < 256 := UInt8.toNat_lt _
theorem byS_get (s : ByteArray) (i : Nat) (h : i < s.size) : s[i].toNat = byS s i := by
  simp [byS, ByteArray.getElem_eq_getElem_data, Array.getD, h]
theorem wrap64_id {n : Int} (h0 : -9223372036854775808 ≤ n) (h1 : n < 9223372036854775808) : wrap64 n = n := by unfold wrap64; omega
theorem ofInt_wrap (n : Int) : BitVec.ofInt 64 (wrap64 n) = BitVec.ofInt 64 n := by
  apply BitVec.eq_of_toInt_eq
  rw [BitVec.toInt_ofInt, BitVec.toInt_ofInt]
  unfold wrap64
  rw [Int.bmod_def, Int.bmod_def]
  have : ((n + 9223372036854775808) % 18446744073709551616 - 9223372036854775808) % ((2 ^ 64 : Nat) : Int) = n % ((2 ^ 64 : Nat) : Int) := by omega
  rw [this]
theorem or_step (a b k : Nat) (hk : k < 8) (ha : a < 2 ^ (8 * k)) (hb : b < 256) : bits BinOp.or IntKind.i64 (a : Int) (wrap64 (wrap64 (b : Int) * 2 ^ (8 * k))) = wrap64 ((a + b * 2 ^ (8 * k) : Nat) : Int) := by
  have hp : (2 : Nat) ^ (8 * k) ≤ 2 ^ 56 := Nat.pow_le_pow_right (by decide) (by omega)
  have e1 : wrap64 (b : Int) = b := wrap64_id (by omega) (by omega)
  have hx : b * 2 ^ (8 * k) < 18446744073709551616 := by
    have : b * 2 ^ (8 * k) ≤ 255 * 2 ^ 56 := Nat.mul_le_mul (by omega) hp
    omega
  have e2 : ((b : Int) * 2 ^ (8 * k)) = ((b * 2 ^ (8 * k) : Nat) : Int) := by simp
  rw [e1, e2]
  have ha' : a < 18446744073709551616 := by omega
  show IntKind.i64.wrap ((BitVec.ofInt 64 (a : Int) ||| BitVec.ofInt 64 (wrap64 ((b * 2 ^ (8 * k) : Nat) : Int))).toNat : Int) = _
  rw [ofInt_wrap, BitVec.toNat_or, ofInt_u64 a ha', ofInt_u64 _ hx, Nat.or_comm, nat_join (8 * k) _ _ (Nat.mul_mod_left _ _) ha, Nat.add_comm]
  generalize ((a + b * 2 ^ (8 * k) : Nat) : Int) = z
  rw [IntKind.wrap_i64, wrap64]
theorem or0 (b : Nat) (hb : b < 256) : bits BinOp.or IntKind.i64 0 (b : Int) = b := by
  have := or_step 0 b 0 (by omega) (by simp) hb
  rw [wrap64_id (n := (b : Int)) (by omega) (by omega)] at this
  simp only [Nat.mul_zero, Int.pow_zero, Int.mul_one, Nat.pow_zero, Nat.mul_one, Nat.zero_add] at this
  rw [wrap64_id (n := (b : Int)) (by omega) (by omega)] at this
  exact this
theorem or1 (a b : Nat) (ha : a < 256) (hb : b < 256) : bits BinOp.or IntKind.i64 (a : Int) ((b : Int) * 256) = (a : Int) + 256 * b := by
  have := or_step a b 1 (by omega) ha hb
  rw [wrap64_id (n := (b : Int)) (by omega) (by omega)] at this
  simp only [Nat.mul_one, Int.reducePow, Nat.reducePow] at this
  rw [wrap64_id (n := (b : Int) * 256) (by omega) (by omega), wrap64_id (by omega) (by omega)] at this
  rw [this, Int.natCast_add, Int.natCast_mul]; omega
theorem bdn {B : Nat} {w w' : World} (h : Below B w w') (n : Nat) : Below B w (w'.drewN n) := ⟨h.os, h.tape, h.output, h.size, h.block⟩
theorem i16w (x : Int) (h0 : 0 ≤ x) (h1 : x < 65536) : wrap64 (IntKind.i16.wrap x) = if x < 32768 then x else x - 65536 := by
  have e : IntKind.i16.wrap x = if x % 65536 ≥ 32768 then x % 65536 - 65536 else x % 65536 := by
    show (if (true && decide (x % (2 ^ 16 : Int) ≥ (2 ^ (16 - 1) : Int))) = true then x % (2 ^ 16 : Int) - (2 ^ 16 : Int) else x % (2 ^ 16 : Int)) = _
    simp
  rw [e]; unfold wrap64; repeat' split
  all_goals omega
def upW (s : ByteArray) (w : Int) : Int :=
  if w = 1 then byS s 1 else if w = 2 then byS s 2 else if w = 3 ∨ w = 4 then byS s 3
  else if w = 5 then (byS s 2 : Int) + 256 * byS s 3
  else if w = 6 then (if (byS s 2 : Int) + 256 * byS s 3 < 32768 then (byS s 2 : Int) + 256 * byS s 3 else (byS s 2 : Int) + 256 * byS s 3 - 65536) else 0
def up (s : ByteArray) (h : Nat) : Nat → Cod
  | 0 => ⟨byS s 0, 0, 0, 0, 0⟩
  | k + 1 => wth (up s h k) (wd h k) (upW s (wd h k))
def unC (s : ByteArray) : Cod := up s (sh (byS s 0)) 3
set_option maxRecDepth 100000 in
set_option maxHeartbeats 4000000 in
theorem unpack_any (s : ByteArray) (w : World) (hs : s.size = 4) : Calls Tryd.prog 22 #[.string s] w fun e w' => e = .returned (unC s).v ∧ Below w.heap.size w w' := by
  have hs0 : 0 < s.size := by omega
  have hs1 : 1 < s.size := by omega
  have hs2 : 2 < s.size := by omega
  have hs3 : 3 < s.size := by omega
  have y0 : s[0].toNat = byS s 0 := byS_get s 0 hs0
  have y1 : s[1].toNat = byS s 1 := byS_get s 1 hs1
  have y2 : s[2].toNat = byS s 2 := byS_get s 2 hs2
  have y3 : s[3].toNat = byS s 3 := byS_get s 3 hs3
  have q0 := byS_lt s 0
  have q1 := byS_lt s 1
  have q2 := byS_lt s 2
  have q3 := byS_lt s 3
  have hsi : (s.size : Int) = 4 := by omega
  obtain ⟨h, hh⟩ : ∃ h, h = sh (byS s 0) := ⟨_, rfl⟩
  have HS := Lib.hid (shapeOf_any (byS s 0))
  rw [← hh] at HS
  have HQ : Hid (unC s = up s h 3) := by rw [hh]; rfl
  clear hh
  have HU : Hid (up s h 0 = ⟨byS s 0, 0, 0, 0, 0⟩) := rfl
  have HW : Hid (∀ v, upW s v = if v = 1 then (byS s 1 : Int) else if v = 2 then byS s 2 else if v = 3 ∨ v = 4 then byS s 3 else if v = 5 then (byS s 2 : Int) + 256 * byS s 3 else if v = 6 then (if (byS s 2 : Int) + 256 * byS s 3 < 32768 then (byS s 2 : Int) + 256 * byS s 3 else (byS s 2 : Int) + 256 * byS s 3 - 65536) else 0) := fun v => rfl
  generalize byS s 0 = b0 at *
  generalize byS s 1 = b1 at *
  generalize byS s 2 = b2 at *
  generalize byS s 3 = b3 at *
  go_enter Tryd.func22, Tryd.ntmps22
  go_wp2_with (first | (go_at_call 14; refine (HS.out _).mono ?_; rintro e w1 ⟨rfl, hb1⟩; refine Hid.out ?_))
  refine Lib.hid ?_
  have hz1 : w.heap.size + 2 ≤ w1.heap.size := by have := hb1.size; simpa using this
  have hB1 : Below w.heap.size w w1 := ((((Below.refl _ w).alloc (Nat.le_refl _) _).alloc (by simp) _)).trans (hb1.mono (by simp; omega))
  have k1 : At5 w1 w.heap.size ⟨0, 0, 0, 0, 0⟩ := ((At5.new w ⟨0, 0, 0, 0, 0⟩ _).below ((Below.refl _ _).alloc (Nat.le_refl _) _) (by simp)).below hb1 (by simp; omega)
  have k2 : At5 w1 (w.heap.size + 1) ⟨b0, 0, 0, 0, 0⟩ := by
    have := (At5.new (w.alloc (.cells #[.int .i64 0, .int .i64 0, .int .i64 0, .int .i64 0, .int .i64 0] 25)) ⟨b0, 0, 0, 0, 0⟩ 25)
    rw [World.size_alloc] at this
    exact this.below hb1 (by simp)
  clear hb1
  go_wp2_with fail
  go_loopw [17] (fun i wr => ∃ k : Nat, k ≤ 3 ∧ i = .int .i64 k ∧ At5 wr w.heap.size ⟨0, 0, 0, 0, 0⟩ ∧ At5 wr (w.heap.size + 1) (up s h k) ∧ Below w.heap.size w wr ∧ w.heap.size + 2 ≤ wr.heap.size) (fun i _ => 3 - (intOf i).toNat)
  case atStart => exact ⟨0, by omega, rfl, k1, by rw [HU.out]; exact k2, hB1, hz1⟩
  case round =>
    clear k1 k2 hB1 hz1
    obtain ⟨k, hk, rfl, h5, hr, hB, hz⟩ := hrel
    by_cases hlt : k < 3
    · have hki : (k : Int) < 3 := by omega
      have ik := idx3 h k hlt
      have HP : Hid (up s h (k + 1) = wth (up s h k) (wd h k) (upW s (wd h k))) := rfl
      have hl := wd_lim h k
      generalize up s h k = r at hr HP
      generalize wd h k = v at ik HP hl
      have HB := Lib.hid hB
      clear hB
      have H5 := Lib.hid h5
      clear h5
      have HRr := Lib.hid hr
      obtain ⟨rl, ⟨a0, a1, a2, a3, a4⟩, af⟩ := hr
      rcases w_cases hl with rfl | rfl | rfl | rfl | rfl | rfl | rfl
      · have HPl : Hid (∀ w, Calls Tryd.prog 27 #[.int .i64 0] w fun e w' => e = .returned (.tuple #[.int .i64 0, .int .i64 0]) ∧ w' = w) := fun w => place_any 0 w hl
        go_wp2_with (first | (go_at_call 27; refine (HPl.out _).mono ?_; rintro e w' ⟨rfl, hw'⟩; rw [hw']; clear hw' w'))
        go_loopw [8, 26] (fun n i wx => ∃ j : Nat, j ≤ 0 ∧ i = .int .i64 j ∧ (j = 0 → n = .int .i64 0) ∧ ∃ m, wx = wr.drewN m) (fun _ i _ => 0 - (intOf i).toNat)
        case atStart => exact ⟨0, by omega, rfl, (fun h => rfl), 0, rfl⟩
        case round =>
          obtain ⟨j, hj, rfl, g0, m, rfl⟩ := hrel
          rcases (show j = 0 by omega) with rfl
          · obtain rfl := g0 rfl
            clear g0
            have HV : Hid (up s h (k + 1) = wth r 0 (upW s 0)) := HP
            clear HP
            go_wp2_with (first | (go_at_call 26; refine (with_any r 0 _ _ hl).mono ?_; rintro e w3 ⟨rfl, hb3⟩; refine Hid.out ?_))
            refine Lib.hid ?_
            have hz3 : wr.heap.size ≤ w3.heap.size := by have := hb3.size; simpa using this
            have hbw : Below wr.heap.size wr w3 := (bdn (Below.refl _ _) m).trans (hb3.mono (by simp))
            have d0 := (hbw.cell (p := ⟨w.heap.size + 1, 0, none⟩) rl).trans a0
            have d1 := (hbw.cell (p := ⟨w.heap.size + 1, 1, none⟩) rl).trans a1
            have d2 := (hbw.cell (p := ⟨w.heap.size + 1, 2, none⟩) rl).trans a2
            have d3 := (hbw.cell (p := ⟨w.heap.size + 1, 3, none⟩) rl).trans a3
            have d4 := (hbw.cell (p := ⟨w.heap.size + 1, 4, none⟩) rl).trans a4
            have df : ∀ o, w3.frozen? ⟨w.heap.size + 1, o, none⟩ = false := fun o => (hbw.frozen (p := ⟨w.heap.size + 1, o, none⟩) rl).trans (af o)
            have dl : w.heap.size + 1 < w3.heap.size := by omega
            unfold Cod.v
            go_wp2
            go_roundw
            case rel =>
              have hd : At5 w3 (w.heap.size + 1) r := ⟨dl, ⟨d0, d1, d2, d3, d4⟩, df⟩
              have hbs := set5_below (n := w.heap.size + 1) (W := w3) (B := w.heap.size + 1) (up s h (k + 1)) (Nat.le_refl _)
              have hnw := hd.set5 (up s h (k + 1))
              refine ⟨k + 1, by omega, by go_num, ?_, ?_, ?_, by simp; omega⟩
              · exact (H5.out.below hbw (by omega)).below (set5_below (n := w.heap.size + 1) _ (Nat.le_refl _)) (by omega)
              · rw [HV.out, show upW s 0 = 0 from by rw [HW.out]; simp] at hnw ⊢
                exact hnw
              · exact (HB.out.trans (hbw.mono HB.out.size)).trans ((set5_below (n := w.heap.size + 1) _ (Nat.le_refl _)).mono (by omega))
            case measure => simp [intOf]; omega
      · have HPl : Hid (∀ w, Calls Tryd.prog 27 #[.int .i64 1] w fun e w' => e = .returned (.tuple #[.int .i64 1, .int .i64 1]) ∧ w' = w) := fun w => place_any 1 w hl
        go_wp2_with (first | (go_at_call 27; refine (HPl.out _).mono ?_; rintro e w' ⟨rfl, hw'⟩; rw [hw']; clear hw' w'))
        go_loopw [8, 26] (fun n i wx => ∃ j : Nat, j ≤ 1 ∧ i = .int .i64 j ∧ (j = 0 → n = .int .i64 0) ∧ (j = 1 → n = .int .i64 (b1 : Int)) ∧ ∃ m, wx = wr.drewN m) (fun _ i _ => 1 - (intOf i).toNat)
        case atStart => exact ⟨0, by omega, rfl, (fun h => rfl), (fun h => by omega), 0, rfl⟩
        case round =>
          obtain ⟨j, hj, rfl, g0, g1, m, rfl⟩ := hrel
          rcases (show j = 0 ∨ j = 1 by omega) with rfl | rfl
          · obtain rfl := g0 rfl
            clear g0 g1
            go_wp2
            go_roundw
            case rel => exact ⟨1, by omega, rfl, (fun h => by omega), (fun h => by rw [or0 b1 q1]), m, rfl⟩
            case measure => simp [intOf]
          · obtain rfl := g1 rfl
            clear g0 g1
            have HV : Hid (up s h (k + 1) = wth r 1 (upW s 1)) := HP
            clear HP
            go_wp2_with (first | (go_at_call 26; refine (with_any r 1 _ _ hl).mono ?_; rintro e w3 ⟨rfl, hb3⟩; refine Hid.out ?_))
            refine Lib.hid ?_
            have hz3 : wr.heap.size ≤ w3.heap.size := by have := hb3.size; simpa using this
            have hbw : Below wr.heap.size wr w3 := (bdn (Below.refl _ _) m).trans (hb3.mono (by simp))
            have d0 := (hbw.cell (p := ⟨w.heap.size + 1, 0, none⟩) rl).trans a0
            have d1 := (hbw.cell (p := ⟨w.heap.size + 1, 1, none⟩) rl).trans a1
            have d2 := (hbw.cell (p := ⟨w.heap.size + 1, 2, none⟩) rl).trans a2
            have d3 := (hbw.cell (p := ⟨w.heap.size + 1, 3, none⟩) rl).trans a3
            have d4 := (hbw.cell (p := ⟨w.heap.size + 1, 4, none⟩) rl).trans a4
            have df : ∀ o, w3.frozen? ⟨w.heap.size + 1, o, none⟩ = false := fun o => (hbw.frozen (p := ⟨w.heap.size + 1, o, none⟩) rl).trans (af o)
            have dl : w.heap.size + 1 < w3.heap.size := by omega
            unfold Cod.v
            go_wp2
            go_roundw
            case rel =>
              have hd : At5 w3 (w.heap.size + 1) r := ⟨dl, ⟨d0, d1, d2, d3, d4⟩, df⟩
              have hbs := set5_below (n := w.heap.size + 1) (W := w3) (B := w.heap.size + 1) (up s h (k + 1)) (Nat.le_refl _)
              have hnw := hd.set5 (up s h (k + 1))
              refine ⟨k + 1, by omega, by go_num, ?_, ?_, ?_, by simp; omega⟩
              · exact (H5.out.below hbw (by omega)).below (set5_below (n := w.heap.size + 1) _ (Nat.le_refl _)) (by omega)
              · rw [HV.out, show upW s 1 = (b1 : Int) from by rw [HW.out]; simp] at hnw ⊢
                exact hnw
              · exact (HB.out.trans (hbw.mono HB.out.size)).trans ((set5_below (n := w.heap.size + 1) _ (Nat.le_refl _)).mono (by omega))
            case measure => simp [intOf]; omega
      · have HPl : Hid (∀ w, Calls Tryd.prog 27 #[.int .i64 2] w fun e w' => e = .returned (.tuple #[.int .i64 2, .int .i64 1]) ∧ w' = w) := fun w => place_any 2 w hl
        go_wp2_with (first | (go_at_call 27; refine (HPl.out _).mono ?_; rintro e w' ⟨rfl, hw'⟩; rw [hw']; clear hw' w'))
        go_loopw [8, 26] (fun n i wx => ∃ j : Nat, j ≤ 1 ∧ i = .int .i64 j ∧ (j = 0 → n = .int .i64 0) ∧ (j = 1 → n = .int .i64 (b2 : Int)) ∧ ∃ m, wx = wr.drewN m) (fun _ i _ => 1 - (intOf i).toNat)
        case atStart => exact ⟨0, by omega, rfl, (fun h => rfl), (fun h => by omega), 0, rfl⟩
        case round =>
          obtain ⟨j, hj, rfl, g0, g1, m, rfl⟩ := hrel
          rcases (show j = 0 ∨ j = 1 by omega) with rfl | rfl
          · obtain rfl := g0 rfl
            clear g0 g1
            go_wp2
            go_roundw
            case rel => exact ⟨1, by omega, rfl, (fun h => by omega), (fun h => by rw [or0 b2 q2]), m, rfl⟩
            case measure => simp [intOf]
          · obtain rfl := g1 rfl
            clear g0 g1
            have HV : Hid (up s h (k + 1) = wth r 2 (upW s 2)) := HP
            clear HP
            go_wp2_with (first | (go_at_call 26; refine (with_any r 2 _ _ hl).mono ?_; rintro e w3 ⟨rfl, hb3⟩; refine Hid.out ?_))
            refine Lib.hid ?_
            have hz3 : wr.heap.size ≤ w3.heap.size := by have := hb3.size; simpa using this
            have hbw : Below wr.heap.size wr w3 := (bdn (Below.refl _ _) m).trans (hb3.mono (by simp))
            have d0 := (hbw.cell (p := ⟨w.heap.size + 1, 0, none⟩) rl).trans a0
            have d1 := (hbw.cell (p := ⟨w.heap.size + 1, 1, none⟩) rl).trans a1
            have d2 := (hbw.cell (p := ⟨w.heap.size + 1, 2, none⟩) rl).trans a2
            have d3 := (hbw.cell (p := ⟨w.heap.size + 1, 3, none⟩) rl).trans a3
            have d4 := (hbw.cell (p := ⟨w.heap.size + 1, 4, none⟩) rl).trans a4
            have df : ∀ o, w3.frozen? ⟨w.heap.size + 1, o, none⟩ = false := fun o => (hbw.frozen (p := ⟨w.heap.size + 1, o, none⟩) rl).trans (af o)
            have dl : w.heap.size + 1 < w3.heap.size := by omega
            unfold Cod.v
            go_wp2
            go_roundw
            case rel =>
              have hd : At5 w3 (w.heap.size + 1) r := ⟨dl, ⟨d0, d1, d2, d3, d4⟩, df⟩
              have hbs := set5_below (n := w.heap.size + 1) (W := w3) (B := w.heap.size + 1) (up s h (k + 1)) (Nat.le_refl _)
              have hnw := hd.set5 (up s h (k + 1))
              refine ⟨k + 1, by omega, by go_num, ?_, ?_, ?_, by simp; omega⟩
              · exact (H5.out.below hbw (by omega)).below (set5_below (n := w.heap.size + 1) _ (Nat.le_refl _)) (by omega)
              · rw [HV.out, show upW s 2 = (b2 : Int) from by rw [HW.out]; simp] at hnw ⊢
                exact hnw
              · exact (HB.out.trans (hbw.mono HB.out.size)).trans ((set5_below (n := w.heap.size + 1) _ (Nat.le_refl _)).mono (by omega))
            case measure => simp [intOf]; omega
      · have HPl : Hid (∀ w, Calls Tryd.prog 27 #[.int .i64 3] w fun e w' => e = .returned (.tuple #[.int .i64 3, .int .i64 1]) ∧ w' = w) := fun w => place_any 3 w hl
        go_wp2_with (first | (go_at_call 27; refine (HPl.out _).mono ?_; rintro e w' ⟨rfl, hw'⟩; rw [hw']; clear hw' w'))
        go_loopw [8, 26] (fun n i wx => ∃ j : Nat, j ≤ 1 ∧ i = .int .i64 j ∧ (j = 0 → n = .int .i64 0) ∧ (j = 1 → n = .int .i64 (b3 : Int)) ∧ ∃ m, wx = wr.drewN m) (fun _ i _ => 1 - (intOf i).toNat)
        case atStart => exact ⟨0, by omega, rfl, (fun h => rfl), (fun h => by omega), 0, rfl⟩
        case round =>
          obtain ⟨j, hj, rfl, g0, g1, m, rfl⟩ := hrel
          rcases (show j = 0 ∨ j = 1 by omega) with rfl | rfl
          · obtain rfl := g0 rfl
            clear g0 g1
            go_wp2
            go_roundw
            case rel => exact ⟨1, by omega, rfl, (fun h => by omega), (fun h => by rw [or0 b3 q3]), m, rfl⟩
            case measure => simp [intOf]
          · obtain rfl := g1 rfl
            clear g0 g1
            have HV : Hid (up s h (k + 1) = wth r 3 (upW s 3)) := HP
            clear HP
            go_wp2_with (first | (go_at_call 26; refine (with_any r 3 _ _ hl).mono ?_; rintro e w3 ⟨rfl, hb3⟩; refine Hid.out ?_))
            refine Lib.hid ?_
            have hz3 : wr.heap.size ≤ w3.heap.size := by have := hb3.size; simpa using this
            have hbw : Below wr.heap.size wr w3 := (bdn (Below.refl _ _) m).trans (hb3.mono (by simp))
            have d0 := (hbw.cell (p := ⟨w.heap.size + 1, 0, none⟩) rl).trans a0
            have d1 := (hbw.cell (p := ⟨w.heap.size + 1, 1, none⟩) rl).trans a1
            have d2 := (hbw.cell (p := ⟨w.heap.size + 1, 2, none⟩) rl).trans a2
            have d3 := (hbw.cell (p := ⟨w.heap.size + 1, 3, none⟩) rl).trans a3
            have d4 := (hbw.cell (p := ⟨w.heap.size + 1, 4, none⟩) rl).trans a4
            have df : ∀ o, w3.frozen? ⟨w.heap.size + 1, o, none⟩ = false := fun o => (hbw.frozen (p := ⟨w.heap.size + 1, o, none⟩) rl).trans (af o)
            have dl : w.heap.size + 1 < w3.heap.size := by omega
            unfold Cod.v
            go_wp2
            go_roundw
            case rel =>
              have hd : At5 w3 (w.heap.size + 1) r := ⟨dl, ⟨d0, d1, d2, d3, d4⟩, df⟩
              have hbs := set5_below (n := w.heap.size + 1) (W := w3) (B := w.heap.size + 1) (up s h (k + 1)) (Nat.le_refl _)
              have hnw := hd.set5 (up s h (k + 1))
              refine ⟨k + 1, by omega, by go_num, ?_, ?_, ?_, by simp; omega⟩
              · exact (H5.out.below hbw (by omega)).below (set5_below (n := w.heap.size + 1) _ (Nat.le_refl _)) (by omega)
              · rw [HV.out, show upW s 3 = (b3 : Int) from by rw [HW.out]; simp] at hnw ⊢
                exact hnw
              · exact (HB.out.trans (hbw.mono HB.out.size)).trans ((set5_below (n := w.heap.size + 1) _ (Nat.le_refl _)).mono (by omega))
            case measure => simp [intOf]; omega
      · have HPl : Hid (∀ w, Calls Tryd.prog 27 #[.int .i64 4] w fun e w' => e = .returned (.tuple #[.int .i64 3, .int .i64 1]) ∧ w' = w) := fun w => place_any 4 w hl
        go_wp2_with (first | (go_at_call 27; refine (HPl.out _).mono ?_; rintro e w' ⟨rfl, hw'⟩; rw [hw']; clear hw' w'))
        go_loopw [8, 26] (fun n i wx => ∃ j : Nat, j ≤ 1 ∧ i = .int .i64 j ∧ (j = 0 → n = .int .i64 0) ∧ (j = 1 → n = .int .i64 (b3 : Int)) ∧ ∃ m, wx = wr.drewN m) (fun _ i _ => 1 - (intOf i).toNat)
        case atStart => exact ⟨0, by omega, rfl, (fun h => rfl), (fun h => by omega), 0, rfl⟩
        case round =>
          obtain ⟨j, hj, rfl, g0, g1, m, rfl⟩ := hrel
          rcases (show j = 0 ∨ j = 1 by omega) with rfl | rfl
          · obtain rfl := g0 rfl
            clear g0 g1
            go_wp2
            go_roundw
            case rel => exact ⟨1, by omega, rfl, (fun h => by omega), (fun h => by rw [or0 b3 q3]), m, rfl⟩
            case measure => simp [intOf]
          · obtain rfl := g1 rfl
            clear g0 g1
            have HV : Hid (up s h (k + 1) = wth r 4 (upW s 4)) := HP
            clear HP
            go_wp2_with (first | (go_at_call 26; refine (with_any r 4 _ _ hl).mono ?_; rintro e w3 ⟨rfl, hb3⟩; refine Hid.out ?_))
            refine Lib.hid ?_
            have hz3 : wr.heap.size ≤ w3.heap.size := by have := hb3.size; simpa using this
            have hbw : Below wr.heap.size wr w3 := (bdn (Below.refl _ _) m).trans (hb3.mono (by simp))
            have d0 := (hbw.cell (p := ⟨w.heap.size + 1, 0, none⟩) rl).trans a0
            have d1 := (hbw.cell (p := ⟨w.heap.size + 1, 1, none⟩) rl).trans a1
            have d2 := (hbw.cell (p := ⟨w.heap.size + 1, 2, none⟩) rl).trans a2
            have d3 := (hbw.cell (p := ⟨w.heap.size + 1, 3, none⟩) rl).trans a3
            have d4 := (hbw.cell (p := ⟨w.heap.size + 1, 4, none⟩) rl).trans a4
            have df : ∀ o, w3.frozen? ⟨w.heap.size + 1, o, none⟩ = false := fun o => (hbw.frozen (p := ⟨w.heap.size + 1, o, none⟩) rl).trans (af o)
            have dl : w.heap.size + 1 < w3.heap.size := by omega
            unfold Cod.v
            go_wp2
            go_roundw
            case rel =>
              have hd : At5 w3 (w.heap.size + 1) r := ⟨dl, ⟨d0, d1, d2, d3, d4⟩, df⟩
              have hbs := set5_below (n := w.heap.size + 1) (W := w3) (B := w.heap.size + 1) (up s h (k + 1)) (Nat.le_refl _)
              have hnw := hd.set5 (up s h (k + 1))
              refine ⟨k + 1, by omega, by go_num, ?_, ?_, ?_, by simp; omega⟩
              · exact (H5.out.below hbw (by omega)).below (set5_below (n := w.heap.size + 1) _ (Nat.le_refl _)) (by omega)
              · rw [HV.out, show upW s 4 = (b3 : Int) from by rw [HW.out]; simp] at hnw ⊢
                exact hnw
              · exact (HB.out.trans (hbw.mono HB.out.size)).trans ((set5_below (n := w.heap.size + 1) _ (Nat.le_refl _)).mono (by omega))
            case measure => simp [intOf]; omega
      · have HPl : Hid (∀ w, Calls Tryd.prog 27 #[.int .i64 5] w fun e w' => e = .returned (.tuple #[.int .i64 2, .int .i64 2]) ∧ w' = w) := fun w => place_any 5 w hl
        go_wp2_with (first | (go_at_call 27; refine (HPl.out _).mono ?_; rintro e w' ⟨rfl, hw'⟩; rw [hw']; clear hw' w'))
        go_loopw [8, 26] (fun n i wx => ∃ j : Nat, j ≤ 2 ∧ i = .int .i64 j ∧ (j = 0 → n = .int .i64 0) ∧ (j = 1 → n = .int .i64 (b2 : Int)) ∧ (j = 2 → n = .int .i64 ((b2 : Int) + 256 * (b3 : Int))) ∧ ∃ m, wx = wr.drewN m) (fun _ i _ => 2 - (intOf i).toNat)
        case atStart => exact ⟨0, by omega, rfl, (fun h => rfl), (fun h => by omega), (fun h => by omega), 0, rfl⟩
        case round =>
          obtain ⟨j, hj, rfl, g0, g1, g2, m, rfl⟩ := hrel
          rcases (show j = 0 ∨ j = 1 ∨ j = 2 by omega) with rfl | rfl | rfl
          · obtain rfl := g0 rfl
            clear g0 g1 g2
            go_wp2
            go_roundw
            case rel => exact ⟨1, by omega, rfl, (fun h => by omega), (fun h => by rw [or0 b2 q2]), (fun h => by omega), m, rfl⟩
            case measure => simp [intOf]
          · obtain rfl := g1 rfl
            clear g0 g1 g2
            go_wp2
            go_roundw
            case rel => exact ⟨2, by omega, rfl, (fun h => by omega), (fun h => by omega), (fun h => by rw [or1 b2 b3 q2 q3]), m, rfl⟩
            case measure => simp [intOf]
          · obtain rfl := g2 rfl
            clear g0 g1 g2
            have HV : Hid (up s h (k + 1) = wth r 5 (upW s 5)) := HP
            clear HP
            go_wp2_with (first | (go_at_call 26; refine (with_any r 5 _ _ hl).mono ?_; rintro e w3 ⟨rfl, hb3⟩; refine Hid.out ?_))
            refine Lib.hid ?_
            have hz3 : wr.heap.size ≤ w3.heap.size := by have := hb3.size; simpa using this
            have hbw : Below wr.heap.size wr w3 := (bdn (Below.refl _ _) m).trans (hb3.mono (by simp))
            have d0 := (hbw.cell (p := ⟨w.heap.size + 1, 0, none⟩) rl).trans a0
            have d1 := (hbw.cell (p := ⟨w.heap.size + 1, 1, none⟩) rl).trans a1
            have d2 := (hbw.cell (p := ⟨w.heap.size + 1, 2, none⟩) rl).trans a2
            have d3 := (hbw.cell (p := ⟨w.heap.size + 1, 3, none⟩) rl).trans a3
            have d4 := (hbw.cell (p := ⟨w.heap.size + 1, 4, none⟩) rl).trans a4
            have df : ∀ o, w3.frozen? ⟨w.heap.size + 1, o, none⟩ = false := fun o => (hbw.frozen (p := ⟨w.heap.size + 1, o, none⟩) rl).trans (af o)
            have dl : w.heap.size + 1 < w3.heap.size := by omega
            unfold Cod.v
            go_wp2
            go_roundw
            case rel =>
              have hd : At5 w3 (w.heap.size + 1) r := ⟨dl, ⟨d0, d1, d2, d3, d4⟩, df⟩
              have hbs := set5_below (n := w.heap.size + 1) (W := w3) (B := w.heap.size + 1) (up s h (k + 1)) (Nat.le_refl _)
              have hnw := hd.set5 (up s h (k + 1))
              refine ⟨k + 1, by omega, by go_num, ?_, ?_, ?_, by simp; omega⟩
              · exact (H5.out.below hbw (by omega)).below (set5_below (n := w.heap.size + 1) _ (Nat.le_refl _)) (by omega)
              · rw [HV.out, show upW s 5 = ((b2 : Int) + 256 * (b3 : Int)) from by rw [HW.out]; simp] at hnw ⊢
                exact hnw
              · exact (HB.out.trans (hbw.mono HB.out.size)).trans ((set5_below (n := w.heap.size + 1) _ (Nat.le_refl _)).mono (by omega))
            case measure => simp [intOf]; omega
      · have HPl : Hid (∀ w, Calls Tryd.prog 27 #[.int .i64 6] w fun e w' => e = .returned (.tuple #[.int .i64 2, .int .i64 2]) ∧ w' = w) := fun w => place_any 6 w hl
        go_wp2_with (first | (go_at_call 27; refine (HPl.out _).mono ?_; rintro e w' ⟨rfl, hw'⟩; rw [hw']; clear hw' w'))
        go_loopw [8, 26] (fun n i wx => ∃ j : Nat, j ≤ 2 ∧ i = .int .i64 j ∧ (j = 0 → n = .int .i64 0) ∧ (j = 1 → n = .int .i64 (b2 : Int)) ∧ (j = 2 → n = .int .i64 ((b2 : Int) + 256 * (b3 : Int))) ∧ ∃ m, wx = wr.drewN m) (fun _ i _ => 2 - (intOf i).toNat)
        case atStart => exact ⟨0, by omega, rfl, (fun h => rfl), (fun h => by omega), (fun h => by omega), 0, rfl⟩
        case round =>
          obtain ⟨j, hj, rfl, g0, g1, g2, m, rfl⟩ := hrel
          rcases (show j = 0 ∨ j = 1 ∨ j = 2 by omega) with rfl | rfl | rfl
          · obtain rfl := g0 rfl
            clear g0 g1 g2
            go_wp2
            go_roundw
            case rel => exact ⟨1, by omega, rfl, (fun h => by omega), (fun h => by rw [or0 b2 q2]), (fun h => by omega), m, rfl⟩
            case measure => simp [intOf]
          · obtain rfl := g1 rfl
            clear g0 g1 g2
            go_wp2
            go_roundw
            case rel => exact ⟨2, by omega, rfl, (fun h => by omega), (fun h => by omega), (fun h => by rw [or1 b2 b3 q2 q3]), m, rfl⟩
            case measure => simp [intOf]
          · obtain rfl := g2 rfl
            clear g0 g1 g2
            have HV : Hid (up s h (k + 1) = wth r 6 (upW s 6)) := HP
            clear HP
            go_wp2_with (first | (go_at_call 26; refine (with_any r 6 _ _ hl).mono ?_; rintro e w3 ⟨rfl, hb3⟩; refine Hid.out ?_))
            refine Lib.hid ?_
            have hz3 : wr.heap.size ≤ w3.heap.size := by have := hb3.size; simpa using this
            have hbw : Below wr.heap.size wr w3 := (bdn (Below.refl _ _) m).trans (hb3.mono (by simp))
            have d0 := (hbw.cell (p := ⟨w.heap.size + 1, 0, none⟩) rl).trans a0
            have d1 := (hbw.cell (p := ⟨w.heap.size + 1, 1, none⟩) rl).trans a1
            have d2 := (hbw.cell (p := ⟨w.heap.size + 1, 2, none⟩) rl).trans a2
            have d3 := (hbw.cell (p := ⟨w.heap.size + 1, 3, none⟩) rl).trans a3
            have d4 := (hbw.cell (p := ⟨w.heap.size + 1, 4, none⟩) rl).trans a4
            have df : ∀ o, w3.frozen? ⟨w.heap.size + 1, o, none⟩ = false := fun o => (hbw.frozen (p := ⟨w.heap.size + 1, o, none⟩) rl).trans (af o)
            have dl : w.heap.size + 1 < w3.heap.size := by omega
            unfold Cod.v
            go_wp2
            go_roundw
            case rel =>
              have hd : At5 w3 (w.heap.size + 1) r := ⟨dl, ⟨d0, d1, d2, d3, d4⟩, df⟩
              have hbs := set5_below (n := w.heap.size + 1) (W := w3) (B := w.heap.size + 1) (up s h (k + 1)) (Nat.le_refl _)
              have hnw := hd.set5 (up s h (k + 1))
              refine ⟨k + 1, by omega, by go_num, ?_, ?_, ?_, by simp; omega⟩
              · exact (H5.out.below hbw (by omega)).below (set5_below (n := w.heap.size + 1) _ (Nat.le_refl _)) (by omega)
              · rw [HV.out, show upW s 6 = wrap64 (IntKind.i16.wrap ((b2 : Int) + 256 * (b3 : Int))) from by rw [HW.out, i16w _ (by omega) (by omega)]; simp] at hnw ⊢
                exact hnw
              · exact (HB.out.trans (hbw.mono HB.out.size)).trans ((set5_below (n := w.heap.size + 1) _ (Nat.le_refl _)).mono (by omega))
            case measure => simp [intOf]; omega
    · obtain rfl : k = 3 := by omega
      obtain ⟨_, ⟨a0, a1, a2, a3, a4⟩, af⟩ := h5
      obtain ⟨rl, ⟨c0, c1, c2, c3, c4⟩, cf⟩ := hr
      have hB' := Lib.hid hB
      clear hB
      go_wp2
      refine bodyPost_ret (v := (up s h 3).v) (by simp [results, Tryd.results22, go_sem, Cod.v, a0, a1, a2, a3, a4]) rfl ⟨by rw [HQ.out], ?_⟩
      exact hB'.out.trans (set5_below (n := w.heap.size) _ (Nat.le_refl _))
end Go.Proofs.YtgldkmabhmlijaaDoor
