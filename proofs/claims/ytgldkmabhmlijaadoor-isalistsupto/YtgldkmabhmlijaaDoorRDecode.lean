/- What Decode of the reference answers, for every string. -/
import Derived.Test.YtgldkmabhmlijaaDoorRRight
import Derived.Test.YtgldkmabhmlijaaDoorUnpack
import Derived.BigRegion
import Derived.BigQuiet
import Derived.Deep.RegionWith
namespace Go.Proofs.YtgldkmabhmlijaaDoor
open Go.RowKit Go.Sort
set_option maxRecDepth 100000 in
set_option maxHeartbeats 4000000 in
theorem rDecode_1 (s : ByteArray) (b0 b1 b2 b3 : Nat) (w : World) (hs : s.size = 4) (y0 : byS s 0 = b0) (y1 : byS s 1 = b1) (y2 : byS s 2 = b2) (y3 : byS s 3 = b3) (h : sh b0 = 1) : Calls Tryd.prog 10 #[.string s] w fun e w' => e = .returned (.tuple #[(⟨b0, b1, 0, 0, (b2 : Int) + 256 * b3⟩ : Cod).v, .bool (rightC ⟨b0, b1, 0, 0, (b2 : Int) + 256 * b3⟩)]) ∧ Below w.heap.size w w' := by
  have hs0 : 0 < s.size := by omega
  have hs1 : 1 < s.size := by omega
  have hs2 : 2 < s.size := by omega
  have hs3 : 3 < s.size := by omega
  have q0 := byS_lt s 0
  have q1 := byS_lt s 1
  have q2 := byS_lt s 2
  have q3 := byS_lt s 3
  rw [y0] at q0; rw [y1] at q1; rw [y2] at q2; rw [y3] at q3
  replace y0 : s[0].toNat = b0 := (byS_get s 0 hs0).trans y0
  replace y1 : s[1].toNat = b1 := (byS_get s 1 hs1).trans y1
  replace y2 : s[2].toNat = b2 := (byS_get s 2 hs2).trans y2
  replace y3 : s[3].toNat = b3 := (byS_get s 3 hs3).trans y3
  have hsi : ((s.size : Int) != 4) = false := by simp; omega
  have HS : Hid (∀ w, Calls Tryd.prog 20 #[.int .i64 b0] w fun e w' => e = .returned (.int .i64 1) ∧ w' = w) := fun w => by have := Shape_any b0 w; rw [h] at this; exact this
  clear h
  have HR := Lib.hid (rRight_any (⟨b0, b1, 0, 0, (b2 : Int) + 256 * b3⟩ : Cod))
  unfold Cod.v at HR
  simp only at HR
  go_enter Tryd.func10, Tryd.ntmps10
  go_wp2
  go_region
  go_wp2
  go_region
  go_wp2_with (first | (go_at_call 20; refine (HS.out _).mono ?_; rintro e w' ⟨rfl, hw'⟩; rw [hw']; clear hw' w'))
  obtain ⟨W0, hW0⟩ : ∃ W0, W0 = ((w.alloc (.cells #[.int .i64 0, .int .i64 0, .int .i64 0, .int .i64 0, .int .i64 0] 25)).alloc (.cells #[.int .i64 b0, .int .i64 b1, .int .i64 0, .int .i64 0, .int .i64 ((b2 : Int) + 256 * b3)] 25)).drew.drew := ⟨_, rfl⟩
  rw [← hW0]
  have hB0 : Below w.heap.size w W0 := by rw [hW0]; exact ((((Below.refl _ w).alloc (Nat.le_refl _) _).alloc (by simp) _).drew).drew
  have r0 : At5 W0 w.heap.size ⟨0, 0, 0, 0, 0⟩ := by
    rw [hW0]
    have := (At5.new w ⟨0, 0, 0, 0, 0⟩ 25).below (((Below.refl (w.heap.size + 1) _).alloc (by simp) (.cells #[.int .i64 b0, .int .i64 b1, .int .i64 0, .int .i64 0, .int .i64 ((b2 : Int) + 256 * b3)] 25)).drew.drew) (by omega)
    exact this
  have r1 : At5 W0 (w.heap.size + 1) ⟨b0, b1, 0, 0, (b2 : Int) + 256 * b3⟩ := by
    rw [hW0]
    have := At5.new (w.alloc (.cells #[.int .i64 0, .int .i64 0, .int .i64 0, .int .i64 0, .int .i64 0] 25)) ⟨b0, b1, 0, 0, (b2 : Int) + 256 * b3⟩ 25
    rw [World.size_alloc] at this
    exact this.below ((Below.refl (w.heap.size + 2) _).drew.drew) (by omega)
  clear hW0
  obtain ⟨l0, ⟨a0, a1, a2, a3, a4⟩, af⟩ := r0
  obtain ⟨l1, ⟨c0, c1, c2, c3, c4⟩, cf⟩ := r1
  simp only at a0 a1 a2 a3 a4 c0 c1 c2 c3 c4
  go_region_with (go_at_call 21; refine (HR.out _).mono ?_; rintro e w3 ⟨rfl, hb3⟩; have d0 := (hb3.cell (p := ⟨w.heap.size, 0, none⟩) l0).trans a0; have d1 := (hb3.cell (p := ⟨w.heap.size, 1, none⟩) l0).trans a1; have d2 := (hb3.cell (p := ⟨w.heap.size, 2, none⟩) l0).trans a2; have d3 := (hb3.cell (p := ⟨w.heap.size, 3, none⟩) l0).trans a3; have d4 := (hb3.cell (p := ⟨w.heap.size, 4, none⟩) l0).trans a4; have df : ∀ o, w3.frozen? ⟨w.heap.size, o, none⟩ = false := (fun o => (hb3.frozen (p := ⟨w.heap.size, o, none⟩) l0).trans (af o)); have dl : w.heap.size < w3.heap.size := Nat.lt_of_lt_of_le l0 hb3.size; have g0 := (hb3.cell (p := ⟨w.heap.size + 1, 0, none⟩) l1).trans c0; have g1 := (hb3.cell (p := ⟨w.heap.size + 1, 1, none⟩) l1).trans c1; have g2 := (hb3.cell (p := ⟨w.heap.size + 1, 2, none⟩) l1).trans c2; have g3 := (hb3.cell (p := ⟨w.heap.size + 1, 3, none⟩) l1).trans c3; have g4 := (hb3.cell (p := ⟨w.heap.size + 1, 4, none⟩) l1).trans c4; have gl : w.heap.size + 1 < w3.heap.size := Nat.lt_of_lt_of_le l1 hb3.size)
  all_goals
    go_wp2
    refine bodyPost_ret (v := .tuple #[(⟨b0, b1, 0, 0, (b2 : Int) + 256 * b3⟩ : Cod).v, .bool (rightC ⟨b0, b1, 0, 0, (b2 : Int) + 256 * b3⟩)]) (by simp [results, Tryd.results10, go_sem, Cod.v, d0, d1, d2, d3, d4]) rfl ⟨rfl, ?_⟩
    first
      | exact ((hB0.trans (hb3.mono hB0.size)).trans (set5_below (n := w.heap.size) ⟨b0, b1, 0, 0, (b2 : Int) + 256 * b3⟩ (Nat.le_refl _)))
      | exact (((hB0.drew).trans (hb3.mono hB0.size)).trans (set5_below (n := w.heap.size) ⟨b0, b1, 0, 0, (b2 : Int) + 256 * b3⟩ (Nat.le_refl _)))
set_option maxRecDepth 100000 in
set_option maxHeartbeats 4000000 in
theorem rDecode_4 (s : ByteArray) (b0 b1 b2 b3 : Nat) (w : World) (hs : s.size = 4) (y0 : byS s 0 = b0) (y1 : byS s 1 = b1) (y2 : byS s 2 = b2) (y3 : byS s 3 = b3) (h : sh b0 = 4) : Calls Tryd.prog 10 #[.string s] w fun e w' => e = .returned (.tuple #[(⟨b0, b1, b2, 0, b3⟩ : Cod).v, .bool (rightC ⟨b0, b1, b2, 0, b3⟩)]) ∧ Below w.heap.size w w' := by
  have hs0 : 0 < s.size := by omega
  have hs1 : 1 < s.size := by omega
  have hs2 : 2 < s.size := by omega
  have hs3 : 3 < s.size := by omega
  have q0 := byS_lt s 0
  have q1 := byS_lt s 1
  have q2 := byS_lt s 2
  have q3 := byS_lt s 3
  rw [y0] at q0; rw [y1] at q1; rw [y2] at q2; rw [y3] at q3
  replace y0 : s[0].toNat = b0 := (byS_get s 0 hs0).trans y0
  replace y1 : s[1].toNat = b1 := (byS_get s 1 hs1).trans y1
  replace y2 : s[2].toNat = b2 := (byS_get s 2 hs2).trans y2
  replace y3 : s[3].toNat = b3 := (byS_get s 3 hs3).trans y3
  have hsi : ((s.size : Int) != 4) = false := by simp; omega
  have HS : Hid (∀ w, Calls Tryd.prog 20 #[.int .i64 b0] w fun e w' => e = .returned (.int .i64 4) ∧ w' = w) := fun w => by have := Shape_any b0 w; rw [h] at this; exact this
  clear h
  have HR := Lib.hid (rRight_any (⟨b0, b1, b2, 0, b3⟩ : Cod))
  unfold Cod.v at HR
  simp only at HR
  go_enter Tryd.func10, Tryd.ntmps10
  go_wp2
  go_region
  go_wp2
  go_region
  go_wp2_with (first | (go_at_call 20; refine (HS.out _).mono ?_; rintro e w' ⟨rfl, hw'⟩; rw [hw']; clear hw' w'))
  obtain ⟨W0, hW0⟩ : ∃ W0, W0 = ((w.alloc (.cells #[.int .i64 0, .int .i64 0, .int .i64 0, .int .i64 0, .int .i64 0] 25)).alloc (.cells #[.int .i64 b0, .int .i64 b1, .int .i64 b2, .int .i64 0, .int .i64 b3] 25)).drew.drew := ⟨_, rfl⟩
  rw [← hW0]
  have hB0 : Below w.heap.size w W0 := by rw [hW0]; exact ((((Below.refl _ w).alloc (Nat.le_refl _) _).alloc (by simp) _).drew).drew
  have r0 : At5 W0 w.heap.size ⟨0, 0, 0, 0, 0⟩ := by
    rw [hW0]
    have := (At5.new w ⟨0, 0, 0, 0, 0⟩ 25).below (((Below.refl (w.heap.size + 1) _).alloc (by simp) (.cells #[.int .i64 b0, .int .i64 b1, .int .i64 b2, .int .i64 0, .int .i64 b3] 25)).drew.drew) (by omega)
    exact this
  have r1 : At5 W0 (w.heap.size + 1) ⟨b0, b1, b2, 0, b3⟩ := by
    rw [hW0]
    have := At5.new (w.alloc (.cells #[.int .i64 0, .int .i64 0, .int .i64 0, .int .i64 0, .int .i64 0] 25)) ⟨b0, b1, b2, 0, b3⟩ 25
    rw [World.size_alloc] at this
    exact this.below ((Below.refl (w.heap.size + 2) _).drew.drew) (by omega)
  clear hW0
  obtain ⟨l0, ⟨a0, a1, a2, a3, a4⟩, af⟩ := r0
  obtain ⟨l1, ⟨c0, c1, c2, c3, c4⟩, cf⟩ := r1
  simp only at a0 a1 a2 a3 a4 c0 c1 c2 c3 c4
  go_region_with (go_at_call 21; refine (HR.out _).mono ?_; rintro e w3 ⟨rfl, hb3⟩; have d0 := (hb3.cell (p := ⟨w.heap.size, 0, none⟩) l0).trans a0; have d1 := (hb3.cell (p := ⟨w.heap.size, 1, none⟩) l0).trans a1; have d2 := (hb3.cell (p := ⟨w.heap.size, 2, none⟩) l0).trans a2; have d3 := (hb3.cell (p := ⟨w.heap.size, 3, none⟩) l0).trans a3; have d4 := (hb3.cell (p := ⟨w.heap.size, 4, none⟩) l0).trans a4; have df : ∀ o, w3.frozen? ⟨w.heap.size, o, none⟩ = false := (fun o => (hb3.frozen (p := ⟨w.heap.size, o, none⟩) l0).trans (af o)); have dl : w.heap.size < w3.heap.size := Nat.lt_of_lt_of_le l0 hb3.size; have g0 := (hb3.cell (p := ⟨w.heap.size + 1, 0, none⟩) l1).trans c0; have g1 := (hb3.cell (p := ⟨w.heap.size + 1, 1, none⟩) l1).trans c1; have g2 := (hb3.cell (p := ⟨w.heap.size + 1, 2, none⟩) l1).trans c2; have g3 := (hb3.cell (p := ⟨w.heap.size + 1, 3, none⟩) l1).trans c3; have g4 := (hb3.cell (p := ⟨w.heap.size + 1, 4, none⟩) l1).trans c4; have gl : w.heap.size + 1 < w3.heap.size := Nat.lt_of_lt_of_le l1 hb3.size)
  all_goals
    go_wp2
    refine bodyPost_ret (v := .tuple #[(⟨b0, b1, b2, 0, b3⟩ : Cod).v, .bool (rightC ⟨b0, b1, b2, 0, b3⟩)]) (by simp [results, Tryd.results10, go_sem, Cod.v, d0, d1, d2, d3, d4]) rfl ⟨rfl, ?_⟩
    first
      | exact ((hB0.trans (hb3.mono hB0.size)).trans (set5_below (n := w.heap.size) ⟨b0, b1, b2, 0, b3⟩ (Nat.le_refl _)))
      | exact (((hB0.drew).trans (hb3.mono hB0.size)).trans (set5_below (n := w.heap.size) ⟨b0, b1, b2, 0, b3⟩ (Nat.le_refl _)))
set_option maxRecDepth 100000 in
set_option maxHeartbeats 4000000 in
theorem rDecode_5n (s : ByteArray) (b0 b1 b2 b3 : Nat) (w : World) (hs : s.size = 4) (y0 : byS s 0 = b0) (y1 : byS s 1 = b1) (y2 : byS s 2 = b2) (y3 : byS s 3 = b3) (m : Int) (hmi : (b2 : Int) + 256 * b3 = m) (hm2 : m < 32768) (hm0 : 0 ≤ m) (h : sh b0 = 5) : Calls Tryd.prog 10 #[.string s] w fun e w' => e = .returned (.tuple #[(⟨b0, b1, 0, 0, m⟩ : Cod).v, .bool (rightC ⟨b0, b1, 0, 0, m⟩)]) ∧ Below w.heap.size w w' := by
  have hs0 : 0 < s.size := by omega
  have hs1 : 1 < s.size := by omega
  have hs2 : 2 < s.size := by omega
  have hs3 : 3 < s.size := by omega
  have q0 := byS_lt s 0
  have q1 := byS_lt s 1
  have q2 := byS_lt s 2
  have q3 := byS_lt s 3
  rw [y0] at q0; rw [y1] at q1; rw [y2] at q2; rw [y3] at q3
  replace y0 : s[0].toNat = b0 := (byS_get s 0 hs0).trans y0
  replace y1 : s[1].toNat = b1 := (byS_get s 1 hs1).trans y1
  replace y2 : s[2].toNat = b2 := (byS_get s 2 hs2).trans y2
  replace y3 : s[3].toNat = b3 := (byS_get s 3 hs3).trans y3
  have hsi : ((s.size : Int) != 4) = false := by simp; omega
  have hd : decide ((32768 : Int) ≤ m) = false := by simp; omega
  have HS : Hid (∀ w, Calls Tryd.prog 20 #[.int .i64 b0] w fun e w' => e = .returned (.int .i64 5) ∧ w' = w) := fun w => by have := Shape_any b0 w; rw [h] at this; exact this
  clear h
  have HR := Lib.hid (rRight_any (⟨b0, b1, 0, 0, m⟩ : Cod))
  unfold Cod.v at HR
  simp only at HR
  go_enter Tryd.func10, Tryd.ntmps10
  go_wp2
  go_region
  go_wp2
  go_region
  go_wp2_with (first | (go_at_call 20; refine (HS.out _).mono ?_; rintro e w' ⟨rfl, hw'⟩; rw [hw']; clear hw' w'))
  obtain ⟨W0, hW0⟩ : ∃ W0, W0 = ((w.alloc (.cells #[.int .i64 0, .int .i64 0, .int .i64 0, .int .i64 0, .int .i64 0] 25)).alloc (.cells #[.int .i64 b0, .int .i64 b1, .int .i64 0, .int .i64 0, .int .i64 m] 25)).drew.drew := ⟨_, rfl⟩
  rw [← hW0]
  have hB0 : Below w.heap.size w W0 := by rw [hW0]; exact ((((Below.refl _ w).alloc (Nat.le_refl _) _).alloc (by simp) _).drew).drew
  have r0 : At5 W0 w.heap.size ⟨0, 0, 0, 0, 0⟩ := by
    rw [hW0]
    have := (At5.new w ⟨0, 0, 0, 0, 0⟩ 25).below (((Below.refl (w.heap.size + 1) _).alloc (by simp) (.cells #[.int .i64 b0, .int .i64 b1, .int .i64 0, .int .i64 0, .int .i64 m] 25)).drew.drew) (by omega)
    exact this
  have r1 : At5 W0 (w.heap.size + 1) ⟨b0, b1, 0, 0, m⟩ := by
    rw [hW0]
    have := At5.new (w.alloc (.cells #[.int .i64 0, .int .i64 0, .int .i64 0, .int .i64 0, .int .i64 0] 25)) ⟨b0, b1, 0, 0, m⟩ 25
    rw [World.size_alloc] at this
    exact this.below ((Below.refl (w.heap.size + 2) _).drew.drew) (by omega)
  clear hW0
  obtain ⟨l0, ⟨a0, a1, a2, a3, a4⟩, af⟩ := r0
  obtain ⟨l1, ⟨c0, c1, c2, c3, c4⟩, cf⟩ := r1
  simp only at a0 a1 a2 a3 a4 c0 c1 c2 c3 c4
  go_region_with (go_at_call 21; refine (HR.out _).mono ?_; rintro e w3 ⟨rfl, hb3⟩; have d0 := (hb3.cell (p := ⟨w.heap.size, 0, none⟩) l0).trans a0; have d1 := (hb3.cell (p := ⟨w.heap.size, 1, none⟩) l0).trans a1; have d2 := (hb3.cell (p := ⟨w.heap.size, 2, none⟩) l0).trans a2; have d3 := (hb3.cell (p := ⟨w.heap.size, 3, none⟩) l0).trans a3; have d4 := (hb3.cell (p := ⟨w.heap.size, 4, none⟩) l0).trans a4; have df : ∀ o, w3.frozen? ⟨w.heap.size, o, none⟩ = false := (fun o => (hb3.frozen (p := ⟨w.heap.size, o, none⟩) l0).trans (af o)); have dl : w.heap.size < w3.heap.size := Nat.lt_of_lt_of_le l0 hb3.size; have g0 := (hb3.cell (p := ⟨w.heap.size + 1, 0, none⟩) l1).trans c0; have g1 := (hb3.cell (p := ⟨w.heap.size + 1, 1, none⟩) l1).trans c1; have g2 := (hb3.cell (p := ⟨w.heap.size + 1, 2, none⟩) l1).trans c2; have g3 := (hb3.cell (p := ⟨w.heap.size + 1, 3, none⟩) l1).trans c3; have g4 := (hb3.cell (p := ⟨w.heap.size + 1, 4, none⟩) l1).trans c4; have gl : w.heap.size + 1 < w3.heap.size := Nat.lt_of_lt_of_le l1 hb3.size)
  all_goals
    go_wp2
    refine bodyPost_ret (v := .tuple #[(⟨b0, b1, 0, 0, m⟩ : Cod).v, .bool (rightC ⟨b0, b1, 0, 0, m⟩)]) (by simp [results, Tryd.results10, go_sem, Cod.v, d0, d1, d2, d3, d4]) rfl ⟨rfl, ?_⟩
    first
      | exact ((hB0.trans (hb3.mono hB0.size)).trans (set5_below (n := w.heap.size) ⟨b0, b1, 0, 0, m⟩ (Nat.le_refl _)))
      | exact (((hB0.drew).trans (hb3.mono hB0.size)).trans (set5_below (n := w.heap.size) ⟨b0, b1, 0, 0, m⟩ (Nat.le_refl _)))
set_option maxRecDepth 100000 in
set_option maxHeartbeats 4000000 in
theorem rDecode_5p (s : ByteArray) (b0 b1 b2 b3 : Nat) (w : World) (hs : s.size = 4) (y0 : byS s 0 = b0) (y1 : byS s 1 = b1) (y2 : byS s 2 = b2) (y3 : byS s 3 = b3) (hn : (32768 : Int) ≤ (b2 : Int) + 256 * b3) (h : sh b0 = 5) : Calls Tryd.prog 10 #[.string s] w fun e w' => e = .returned (.tuple #[(⟨b0, b1, 0, 0, (b2 : Int) + 256 * b3 - 65536⟩ : Cod).v, .bool (rightC ⟨b0, b1, 0, 0, (b2 : Int) + 256 * b3 - 65536⟩)]) ∧ Below w.heap.size w w' := by
  have hs0 : 0 < s.size := by omega
  have hs1 : 1 < s.size := by omega
  have hs2 : 2 < s.size := by omega
  have hs3 : 3 < s.size := by omega
  have q0 := byS_lt s 0
  have q1 := byS_lt s 1
  have q2 := byS_lt s 2
  have q3 := byS_lt s 3
  rw [y0] at q0; rw [y1] at q1; rw [y2] at q2; rw [y3] at q3
  replace y0 : s[0].toNat = b0 := (byS_get s 0 hs0).trans y0
  replace y1 : s[1].toNat = b1 := (byS_get s 1 hs1).trans y1
  replace y2 : s[2].toNat = b2 := (byS_get s 2 hs2).trans y2
  replace y3 : s[3].toNat = b3 := (byS_get s 3 hs3).trans y3
  have hsi : ((s.size : Int) != 4) = false := by simp; omega
  have HS : Hid (∀ w, Calls Tryd.prog 20 #[.int .i64 b0] w fun e w' => e = .returned (.int .i64 5) ∧ w' = w) := fun w => by have := Shape_any b0 w; rw [h] at this; exact this
  clear h
  have HR := Lib.hid (rRight_any (⟨b0, b1, 0, 0, (b2 : Int) + 256 * b3 - 65536⟩ : Cod))
  unfold Cod.v at HR
  simp only at HR
  go_enter Tryd.func10, Tryd.ntmps10
  go_wp2
  go_region
  go_wp2
  go_region
  go_wp2_with (first | (go_at_call 20; refine (HS.out _).mono ?_; rintro e w' ⟨rfl, hw'⟩; rw [hw']; clear hw' w'))
  obtain ⟨W0, hW0⟩ : ∃ W0, W0 = ((w.alloc (.cells #[.int .i64 0, .int .i64 0, .int .i64 0, .int .i64 0, .int .i64 0] 25)).alloc (.cells #[.int .i64 b0, .int .i64 b1, .int .i64 0, .int .i64 0, .int .i64 ((b2 : Int) + 256 * b3 - 65536)] 25)).drew.drew := ⟨_, rfl⟩
  rw [← hW0]
  have hB0 : Below w.heap.size w W0 := by rw [hW0]; exact ((((Below.refl _ w).alloc (Nat.le_refl _) _).alloc (by simp) _).drew).drew
  have r0 : At5 W0 w.heap.size ⟨0, 0, 0, 0, 0⟩ := by
    rw [hW0]
    have := (At5.new w ⟨0, 0, 0, 0, 0⟩ 25).below (((Below.refl (w.heap.size + 1) _).alloc (by simp) (.cells #[.int .i64 b0, .int .i64 b1, .int .i64 0, .int .i64 0, .int .i64 ((b2 : Int) + 256 * b3 - 65536)] 25)).drew.drew) (by omega)
    exact this
  have r1 : At5 W0 (w.heap.size + 1) ⟨b0, b1, 0, 0, (b2 : Int) + 256 * b3 - 65536⟩ := by
    rw [hW0]
    have := At5.new (w.alloc (.cells #[.int .i64 0, .int .i64 0, .int .i64 0, .int .i64 0, .int .i64 0] 25)) ⟨b0, b1, 0, 0, (b2 : Int) + 256 * b3 - 65536⟩ 25
    rw [World.size_alloc] at this
    exact this.below ((Below.refl (w.heap.size + 2) _).drew.drew) (by omega)
  clear hW0
  obtain ⟨l0, ⟨a0, a1, a2, a3, a4⟩, af⟩ := r0
  obtain ⟨l1, ⟨c0, c1, c2, c3, c4⟩, cf⟩ := r1
  simp only at a0 a1 a2 a3 a4 c0 c1 c2 c3 c4
  go_region_with (go_at_call 21; refine (HR.out _).mono ?_; rintro e w3 ⟨rfl, hb3⟩; have d0 := (hb3.cell (p := ⟨w.heap.size, 0, none⟩) l0).trans a0; have d1 := (hb3.cell (p := ⟨w.heap.size, 1, none⟩) l0).trans a1; have d2 := (hb3.cell (p := ⟨w.heap.size, 2, none⟩) l0).trans a2; have d3 := (hb3.cell (p := ⟨w.heap.size, 3, none⟩) l0).trans a3; have d4 := (hb3.cell (p := ⟨w.heap.size, 4, none⟩) l0).trans a4; have df : ∀ o, w3.frozen? ⟨w.heap.size, o, none⟩ = false := (fun o => (hb3.frozen (p := ⟨w.heap.size, o, none⟩) l0).trans (af o)); have dl : w.heap.size < w3.heap.size := Nat.lt_of_lt_of_le l0 hb3.size; have g0 := (hb3.cell (p := ⟨w.heap.size + 1, 0, none⟩) l1).trans c0; have g1 := (hb3.cell (p := ⟨w.heap.size + 1, 1, none⟩) l1).trans c1; have g2 := (hb3.cell (p := ⟨w.heap.size + 1, 2, none⟩) l1).trans c2; have g3 := (hb3.cell (p := ⟨w.heap.size + 1, 3, none⟩) l1).trans c3; have g4 := (hb3.cell (p := ⟨w.heap.size + 1, 4, none⟩) l1).trans c4; have gl : w.heap.size + 1 < w3.heap.size := Nat.lt_of_lt_of_le l1 hb3.size)
  all_goals
    go_wp2
    refine bodyPost_ret (v := .tuple #[(⟨b0, b1, 0, 0, (b2 : Int) + 256 * b3 - 65536⟩ : Cod).v, .bool (rightC ⟨b0, b1, 0, 0, (b2 : Int) + 256 * b3 - 65536⟩)]) (by simp [results, Tryd.results10, go_sem, Cod.v, d0, d1, d2, d3, d4]) rfl ⟨rfl, ?_⟩
    first
      | exact ((hB0.trans (hb3.mono hB0.size)).trans (set5_below (n := w.heap.size) ⟨b0, b1, 0, 0, (b2 : Int) + 256 * b3 - 65536⟩ (Nat.le_refl _)))
      | exact (((hB0.drew).trans (hb3.mono hB0.size)).trans (set5_below (n := w.heap.size) ⟨b0, b1, 0, 0, (b2 : Int) + 256 * b3 - 65536⟩ (Nat.le_refl _)))
set_option maxRecDepth 100000 in
set_option maxHeartbeats 4000000 in
theorem rDecode_6n (s : ByteArray) (b0 b1 b2 b3 : Nat) (w : World) (hs : s.size = 4) (y0 : byS s 0 = b0) (y1 : byS s 1 = b1) (y2 : byS s 2 = b2) (y3 : byS s 3 = b3) (m : Int) (hmi : (b2 : Int) + 256 * b3 = m) (hm2 : m < 32768) (hm0 : 0 ≤ m) (h : sh b0 = 6) : Calls Tryd.prog 10 #[.string s] w fun e w' => e = .returned (.tuple #[(⟨b0, b1, 0, 0, m⟩ : Cod).v, .bool (rightC ⟨b0, b1, 0, 0, m⟩)]) ∧ Below w.heap.size w w' := by
  have hs0 : 0 < s.size := by omega
  have hs1 : 1 < s.size := by omega
  have hs2 : 2 < s.size := by omega
  have hs3 : 3 < s.size := by omega
  have q0 := byS_lt s 0
  have q1 := byS_lt s 1
  have q2 := byS_lt s 2
  have q3 := byS_lt s 3
  rw [y0] at q0; rw [y1] at q1; rw [y2] at q2; rw [y3] at q3
  replace y0 : s[0].toNat = b0 := (byS_get s 0 hs0).trans y0
  replace y1 : s[1].toNat = b1 := (byS_get s 1 hs1).trans y1
  replace y2 : s[2].toNat = b2 := (byS_get s 2 hs2).trans y2
  replace y3 : s[3].toNat = b3 := (byS_get s 3 hs3).trans y3
  have hsi : ((s.size : Int) != 4) = false := by simp; omega
  have hd : decide ((32768 : Int) ≤ m) = false := by simp; omega
  have HS : Hid (∀ w, Calls Tryd.prog 20 #[.int .i64 b0] w fun e w' => e = .returned (.int .i64 6) ∧ w' = w) := fun w => by have := Shape_any b0 w; rw [h] at this; exact this
  clear h
  have HR := Lib.hid (rRight_any (⟨b0, b1, 0, 0, m⟩ : Cod))
  unfold Cod.v at HR
  simp only at HR
  go_enter Tryd.func10, Tryd.ntmps10
  go_wp2
  go_region
  go_wp2
  go_region
  go_wp2_with (first | (go_at_call 20; refine (HS.out _).mono ?_; rintro e w' ⟨rfl, hw'⟩; rw [hw']; clear hw' w'))
  obtain ⟨W0, hW0⟩ : ∃ W0, W0 = ((w.alloc (.cells #[.int .i64 0, .int .i64 0, .int .i64 0, .int .i64 0, .int .i64 0] 25)).alloc (.cells #[.int .i64 b0, .int .i64 b1, .int .i64 0, .int .i64 0, .int .i64 m] 25)).drew.drew := ⟨_, rfl⟩
  rw [← hW0]
  have hB0 : Below w.heap.size w W0 := by rw [hW0]; exact ((((Below.refl _ w).alloc (Nat.le_refl _) _).alloc (by simp) _).drew).drew
  have r0 : At5 W0 w.heap.size ⟨0, 0, 0, 0, 0⟩ := by
    rw [hW0]
    have := (At5.new w ⟨0, 0, 0, 0, 0⟩ 25).below (((Below.refl (w.heap.size + 1) _).alloc (by simp) (.cells #[.int .i64 b0, .int .i64 b1, .int .i64 0, .int .i64 0, .int .i64 m] 25)).drew.drew) (by omega)
    exact this
  have r1 : At5 W0 (w.heap.size + 1) ⟨b0, b1, 0, 0, m⟩ := by
    rw [hW0]
    have := At5.new (w.alloc (.cells #[.int .i64 0, .int .i64 0, .int .i64 0, .int .i64 0, .int .i64 0] 25)) ⟨b0, b1, 0, 0, m⟩ 25
    rw [World.size_alloc] at this
    exact this.below ((Below.refl (w.heap.size + 2) _).drew.drew) (by omega)
  clear hW0
  obtain ⟨l0, ⟨a0, a1, a2, a3, a4⟩, af⟩ := r0
  obtain ⟨l1, ⟨c0, c1, c2, c3, c4⟩, cf⟩ := r1
  simp only at a0 a1 a2 a3 a4 c0 c1 c2 c3 c4
  go_region_with (go_at_call 21; refine (HR.out _).mono ?_; rintro e w3 ⟨rfl, hb3⟩; have d0 := (hb3.cell (p := ⟨w.heap.size, 0, none⟩) l0).trans a0; have d1 := (hb3.cell (p := ⟨w.heap.size, 1, none⟩) l0).trans a1; have d2 := (hb3.cell (p := ⟨w.heap.size, 2, none⟩) l0).trans a2; have d3 := (hb3.cell (p := ⟨w.heap.size, 3, none⟩) l0).trans a3; have d4 := (hb3.cell (p := ⟨w.heap.size, 4, none⟩) l0).trans a4; have df : ∀ o, w3.frozen? ⟨w.heap.size, o, none⟩ = false := (fun o => (hb3.frozen (p := ⟨w.heap.size, o, none⟩) l0).trans (af o)); have dl : w.heap.size < w3.heap.size := Nat.lt_of_lt_of_le l0 hb3.size; have g0 := (hb3.cell (p := ⟨w.heap.size + 1, 0, none⟩) l1).trans c0; have g1 := (hb3.cell (p := ⟨w.heap.size + 1, 1, none⟩) l1).trans c1; have g2 := (hb3.cell (p := ⟨w.heap.size + 1, 2, none⟩) l1).trans c2; have g3 := (hb3.cell (p := ⟨w.heap.size + 1, 3, none⟩) l1).trans c3; have g4 := (hb3.cell (p := ⟨w.heap.size + 1, 4, none⟩) l1).trans c4; have gl : w.heap.size + 1 < w3.heap.size := Nat.lt_of_lt_of_le l1 hb3.size)
  all_goals
    go_wp2
    refine bodyPost_ret (v := .tuple #[(⟨b0, b1, 0, 0, m⟩ : Cod).v, .bool (rightC ⟨b0, b1, 0, 0, m⟩)]) (by simp [results, Tryd.results10, go_sem, Cod.v, d0, d1, d2, d3, d4]) rfl ⟨rfl, ?_⟩
    first
      | exact ((hB0.trans (hb3.mono hB0.size)).trans (set5_below (n := w.heap.size) ⟨b0, b1, 0, 0, m⟩ (Nat.le_refl _)))
      | exact (((hB0.drew).trans (hb3.mono hB0.size)).trans (set5_below (n := w.heap.size) ⟨b0, b1, 0, 0, m⟩ (Nat.le_refl _)))
set_option maxRecDepth 100000 in
set_option maxHeartbeats 4000000 in
theorem rDecode_6p (s : ByteArray) (b0 b1 b2 b3 : Nat) (w : World) (hs : s.size = 4) (y0 : byS s 0 = b0) (y1 : byS s 1 = b1) (y2 : byS s 2 = b2) (y3 : byS s 3 = b3) (hn : (32768 : Int) ≤ (b2 : Int) + 256 * b3) (h : sh b0 = 6) : Calls Tryd.prog 10 #[.string s] w fun e w' => e = .returned (.tuple #[(⟨b0, b1, 0, 0, (b2 : Int) + 256 * b3 - 65536⟩ : Cod).v, .bool (rightC ⟨b0, b1, 0, 0, (b2 : Int) + 256 * b3 - 65536⟩)]) ∧ Below w.heap.size w w' := by
  have hs0 : 0 < s.size := by omega
  have hs1 : 1 < s.size := by omega
  have hs2 : 2 < s.size := by omega
  have hs3 : 3 < s.size := by omega
  have q0 := byS_lt s 0
  have q1 := byS_lt s 1
  have q2 := byS_lt s 2
  have q3 := byS_lt s 3
  rw [y0] at q0; rw [y1] at q1; rw [y2] at q2; rw [y3] at q3
  replace y0 : s[0].toNat = b0 := (byS_get s 0 hs0).trans y0
  replace y1 : s[1].toNat = b1 := (byS_get s 1 hs1).trans y1
  replace y2 : s[2].toNat = b2 := (byS_get s 2 hs2).trans y2
  replace y3 : s[3].toNat = b3 := (byS_get s 3 hs3).trans y3
  have hsi : ((s.size : Int) != 4) = false := by simp; omega
  have HS : Hid (∀ w, Calls Tryd.prog 20 #[.int .i64 b0] w fun e w' => e = .returned (.int .i64 6) ∧ w' = w) := fun w => by have := Shape_any b0 w; rw [h] at this; exact this
  clear h
  have HR := Lib.hid (rRight_any (⟨b0, b1, 0, 0, (b2 : Int) + 256 * b3 - 65536⟩ : Cod))
  unfold Cod.v at HR
  simp only at HR
  go_enter Tryd.func10, Tryd.ntmps10
  go_wp2
  go_region
  go_wp2
  go_region
  go_wp2_with (first | (go_at_call 20; refine (HS.out _).mono ?_; rintro e w' ⟨rfl, hw'⟩; rw [hw']; clear hw' w'))
  obtain ⟨W0, hW0⟩ : ∃ W0, W0 = ((w.alloc (.cells #[.int .i64 0, .int .i64 0, .int .i64 0, .int .i64 0, .int .i64 0] 25)).alloc (.cells #[.int .i64 b0, .int .i64 b1, .int .i64 0, .int .i64 0, .int .i64 ((b2 : Int) + 256 * b3 - 65536)] 25)).drew.drew := ⟨_, rfl⟩
  rw [← hW0]
  have hB0 : Below w.heap.size w W0 := by rw [hW0]; exact ((((Below.refl _ w).alloc (Nat.le_refl _) _).alloc (by simp) _).drew).drew
  have r0 : At5 W0 w.heap.size ⟨0, 0, 0, 0, 0⟩ := by
    rw [hW0]
    have := (At5.new w ⟨0, 0, 0, 0, 0⟩ 25).below (((Below.refl (w.heap.size + 1) _).alloc (by simp) (.cells #[.int .i64 b0, .int .i64 b1, .int .i64 0, .int .i64 0, .int .i64 ((b2 : Int) + 256 * b3 - 65536)] 25)).drew.drew) (by omega)
    exact this
  have r1 : At5 W0 (w.heap.size + 1) ⟨b0, b1, 0, 0, (b2 : Int) + 256 * b3 - 65536⟩ := by
    rw [hW0]
    have := At5.new (w.alloc (.cells #[.int .i64 0, .int .i64 0, .int .i64 0, .int .i64 0, .int .i64 0] 25)) ⟨b0, b1, 0, 0, (b2 : Int) + 256 * b3 - 65536⟩ 25
    rw [World.size_alloc] at this
    exact this.below ((Below.refl (w.heap.size + 2) _).drew.drew) (by omega)
  clear hW0
  obtain ⟨l0, ⟨a0, a1, a2, a3, a4⟩, af⟩ := r0
  obtain ⟨l1, ⟨c0, c1, c2, c3, c4⟩, cf⟩ := r1
  simp only at a0 a1 a2 a3 a4 c0 c1 c2 c3 c4
  go_region_with (go_at_call 21; refine (HR.out _).mono ?_; rintro e w3 ⟨rfl, hb3⟩; have d0 := (hb3.cell (p := ⟨w.heap.size, 0, none⟩) l0).trans a0; have d1 := (hb3.cell (p := ⟨w.heap.size, 1, none⟩) l0).trans a1; have d2 := (hb3.cell (p := ⟨w.heap.size, 2, none⟩) l0).trans a2; have d3 := (hb3.cell (p := ⟨w.heap.size, 3, none⟩) l0).trans a3; have d4 := (hb3.cell (p := ⟨w.heap.size, 4, none⟩) l0).trans a4; have df : ∀ o, w3.frozen? ⟨w.heap.size, o, none⟩ = false := (fun o => (hb3.frozen (p := ⟨w.heap.size, o, none⟩) l0).trans (af o)); have dl : w.heap.size < w3.heap.size := Nat.lt_of_lt_of_le l0 hb3.size; have g0 := (hb3.cell (p := ⟨w.heap.size + 1, 0, none⟩) l1).trans c0; have g1 := (hb3.cell (p := ⟨w.heap.size + 1, 1, none⟩) l1).trans c1; have g2 := (hb3.cell (p := ⟨w.heap.size + 1, 2, none⟩) l1).trans c2; have g3 := (hb3.cell (p := ⟨w.heap.size + 1, 3, none⟩) l1).trans c3; have g4 := (hb3.cell (p := ⟨w.heap.size + 1, 4, none⟩) l1).trans c4; have gl : w.heap.size + 1 < w3.heap.size := Nat.lt_of_lt_of_le l1 hb3.size)
  all_goals
    go_wp2
    refine bodyPost_ret (v := .tuple #[(⟨b0, b1, 0, 0, (b2 : Int) + 256 * b3 - 65536⟩ : Cod).v, .bool (rightC ⟨b0, b1, 0, 0, (b2 : Int) + 256 * b3 - 65536⟩)]) (by simp [results, Tryd.results10, go_sem, Cod.v, d0, d1, d2, d3, d4]) rfl ⟨rfl, ?_⟩
    first
      | exact ((hB0.trans (hb3.mono hB0.size)).trans (set5_below (n := w.heap.size) ⟨b0, b1, 0, 0, (b2 : Int) + 256 * b3 - 65536⟩ (Nat.le_refl _)))
      | exact (((hB0.drew).trans (hb3.mono hB0.size)).trans (set5_below (n := w.heap.size) ⟨b0, b1, 0, 0, (b2 : Int) + 256 * b3 - 65536⟩ (Nat.le_refl _)))
set_option maxRecDepth 100000 in
set_option maxHeartbeats 4000000 in
theorem rDecode_0 (s : ByteArray) (b0 b1 b2 b3 : Nat) (w : World) (hs : s.size = 4) (y0 : byS s 0 = b0) (y1 : byS s 1 = b1) (y2 : byS s 2 = b2) (y3 : byS s 3 = b3) (h : sh b0 = 0) : Calls Tryd.prog 10 #[.string s] w fun e w' => e = .returned (.tuple #[(⟨b0, b1, b2, b3, 0⟩ : Cod).v, .bool (rightC ⟨b0, b1, b2, b3, 0⟩)]) ∧ Below w.heap.size w w' := by
  have hs0 : 0 < s.size := by omega
  have hs1 : 1 < s.size := by omega
  have hs2 : 2 < s.size := by omega
  have hs3 : 3 < s.size := by omega
  have q0 := byS_lt s 0
  have q1 := byS_lt s 1
  have q2 := byS_lt s 2
  have q3 := byS_lt s 3
  rw [y0] at q0; rw [y1] at q1; rw [y2] at q2; rw [y3] at q3
  replace y0 : s[0].toNat = b0 := (byS_get s 0 hs0).trans y0
  replace y1 : s[1].toNat = b1 := (byS_get s 1 hs1).trans y1
  replace y2 : s[2].toNat = b2 := (byS_get s 2 hs2).trans y2
  replace y3 : s[3].toNat = b3 := (byS_get s 3 hs3).trans y3
  have hsi : ((s.size : Int) != 4) = false := by simp; omega
  have HS : Hid (∀ w, Calls Tryd.prog 20 #[.int .i64 b0] w fun e w' => e = .returned (.int .i64 0) ∧ w' = w) := fun w => by have := Shape_any b0 w; rw [h] at this; exact this
  clear h
  have HR := Lib.hid (rRight_any (⟨b0, b1, b2, b3, 0⟩ : Cod))
  unfold Cod.v at HR
  simp only at HR
  go_enter Tryd.func10, Tryd.ntmps10
  go_wp2
  go_region
  go_wp2
  go_region
  go_wp2_with (first | (go_at_call 20; refine (HS.out _).mono ?_; rintro e w' ⟨rfl, hw'⟩; rw [hw']; clear hw' w'))
  obtain ⟨W0, hW0⟩ : ∃ W0, W0 = ((w.alloc (.cells #[.int .i64 0, .int .i64 0, .int .i64 0, .int .i64 0, .int .i64 0] 25)).alloc (.cells #[.int .i64 b0, .int .i64 b1, .int .i64 b2, .int .i64 b3, .int .i64 0] 25)).drew.drew := ⟨_, rfl⟩
  rw [← hW0]
  have hB0 : Below w.heap.size w W0 := by rw [hW0]; exact ((((Below.refl _ w).alloc (Nat.le_refl _) _).alloc (by simp) _).drew).drew
  have r0 : At5 W0 w.heap.size ⟨0, 0, 0, 0, 0⟩ := by
    rw [hW0]
    have := (At5.new w ⟨0, 0, 0, 0, 0⟩ 25).below (((Below.refl (w.heap.size + 1) _).alloc (by simp) (.cells #[.int .i64 b0, .int .i64 b1, .int .i64 b2, .int .i64 b3, .int .i64 0] 25)).drew.drew) (by omega)
    exact this
  have r1 : At5 W0 (w.heap.size + 1) ⟨b0, b1, b2, b3, 0⟩ := by
    rw [hW0]
    have := At5.new (w.alloc (.cells #[.int .i64 0, .int .i64 0, .int .i64 0, .int .i64 0, .int .i64 0] 25)) ⟨b0, b1, b2, b3, 0⟩ 25
    rw [World.size_alloc] at this
    exact this.below ((Below.refl (w.heap.size + 2) _).drew.drew) (by omega)
  clear hW0
  obtain ⟨l0, ⟨a0, a1, a2, a3, a4⟩, af⟩ := r0
  obtain ⟨l1, ⟨c0, c1, c2, c3, c4⟩, cf⟩ := r1
  simp only at a0 a1 a2 a3 a4 c0 c1 c2 c3 c4
  go_region_with (go_at_call 21; refine (HR.out _).mono ?_; rintro e w3 ⟨rfl, hb3⟩; have d0 := (hb3.cell (p := ⟨w.heap.size, 0, none⟩) l0).trans a0; have d1 := (hb3.cell (p := ⟨w.heap.size, 1, none⟩) l0).trans a1; have d2 := (hb3.cell (p := ⟨w.heap.size, 2, none⟩) l0).trans a2; have d3 := (hb3.cell (p := ⟨w.heap.size, 3, none⟩) l0).trans a3; have d4 := (hb3.cell (p := ⟨w.heap.size, 4, none⟩) l0).trans a4; have df : ∀ o, w3.frozen? ⟨w.heap.size, o, none⟩ = false := (fun o => (hb3.frozen (p := ⟨w.heap.size, o, none⟩) l0).trans (af o)); have dl : w.heap.size < w3.heap.size := Nat.lt_of_lt_of_le l0 hb3.size; have g0 := (hb3.cell (p := ⟨w.heap.size + 1, 0, none⟩) l1).trans c0; have g1 := (hb3.cell (p := ⟨w.heap.size + 1, 1, none⟩) l1).trans c1; have g2 := (hb3.cell (p := ⟨w.heap.size + 1, 2, none⟩) l1).trans c2; have g3 := (hb3.cell (p := ⟨w.heap.size + 1, 3, none⟩) l1).trans c3; have g4 := (hb3.cell (p := ⟨w.heap.size + 1, 4, none⟩) l1).trans c4; have gl : w.heap.size + 1 < w3.heap.size := Nat.lt_of_lt_of_le l1 hb3.size)
  all_goals
    go_wp2
    refine bodyPost_ret (v := .tuple #[(⟨b0, b1, b2, b3, 0⟩ : Cod).v, .bool (rightC ⟨b0, b1, b2, b3, 0⟩)]) (by simp [results, Tryd.results10, go_sem, Cod.v, d0, d1, d2, d3, d4]) rfl ⟨rfl, ?_⟩
    first
      | exact ((hB0.trans (hb3.mono hB0.size)).trans (set5_below (n := w.heap.size) ⟨b0, b1, b2, b3, 0⟩ (Nat.le_refl _)))
      | exact (((hB0.drew).trans (hb3.mono hB0.size)).trans (set5_below (n := w.heap.size) ⟨b0, b1, b2, b3, 0⟩ (Nat.le_refl _)))
set_option maxRecDepth 100000 in
set_option maxHeartbeats 4000000 in
theorem rDecode_2 (s : ByteArray) (b0 b1 b2 b3 : Nat) (w : World) (hs : s.size = 4) (y0 : byS s 0 = b0) (y1 : byS s 1 = b1) (y2 : byS s 2 = b2) (y3 : byS s 3 = b3) (h : sh b0 = 2) : Calls Tryd.prog 10 #[.string s] w fun e w' => e = .returned (.tuple #[(⟨b0, b1, b2, b3, 0⟩ : Cod).v, .bool (rightC ⟨b0, b1, b2, b3, 0⟩)]) ∧ Below w.heap.size w w' := by
  have hs0 : 0 < s.size := by omega
  have hs1 : 1 < s.size := by omega
  have hs2 : 2 < s.size := by omega
  have hs3 : 3 < s.size := by omega
  have q0 := byS_lt s 0
  have q1 := byS_lt s 1
  have q2 := byS_lt s 2
  have q3 := byS_lt s 3
  rw [y0] at q0; rw [y1] at q1; rw [y2] at q2; rw [y3] at q3
  replace y0 : s[0].toNat = b0 := (byS_get s 0 hs0).trans y0
  replace y1 : s[1].toNat = b1 := (byS_get s 1 hs1).trans y1
  replace y2 : s[2].toNat = b2 := (byS_get s 2 hs2).trans y2
  replace y3 : s[3].toNat = b3 := (byS_get s 3 hs3).trans y3
  have hsi : ((s.size : Int) != 4) = false := by simp; omega
  have HS : Hid (∀ w, Calls Tryd.prog 20 #[.int .i64 b0] w fun e w' => e = .returned (.int .i64 2) ∧ w' = w) := fun w => by have := Shape_any b0 w; rw [h] at this; exact this
  clear h
  have HR := Lib.hid (rRight_any (⟨b0, b1, b2, b3, 0⟩ : Cod))
  unfold Cod.v at HR
  simp only at HR
  go_enter Tryd.func10, Tryd.ntmps10
  go_wp2
  go_region
  go_wp2
  go_region
  go_wp2_with (first | (go_at_call 20; refine (HS.out _).mono ?_; rintro e w' ⟨rfl, hw'⟩; rw [hw']; clear hw' w'))
  obtain ⟨W0, hW0⟩ : ∃ W0, W0 = ((w.alloc (.cells #[.int .i64 0, .int .i64 0, .int .i64 0, .int .i64 0, .int .i64 0] 25)).alloc (.cells #[.int .i64 b0, .int .i64 b1, .int .i64 b2, .int .i64 b3, .int .i64 0] 25)).drew.drew := ⟨_, rfl⟩
  rw [← hW0]
  have hB0 : Below w.heap.size w W0 := by rw [hW0]; exact ((((Below.refl _ w).alloc (Nat.le_refl _) _).alloc (by simp) _).drew).drew
  have r0 : At5 W0 w.heap.size ⟨0, 0, 0, 0, 0⟩ := by
    rw [hW0]
    have := (At5.new w ⟨0, 0, 0, 0, 0⟩ 25).below (((Below.refl (w.heap.size + 1) _).alloc (by simp) (.cells #[.int .i64 b0, .int .i64 b1, .int .i64 b2, .int .i64 b3, .int .i64 0] 25)).drew.drew) (by omega)
    exact this
  have r1 : At5 W0 (w.heap.size + 1) ⟨b0, b1, b2, b3, 0⟩ := by
    rw [hW0]
    have := At5.new (w.alloc (.cells #[.int .i64 0, .int .i64 0, .int .i64 0, .int .i64 0, .int .i64 0] 25)) ⟨b0, b1, b2, b3, 0⟩ 25
    rw [World.size_alloc] at this
    exact this.below ((Below.refl (w.heap.size + 2) _).drew.drew) (by omega)
  clear hW0
  obtain ⟨l0, ⟨a0, a1, a2, a3, a4⟩, af⟩ := r0
  obtain ⟨l1, ⟨c0, c1, c2, c3, c4⟩, cf⟩ := r1
  simp only at a0 a1 a2 a3 a4 c0 c1 c2 c3 c4
  go_region_with (go_at_call 21; refine (HR.out _).mono ?_; rintro e w3 ⟨rfl, hb3⟩; have d0 := (hb3.cell (p := ⟨w.heap.size, 0, none⟩) l0).trans a0; have d1 := (hb3.cell (p := ⟨w.heap.size, 1, none⟩) l0).trans a1; have d2 := (hb3.cell (p := ⟨w.heap.size, 2, none⟩) l0).trans a2; have d3 := (hb3.cell (p := ⟨w.heap.size, 3, none⟩) l0).trans a3; have d4 := (hb3.cell (p := ⟨w.heap.size, 4, none⟩) l0).trans a4; have df : ∀ o, w3.frozen? ⟨w.heap.size, o, none⟩ = false := (fun o => (hb3.frozen (p := ⟨w.heap.size, o, none⟩) l0).trans (af o)); have dl : w.heap.size < w3.heap.size := Nat.lt_of_lt_of_le l0 hb3.size; have g0 := (hb3.cell (p := ⟨w.heap.size + 1, 0, none⟩) l1).trans c0; have g1 := (hb3.cell (p := ⟨w.heap.size + 1, 1, none⟩) l1).trans c1; have g2 := (hb3.cell (p := ⟨w.heap.size + 1, 2, none⟩) l1).trans c2; have g3 := (hb3.cell (p := ⟨w.heap.size + 1, 3, none⟩) l1).trans c3; have g4 := (hb3.cell (p := ⟨w.heap.size + 1, 4, none⟩) l1).trans c4; have gl : w.heap.size + 1 < w3.heap.size := Nat.lt_of_lt_of_le l1 hb3.size)
  all_goals
    go_wp2
    refine bodyPost_ret (v := .tuple #[(⟨b0, b1, b2, b3, 0⟩ : Cod).v, .bool (rightC ⟨b0, b1, b2, b3, 0⟩)]) (by simp [results, Tryd.results10, go_sem, Cod.v, d0, d1, d2, d3, d4]) rfl ⟨rfl, ?_⟩
    first
      | exact ((hB0.trans (hb3.mono hB0.size)).trans (set5_below (n := w.heap.size) ⟨b0, b1, b2, b3, 0⟩ (Nat.le_refl _)))
      | exact (((hB0.drew).trans (hb3.mono hB0.size)).trans (set5_below (n := w.heap.size) ⟨b0, b1, b2, b3, 0⟩ (Nat.le_refl _)))
set_option maxRecDepth 100000 in
set_option maxHeartbeats 4000000 in
theorem rDecode_3 (s : ByteArray) (b0 b1 b2 b3 : Nat) (w : World) (hs : s.size = 4) (y0 : byS s 0 = b0) (y1 : byS s 1 = b1) (y2 : byS s 2 = b2) (y3 : byS s 3 = b3) (h : sh b0 = 3) : Calls Tryd.prog 10 #[.string s] w fun e w' => e = .returned (.tuple #[(⟨b0, b1, b2, b3, 0⟩ : Cod).v, .bool (rightC ⟨b0, b1, b2, b3, 0⟩)]) ∧ Below w.heap.size w w' := by
  have hs0 : 0 < s.size := by omega
  have hs1 : 1 < s.size := by omega
  have hs2 : 2 < s.size := by omega
  have hs3 : 3 < s.size := by omega
  have q0 := byS_lt s 0
  have q1 := byS_lt s 1
  have q2 := byS_lt s 2
  have q3 := byS_lt s 3
  rw [y0] at q0; rw [y1] at q1; rw [y2] at q2; rw [y3] at q3
  replace y0 : s[0].toNat = b0 := (byS_get s 0 hs0).trans y0
  replace y1 : s[1].toNat = b1 := (byS_get s 1 hs1).trans y1
  replace y2 : s[2].toNat = b2 := (byS_get s 2 hs2).trans y2
  replace y3 : s[3].toNat = b3 := (byS_get s 3 hs3).trans y3
  have hsi : ((s.size : Int) != 4) = false := by simp; omega
  have HS : Hid (∀ w, Calls Tryd.prog 20 #[.int .i64 b0] w fun e w' => e = .returned (.int .i64 3) ∧ w' = w) := fun w => by have := Shape_any b0 w; rw [h] at this; exact this
  clear h
  have HR := Lib.hid (rRight_any (⟨b0, b1, b2, b3, 0⟩ : Cod))
  unfold Cod.v at HR
  simp only at HR
  go_enter Tryd.func10, Tryd.ntmps10
  go_wp2
  go_region
  go_wp2
  go_region
  go_wp2_with (first | (go_at_call 20; refine (HS.out _).mono ?_; rintro e w' ⟨rfl, hw'⟩; rw [hw']; clear hw' w'))
  obtain ⟨W0, hW0⟩ : ∃ W0, W0 = ((w.alloc (.cells #[.int .i64 0, .int .i64 0, .int .i64 0, .int .i64 0, .int .i64 0] 25)).alloc (.cells #[.int .i64 b0, .int .i64 b1, .int .i64 b2, .int .i64 b3, .int .i64 0] 25)).drew.drew := ⟨_, rfl⟩
  rw [← hW0]
  have hB0 : Below w.heap.size w W0 := by rw [hW0]; exact ((((Below.refl _ w).alloc (Nat.le_refl _) _).alloc (by simp) _).drew).drew
  have r0 : At5 W0 w.heap.size ⟨0, 0, 0, 0, 0⟩ := by
    rw [hW0]
    have := (At5.new w ⟨0, 0, 0, 0, 0⟩ 25).below (((Below.refl (w.heap.size + 1) _).alloc (by simp) (.cells #[.int .i64 b0, .int .i64 b1, .int .i64 b2, .int .i64 b3, .int .i64 0] 25)).drew.drew) (by omega)
    exact this
  have r1 : At5 W0 (w.heap.size + 1) ⟨b0, b1, b2, b3, 0⟩ := by
    rw [hW0]
    have := At5.new (w.alloc (.cells #[.int .i64 0, .int .i64 0, .int .i64 0, .int .i64 0, .int .i64 0] 25)) ⟨b0, b1, b2, b3, 0⟩ 25
    rw [World.size_alloc] at this
    exact this.below ((Below.refl (w.heap.size + 2) _).drew.drew) (by omega)
  clear hW0
  obtain ⟨l0, ⟨a0, a1, a2, a3, a4⟩, af⟩ := r0
  obtain ⟨l1, ⟨c0, c1, c2, c3, c4⟩, cf⟩ := r1
  simp only at a0 a1 a2 a3 a4 c0 c1 c2 c3 c4
  go_region_with (go_at_call 21; refine (HR.out _).mono ?_; rintro e w3 ⟨rfl, hb3⟩; have d0 := (hb3.cell (p := ⟨w.heap.size, 0, none⟩) l0).trans a0; have d1 := (hb3.cell (p := ⟨w.heap.size, 1, none⟩) l0).trans a1; have d2 := (hb3.cell (p := ⟨w.heap.size, 2, none⟩) l0).trans a2; have d3 := (hb3.cell (p := ⟨w.heap.size, 3, none⟩) l0).trans a3; have d4 := (hb3.cell (p := ⟨w.heap.size, 4, none⟩) l0).trans a4; have df : ∀ o, w3.frozen? ⟨w.heap.size, o, none⟩ = false := (fun o => (hb3.frozen (p := ⟨w.heap.size, o, none⟩) l0).trans (af o)); have dl : w.heap.size < w3.heap.size := Nat.lt_of_lt_of_le l0 hb3.size; have g0 := (hb3.cell (p := ⟨w.heap.size + 1, 0, none⟩) l1).trans c0; have g1 := (hb3.cell (p := ⟨w.heap.size + 1, 1, none⟩) l1).trans c1; have g2 := (hb3.cell (p := ⟨w.heap.size + 1, 2, none⟩) l1).trans c2; have g3 := (hb3.cell (p := ⟨w.heap.size + 1, 3, none⟩) l1).trans c3; have g4 := (hb3.cell (p := ⟨w.heap.size + 1, 4, none⟩) l1).trans c4; have gl : w.heap.size + 1 < w3.heap.size := Nat.lt_of_lt_of_le l1 hb3.size)
  all_goals
    go_wp2
    refine bodyPost_ret (v := .tuple #[(⟨b0, b1, b2, b3, 0⟩ : Cod).v, .bool (rightC ⟨b0, b1, b2, b3, 0⟩)]) (by simp [results, Tryd.results10, go_sem, Cod.v, d0, d1, d2, d3, d4]) rfl ⟨rfl, ?_⟩
    first
      | exact ((hB0.trans (hb3.mono hB0.size)).trans (set5_below (n := w.heap.size) ⟨b0, b1, b2, b3, 0⟩ (Nat.le_refl _)))
      | exact (((hB0.drew).trans (hb3.mono hB0.size)).trans (set5_below (n := w.heap.size) ⟨b0, b1, b2, b3, 0⟩ (Nat.le_refl _)))
/-- What the reference reads of four bytes. -/
def rdC (s : ByteArray) : Cod :=
  if sh (byS s 0) = 1 then ⟨byS s 0, byS s 1, 0, 0, (byS s 2 : Int) + 256 * byS s 3⟩
  else if sh (byS s 0) = 4 then ⟨byS s 0, byS s 1, byS s 2, 0, byS s 3⟩
  else if sh (byS s 0) = 5 ∨ sh (byS s 0) = 6 then (if (32768 : Int) ≤ (byS s 2 : Int) + 256 * byS s 3 then ⟨byS s 0, byS s 1, 0, 0, (byS s 2 : Int) + 256 * byS s 3 - 65536⟩ else ⟨byS s 0, byS s 1, 0, 0, (byS s 2 : Int) + 256 * byS s 3⟩)
  else ⟨byS s 0, byS s 1, byS s 2, byS s 3, 0⟩
theorem rDecode_4b (s : ByteArray) (w : World) (hs : s.size = 4) : Calls Tryd.prog 10 #[.string s] w fun e w' => e = .returned (.tuple #[(rdC s).v, .bool (rightC (rdC s))]) ∧ Below w.heap.size w w' := by
  rcases sh_cases (byS s 0) with h | h | h | h | h | h | h
  · have e : rdC s = ⟨byS s 0, byS s 1, byS s 2, byS s 3, 0⟩ := by simp [rdC, h]
    rw [e]; exact rDecode_0 s _ _ _ _ w hs rfl rfl rfl rfl h
  · have e : rdC s = ⟨byS s 0, byS s 1, 0, 0, (byS s 2 : Int) + 256 * byS s 3⟩ := by simp [rdC, h]
    rw [e]; exact rDecode_1 s _ _ _ _ w hs rfl rfl rfl rfl h
  · have e : rdC s = ⟨byS s 0, byS s 1, byS s 2, byS s 3, 0⟩ := by simp [rdC, h]
    rw [e]; exact rDecode_2 s _ _ _ _ w hs rfl rfl rfl rfl h
  · have e : rdC s = ⟨byS s 0, byS s 1, byS s 2, byS s 3, 0⟩ := by simp [rdC, h]
    rw [e]; exact rDecode_3 s _ _ _ _ w hs rfl rfl rfl rfl h
  · have e : rdC s = ⟨byS s 0, byS s 1, byS s 2, 0, byS s 3⟩ := by simp [rdC, h]
    rw [e]; exact rDecode_4 s _ _ _ _ w hs rfl rfl rfl rfl h
  · by_cases hn : (32768 : Int) ≤ (byS s 2 : Int) + 256 * byS s 3
    · have e : rdC s = ⟨byS s 0, byS s 1, 0, 0, (byS s 2 : Int) + 256 * byS s 3 - 65536⟩ := by simp [rdC, h, hn]
      rw [e]; exact rDecode_5p s _ _ _ _ w hs rfl rfl rfl rfl hn h
    · have e : rdC s = ⟨byS s 0, byS s 1, 0, 0, (byS s 2 : Int) + 256 * byS s 3⟩ := by simp only [rdC, h]; simp [hn]
      rw [e]; exact rDecode_5n s _ _ _ _ w hs rfl rfl rfl rfl _ rfl (by omega) (by omega) h
  · by_cases hn : (32768 : Int) ≤ (byS s 2 : Int) + 256 * byS s 3
    · have e : rdC s = ⟨byS s 0, byS s 1, 0, 0, (byS s 2 : Int) + 256 * byS s 3 - 65536⟩ := by simp [rdC, h, hn]
      rw [e]; exact rDecode_6p s _ _ _ _ w hs rfl rfl rfl rfl hn h
    · have e : rdC s = ⟨byS s 0, byS s 1, 0, 0, (byS s 2 : Int) + 256 * byS s 3⟩ := by simp only [rdC, h]; simp [hn]
      rw [e]; exact rDecode_6n s _ _ _ _ w hs rfl rfl rfl rfl _ rfl (by omega) (by omega) h
theorem rDecode_no (s : ByteArray) (w : World) (hs : s.size ≠ 4) : Calls Tryd.prog 10 #[.string s] w fun e w' => e = .returned (.tuple #[(⟨0, 0, 0, 0, 0⟩ : Cod).v, .bool false]) ∧ Below w.heap.size w w' := by
  have hsi : ((s.size : Int) != 4) = true := by simp; omega
  go_enter Tryd.func10, Tryd.ntmps10
  go_wp2
  refine bodyPost_ret (by simp [results, Tryd.results10, go_sem]; rfl) rfl ⟨rfl, by go_grown⟩
end Go.Proofs.YtgldkmabhmlijaaDoor
