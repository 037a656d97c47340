/- CpuWays answers true. -/
import Derived.Test.YtmmejicmjalibabWays
import Derived.Deep.Cut
import Derived.Great.BuildSlice
namespace Go.Proofs.Ytmmejicmjalibab
open Go.RowKit Go.Lib
theorem below_setRowW {n : Nat} {w w' : World} (h : Below n w w') {g : Nat} (hg : n ≤ g) (cs : Array Value) : Below n w (w'.setRow g cs) :=
  ⟨h.os, h.tape, h.output, by rw [size_setRow]; exact h.size, fun k hk => (heap_setRow_ne _ _ _ (by omega)).trans (h.block k hk)⟩
theorem i16_rng (n : Int) : -32768 ≤ IntKind.i16.wrap n ∧ IntKind.i16.wrap n ≤ 32767 := by
  have e : IntKind.i16.wrap n = if n % 65536 ≥ 32768 then n % 65536 - 65536 else n % 65536 := by simp [IntKind.wrap, IntKind.bits, IntKind.signed]
  rw [e]; split <;> omega
/-- A state made of nought, and laid. -/
theorem zero_made (w : World) : ∃ (z0 : Array Value) (W : World), #[.int .u64 0, .int .u64 0, .int .u64 0, .int .u64 0, .int .u64 0, .int .u64 0, .int .u64 0, .int .u64 0, .int .u64 0, .int .u64 0, .int .u64 0, .int .u64 0, .int .u64 0, .int .u64 0, .int .u64 0, .int .u64 0, .int .u64 0] = z0 ∧ (stC r0 0).toArray = z0 ∧ (w.alloc (.cells #[.int .u64 0, .int .u64 0, .int .u64 0, .int .u64 0, .int .u64 0, .int .u64 0, .int .u64 0, .int .u64 0, .int .u64 0, .int .u64 0, .int .u64 0, .int .u64 0, .int .u64 0, .int .u64 0, .int .u64 0, .int .u64 0, .int .u64 0] 29)).setRow w.heap.size z0 = W ∧ StAt W w.heap.size r0 0 ∧ Below w.heap.size w W := by
  refine ⟨_, _, rfl, rfl, rfl, heap_setRow _ _ _ _ _ (heap_new _ _), below_setRowW ((Below.refl _ _).alloc (Nat.le_refl _) _) (Nat.le_refl _) _⟩
/-- A state that comes of a call, and laid. -/
theorem state_laid (w : World) (cs : Array Value) : ∃ W : World, (w.alloc (.cells #[.int .u64 0, .int .u64 0, .int .u64 0, .int .u64 0, .int .u64 0, .int .u64 0, .int .u64 0, .int .u64 0, .int .u64 0, .int .u64 0, .int .u64 0, .int .u64 0, .int .u64 0, .int .u64 0, .int .u64 0, .int .u64 0, .int .u64 0] 29)).setRow w.heap.size cs = W ∧ W.heap[w.heap.size]? = some (.cells cs 29 (0, 0)) ∧ Below w.heap.size w W :=
  ⟨_, rfl, heap_setRow _ _ _ _ _ (heap_new _ _), below_setRowW ((Below.refl _ _).alloc (Nat.le_refl _) _) (Nat.le_refl _) _⟩
theorem wy_conv (w : World) (op : UInt8) (n : Int) : Sem.run Try.prog (convert 33 9 (.slice (some ⟨w.heap.size, 0, none⟩) 4 4)) (w.alloc (.cells #[.int .u8 (op.toNat : Int), .int .u8 2, .int .u8 (n % 256), .int .u8 (n / 256 % 256)] 5)) = .ok (.string ⟨(wyB op n).toArray⟩) (w.alloc (.cells #[.int .u8 (op.toNat : Int), .int .u8 2, .int .u8 (n % 256), .int .u8 (n / 256 % 256)] 5)) := by
  refine run_convert_bytes_back (P := Try.prog) _ 33 9 5 ⟨w.heap.size, 0, none⟩ 4 (wyB op n) Try.underlying33 Try.underlying5 Try.underlying9 (fun j hj => ?_)
  have hh := heap_new w (.cells #[.int .u8 (op.toNat : Int), .int .u8 2, .int .u8 (n % 256), .int .u8 (n / 256 % 256)] 5)
  have ha : (⟨w.heap.size, 0, none⟩ : Addr).add j = ⟨w.heap.size, j, none⟩ := by unfold Addr.add; split <;> simp_all
  rw [ha]
  simp only [World.cell?, hh]
  have l1 : 0 ≤ n % 256 ∧ n % 256 < 256 := ⟨Int.emod_nonneg _ (by decide), Int.emod_lt_of_pos _ (by decide)⟩
  have l2 : 0 ≤ n / 256 % 256 ∧ n / 256 % 256 < 256 := ⟨Int.emod_nonneg _ (by decide), Int.emod_lt_of_pos _ (by decide)⟩
  have e1 : (((UInt8.ofNat (n % 256).toNat).toNat : Nat) : Int) = n % 256 := by rw [UInt8.toNat_ofNat']; omega
  have e2 : (((UInt8.ofNat (n / 256 % 256).toNat).toNat : Nat) : Int) = n / 256 % 256 := by rw [UInt8.toNat_ofNat']; omega
  have hj4 : j < 4 := hj
  rcases (show j = 0 ∨ j = 1 ∨ j = 2 ∨ j = 3 by omega) with rfl | rfl | rfl | rfl
  · rfl
  · rfl
  · show _ = some (Value.int .u8 (((UInt8.ofNat (n % 256).toNat).toNat : Nat) : Int)); rw [e1]; rfl
  · show _ = some (Value.int .u8 (((UInt8.ofNat (n / 256 % 256).toNat).toNat : Nat) : Int)); rw [e2]; rfl
theorem memL_wy (op : UInt8) (n : Int) : memL ⟨(wyB op n).toArray⟩ = wyB op n := by unfold memL; rw [List.take_of_length_le (by simp [wyB])]
set_option maxRecDepth 100000 in
set_option maxHeartbeats 4000000 in
theorem CpuWays_any (x y n : Int) (w : World) (hx : u64ok x) (hy : u64ok y) :
    Calls Try.prog 3 #[.int .u64 x, .int .u64 y, .int .i64 n] w fun e w' => e = .returned (.bool true) ∧ Below w.heap.size w w' := by
  have HL := Lib.hid lives_any
  have HM1 : Hid (∀ W : World, Calls Try.prog 5 #[.string ⟨#[25, 15, 1, 0]⟩] W fun e w' => e = .returned (.pointer (some ⟨W.heap.size, 0, none⟩)) ∧ (∃ ls, BAt w' W.heap.size W.heap.size [25, 15, 1, 0] ls) ∧ Below W.heap.size W w') := fun W => memory_any ⟨#[25, 15, 1, 0]⟩ W (by decide)
  have HM2 : Hid (∀ W : World, Calls Try.prog 5 #[.string ⟨#[26, 0, 0, 0]⟩] W fun e w' => e = .returned (.pointer (some ⟨W.heap.size, 0, none⟩)) ∧ (∃ ls, BAt w' W.heap.size W.heap.size [26, 0, 0, 0] ls) ∧ Below W.heap.size W w') := fun W => memory_any ⟨#[26, 0, 0, 0]⟩ W (by decide)
  go_enter Try.func3, Try.ntmps3
  go_wp2_with (first
    | (go_at_call 4; refine (HL.out _).mono ?_; rintro e w1 ⟨rfl, hB1⟩)
    | (go_at_call 5; refine (HM1.out _).mono ?_; rintro e w3 ⟨rfl, ⟨ls3, hA3⟩, hB3⟩; refine Hid.out ?_))
  refine Lib.hid ?_
  have q3 : Below w.heap.size w w3 := hB1.trans (hB3.mono hB1.size)
  have hbw3 := hB3.size
  have hbw1 := hB1.size
  generalize w1.heap.size = Bb at *
  clear hB3 hB1
  obtain ⟨z0, W4, hz0, hzS, hW4, S4, hb4⟩ := zero_made w3
  have hn3 := heap_new w3 (.cells #[.int .u64 0, .int .u64 0, .int .u64 0, .int .u64 0, .int .u64 0, .int .u64 0, .int .u64 0, .int .u64 0, .int .u64 0, .int .u64 0, .int .u64 0, .int .u64 0, .int .u64 0, .int .u64 0, .int .u64 0, .int .u64 0, .int .u64 0] 29)
  have HZ := Lib.hid hz0
  have HW4 := Lib.hid hW4
  have hszZ : (Try.prog.info? 29).map (·.size) = some z0.size := by rw [← hz0]; exact stInfo
  have honeZ : z0.all (·.oneCell') = true := by rw [← hzS]; exact stC_one _ _
  have holdZ : Hid (z0.size = 17) := by simp only [Hid]; rw [← hz0]; rfl
  clear hz0 hW4 hzS
  go_wp2_with (first
    | (refine wpList_buildTo rfl 29 _ rfl _ rfl z0 (by rw [← HZ.out]; kernel_rfl) ?_)
    | (refine wpList_store_row rfl 29 _ _ rfl w3.heap.size z0 rfl rfl 29 _ hn3 hszZ (by rw [holdZ.out]; rfl) honeZ ?_; rw [HW4.out]; refine Hid.out ?_))
  refine Lib.hid ?_
  have S5 : StAt (W4.setCell ⟨w3.heap.size, 1, none⟩ (.int .u64 x)) w3.heap.size (r1v x) 0 := S4.set rfl 1 (by decide) x
  have hb5 := hb4.setCell (p := ⟨w3.heap.size, 1, none⟩) (Nat.le_refl _) (.int .u64 x)
  have c1 : W4.cell? ⟨w3.heap.size, 1, none⟩ = some (.int .u64 0) := S4.reg rfl 1 (by decide)
  have c2 := S4.froz 1
  have c3 := S4.lt
  obtain ⟨W5, hW5⟩ : ∃ W5, W4.setCell ⟨w3.heap.size, 1, none⟩ (.int .u64 x) = W5 := ⟨_, rfl⟩
  rw [hW5] at S5 hb5
  have HO := Over_any Bb Bb 1 (r1v x) 0 _ ls3 W5 (by decide) (r1v_ok hx) (hA3.below hb5)
  rw [show (1 : Int).toNat = 1 from rfl, wy_call] at HO
  have S5' : W5.heap[w3.heap.size]? = some (.cells (stC (r1v x) 0).toArray 29 (0, 0)) := S5
  have HO' : Hid (Calls Try.prog 6 #[.pointer (some ⟨Bb, 0, none⟩), .agg (stC (r1v x) 0).toArray, .int .i64 1] W5 fun e w' => e = .returned (.tuple #[.agg (stC (rcv x) x).toArray, .int .i64 1, .int .i64 0]) ∧ Below Bb W5 w') := HO.mono fun e w' hh => ⟨hh.1, hh.2.2.1⟩
  have hsz1 : (Try.prog.info? 29).map (·.size) = some (stC (r1v x) 0).toArray.size := stInfo
  have hsz2 : (Try.prog.info? 29).map (·.size) = some (stC (rcv x) x).toArray.size := stInfo
  have hone2 := stC_one (rcv x) x
  have HQ2 : Hid ((stC (rcv x) x).toArray.size = 17) := rfl
  have HSt2 : Hid (∀ (W : World) (B : Nat), W.heap[B]? = some (.cells (stC (rcv x) x).toArray 29 (0, 0)) → StAt W B (rcv x) x) := fun W B h => h
  generalize (stC (r1v x) 0).toArray = cs1 at *
  generalize (stC (rcv x) x).toArray = cs2 at *
  have q5 := q3.trans (hb5.mono q3.size)
  clear HO hA3 hb4 hb5 S4 S5 hn3 HW4
  go_wp2_with (first
    | (refine wpList_load_row rfl 29 _ rfl w3.heap.size rfl 29 _ (0, 0) _ S5' Try.underlying29 rfl hsz1 ?_)
    | (go_at_call 6; refine HO'.out.mono ?_; rintro e w6 ⟨rfl, hB6⟩; refine Hid.out ?_))
  refine Lib.hid ?_
  have q6 := q5.trans (hB6.mono hbw1)
  obtain ⟨W7, hW7, n7, hb7⟩ := state_laid w6 cs2
  have hn6 := heap_new w6 (.cells #[.int .u64 0, .int .u64 0, .int .u64 0, .int .u64 0, .int .u64 0, .int .u64 0, .int .u64 0, .int .u64 0, .int .u64 0, .int .u64 0, .int .u64 0, .int .u64 0, .int .u64 0, .int .u64 0, .int .u64 0, .int .u64 0, .int .u64 0] 29)
  have HW7 := Lib.hid hW7
  have S7 := HSt2.out W7 _ n7
  have d1 : W7.cell? ⟨w6.heap.size, 1, none⟩ = some (.int .u64 x) := S7.reg rfl 1 (by decide)
  have d15 : W7.cell? ⟨w6.heap.size, 15, none⟩ = some (.int .u64 4) := S7.reg rfl 15 (by decide)
  have d16 : W7.cell? ⟨w6.heap.size, 16, none⟩ = some (.int .u64 x) := S7.pc rfl
  have q7 := q6.trans (hb7.mono q6.size)
  have q6' := q6.size
  clear hW7 n7 hB6 q6 q5 S5' HO' hW5 c1 c2 c3
  go_wp2_with (first
    | (refine wpList_store_row rfl 29 _ _ rfl w6.heap.size cs2 rfl rfl 29 _ hn6 hsz2 (by rw [HQ2.out]; rfl) hone2 ?_; rw [HW7.out])
    | (go_at_call 5; refine (HM2.out _).mono ?_; rintro e w8 ⟨rfl, ⟨ls8, hA8⟩, hB8⟩; refine Hid.out ?_))
  refine Lib.hid ?_
  have S8 := S7.below hB8
  have q8 := q7.trans (hB8.mono q7.size)
  have hlB : w6.heap.size < W7.heap.size := S7.lt
  have hq7 := q7.size
  generalize W7.heap.size = Bc at *
  have hwB : w.heap.size ≤ w6.heap.size := q6'
  have S9 := S8.setPc (show (rcv x).length = 16 from rfl) 0
  have e1 := S8.pc (show (rcv x).length = 16 from rfl)
  have e2 := S8.froz 16
  have e3 := S8.lt
  have A9 := hA8.set_other S8 (by decide) (by decide) (by decide) 16 (.int .u64 0)
  have q9 := q8.setCell (p := ⟨w6.heap.size, 16, none⟩) hwB (.int .u64 0)
  generalize w6.heap.size = Ba at *
  obtain ⟨W9, hW9⟩ : ∃ W9, w8.setCell ⟨Ba, 16, none⟩ (.int .u64 0) = W9 := ⟨_, rfl⟩
  rw [hW9] at S9 A9 q9
  have HO := Over_any Bc Bc 1 (rcv x) 0 _ ls8 W9 (by decide) (rcv_ok hx) A9
  rw [show (1 : Int).toNat = 1 from rfl, wy_back] at HO
  have S9' : W9.heap[Ba]? = some (.cells (stC (rcv x) 0).toArray 29 (0, 0)) := S9
  have HO' : Hid (Calls Try.prog 6 #[.pointer (some ⟨Bc, 0, none⟩), .agg (stC (rcv x) 0).toArray, .int .i64 1] W9 fun e w' => e = .returned (.tuple #[.agg (stC (rcv x) 4).toArray, .int .i64 1, .int .i64 0]) ∧ Below Bc W9 w') := HO.mono fun e w' hh => ⟨hh.1, hh.2.2.1⟩
  have hsz3 : (Try.prog.info? 29).map (·.size) = some (stC (rcv x) 0).toArray.size := stInfo
  have hsz4 : (Try.prog.info? 29).map (·.size) = some (stC (rcv x) 4).toArray.size := stInfo
  have hone4 := stC_one (rcv x) 4
  have HQ4 : Hid ((stC (rcv x) 4).toArray.size = 17) := rfl
  have HSt4 : Hid (∀ (W : World) (B : Nat), W.heap[B]? = some (.cells (stC (rcv x) 4).toArray 29 (0, 0)) → StAt W B (rcv x) 4) := fun W B h => h
  generalize (stC (rcv x) 0).toArray = cs3 at *
  generalize (stC (rcv x) 4).toArray = cs4 at *
  clear HO hA8 A9 S8 S9 S7 hB8 q8 q7 hb7 hn6 HW7 d1 d15 d16
  go_wp2_with (first
    | (refine wpList_load_row rfl 29 _ rfl Ba rfl 29 _ (0, 0) _ S9' Try.underlying29 rfl hsz3 ?_)
    | (go_at_call 6; refine HO'.out.mono ?_; rintro e w10 ⟨rfl, hB10⟩; refine Hid.out ?_))
  refine Lib.hid ?_
  have q10 := q9.trans (hB10.mono hq7)
  obtain ⟨W11, hW11, n11, hb11⟩ := state_laid w10 cs4
  have hn10 := heap_new w10 (.cells #[.int .u64 0, .int .u64 0, .int .u64 0, .int .u64 0, .int .u64 0, .int .u64 0, .int .u64 0, .int .u64 0, .int .u64 0, .int .u64 0, .int .u64 0, .int .u64 0, .int .u64 0, .int .u64 0, .int .u64 0, .int .u64 0, .int .u64 0] 29)
  have HW11 := Lib.hid hW11
  have d16 : W11.cell? ⟨w10.heap.size, 16, none⟩ = some (.int .u64 4) := (HSt4.out W11 _ n11).pc rfl
  have q11 := q10.trans (hb11.mono q10.size)
  clear hW11 n11 hB10 q10 q9 S9' HO' hW9 e1 e2 e3
  have hnn : wrap64 (IntKind.i16.wrap n) = IntKind.i16.wrap n ∧ -32768 ≤ IntKind.i16.wrap n ∧ IntKind.i16.wrap n ≤ 32767 := by
    have h := i16_rng n
    exact ⟨wrap64_id (by omega) (by omega), h⟩
  obtain ⟨hn0, hn1, hn2⟩ := hnn
  rw [hn0]
  clear hn0
  generalize IntKind.i16.wrap n = nn at *
  go_wp2_with (first
    | (refine wpList_store_row rfl 29 _ _ rfl w10.heap.size cs4 rfl rfl 29 _ hn10 hsz4 (by rw [HQ4.out]; rfl) hone4 ?_; rw [HW11.out]))
  clear HM1 HM2 HL hn10 HW11 d16 hsz1 hsz2 hsz3 hsz4 hone2 hone4 HQ2 HQ4 HSt2 HSt4
  have HQ11 := Lib.hid q11
  clear q11
  go_loopw [15] (fun o wr => (o = .int .i64 23 ∨ o = .int .i64 24 ∨ o = .int .i64 25) ∧ Below w.heap.size w wr) (fun o _ => (25 - RowKit.intOf o).toNat)
  case atStart => exact ⟨.inl rfl, HQ11.out⟩
  case round =>
    obtain ⟨ho, hBr⟩ := hrel
    rcases ho with rfl | rfl | rfl
    · have hcv : Sem.run Try.prog (convert 33 9 (.slice (some ⟨wr.heap.size, 0, none⟩) 4 4)) (wr.alloc (.cells #[.int .u8 23, .int .u8 2, .int .u8 (nn % 256), .int .u8 (nn / 256 % 256)] 5)) = .ok (.string ⟨(wyB 23 nn).toArray⟩) (wr.alloc (.cells #[.int .u8 23, .int .u8 2, .int .u8 (nn % 256), .int .u8 (nn / 256 % 256)] 5)) := wy_conv wr 23 nn
      have HMw := Lib.hid (fun (W : World) => memory_any ⟨(wyB 23 nn).toArray⟩ W (by show (List.toArray _).size < _; simp [wyB]))
      rw [memL_wy] at HMw
      have HRun := Lib.hid (wy_way 23 nn y (by decide) hn1 hn2)
      generalize (⟨(wyB 23 nn).toArray⟩ : ByteArray) = sb at hcv HMw
      generalize wyB 23 nn = db at HMw HRun
      have qA : Below w.heap.size w (wr.alloc (.cells #[.int .u8 23, .int .u8 2, .int .u8 (nn % 256), .int .u8 (nn / 256 % 256)] 5)) := hBr.alloc hBr.size _
      have hzA : (wr.alloc (.cells #[.int .u8 23, .int .u8 2, .int .u8 (nn % 256), .int .u8 (nn / 256 % 256)] 5)).heap.size = wr.heap.size + 1 := by simp
      have HMx := Lib.hid (HMw.out (wr.alloc (.cells #[.int .u8 23, .int .u8 2, .int .u8 (nn % 256), .int .u8 (nn / 256 % 256)] 5)))
      rw [hzA] at HMx
      have hqA := qA.size
      rw [hzA] at hqA
      clear HMw hzA
      go_wp2_with (first
        | (go_at_call 5; refine HMx.out.mono ?_; rintro e w12 ⟨rfl, ⟨ls12, hA12⟩, hB12⟩; refine Hid.out ?_))
      refine Lib.hid ?_
      have q12 := qA.trans (hB12.mono hqA)
      have hbw := hqA
      have hbw12 := hB12.size
      generalize wr.heap.size + 1 = Bd at *
      clear hcv qA hB12
      obtain ⟨z0, W4, hz0, hzS, hW4, S4, hb4⟩ := zero_made w12
      have hn3 := heap_new w12 (.cells #[.int .u64 0, .int .u64 0, .int .u64 0, .int .u64 0, .int .u64 0, .int .u64 0, .int .u64 0, .int .u64 0, .int .u64 0, .int .u64 0, .int .u64 0, .int .u64 0, .int .u64 0, .int .u64 0, .int .u64 0, .int .u64 0, .int .u64 0] 29)
      have HZ := Lib.hid hz0
      have HW4 := Lib.hid hW4
      have hszZ : (Try.prog.info? 29).map (·.size) = some z0.size := by rw [← hz0]; exact stInfo
      have honeZ : z0.all (·.oneCell') = true := by rw [← hzS]; exact stC_one _ _
      have holdZ : Hid (z0.size = 17) := by simp only [Hid]; rw [← hz0]; rfl
      clear hz0 hW4 hzS
      have S5 : StAt (W4.setCell ⟨w12.heap.size, 2, none⟩ (.int .u64 y)) w12.heap.size (rwv y) 0 := S4.set rfl 2 (by decide) y
      have hb5 := hb4.setCell (p := ⟨w12.heap.size, 2, none⟩) (Nat.le_refl _) (.int .u64 y)
      have c1 : W4.cell? ⟨w12.heap.size, 2, none⟩ = some (.int .u64 0) := S4.reg rfl 2 (by decide)
      have c2 := S4.froz 2
      have c3 := S4.lt
      obtain ⟨W5, hW5⟩ : ∃ W5, W4.setCell ⟨w12.heap.size, 2, none⟩ (.int .u64 y) = W5 := ⟨_, rfl⟩
      rw [hW5] at S5 hb5
      have HO := Over_any Bd Bd 1 (rwv y) 0 _ ls12 W5 (by decide) (rwv_ok hy) (hA12.below hb5)
      rw [show (1 : Int).toNat = 1 from rfl, HRun.out] at HO
      obtain ⟨pcv, hpcv⟩ : ∃ pcv, brI ((23 : UInt8).toNat : Int) nn 4 y = pcv := ⟨_, rfl⟩
      rw [hpcv] at HO
      have S5' : W5.heap[w12.heap.size]? = some (.cells (stC (rwv y) 0).toArray 29 (0, 0)) := S5
      have HO' : Hid (Calls Try.prog 6 #[.pointer (some ⟨Bd, 0, none⟩), .agg (stC (rwv y) 0).toArray, .int .i64 1] W5 fun e w' => e = .returned (.tuple #[.agg (stC (rwv y) pcv).toArray, .int .i64 1, .int .i64 0]) ∧ Below Bd W5 w') := HO.mono fun e w' hh => ⟨hh.1, hh.2.2.1⟩
      have hsz1 : (Try.prog.info? 29).map (·.size) = some (stC (rwv y) 0).toArray.size := stInfo
      have hsz2 : (Try.prog.info? 29).map (·.size) = some (stC (rwv y) pcv).toArray.size := stInfo
      have hone2 := stC_one (rwv y) pcv
      have HQ2 : Hid ((stC (rwv y) pcv).toArray.size = 17) := rfl
      have HSt2 : Hid (∀ (W : World) (B : Nat), W.heap[B]? = some (.cells (stC (rwv y) pcv).toArray 29 (0, 0)) → StAt W B (rwv y) pcv) := fun W B h => h
      generalize (stC (rwv y) 0).toArray = ca at *
      generalize (stC (rwv y) pcv).toArray = cb at *
      have q5 := q12.trans (hb5.mono q12.size)
      clear HO hA12 hb4 hb5 S4 S5 HRun hBr HQ11
      go_wp2_with (first
        | (refine wpList_buildTo rfl 29 _ rfl _ rfl z0 (by rw [← HZ.out]; kernel_rfl) ?_)
        | (refine wpList_store_row rfl 29 _ _ rfl w12.heap.size z0 rfl rfl 29 _ hn3 hszZ (by rw [holdZ.out]; rfl) honeZ ?_; rw [HW4.out]; refine Hid.out ?_))
      refine Lib.hid ?_
      clear hn3 HW4 HZ hszZ honeZ
      go_wp2_with (first
        | (refine wpList_load_row rfl 29 _ rfl w12.heap.size rfl 29 _ (0, 0) _ S5' Try.underlying29 rfl hsz1 ?_)
        | (go_at_call 6; refine HO'.out.mono ?_; rintro e w6 ⟨rfl, hB6⟩; refine Hid.out ?_))
      refine Lib.hid ?_
      have q6 := q5.trans (hB6.mono hbw)
      obtain ⟨W7, hW7, n7, hb7⟩ := state_laid w6 cb
      have hn6 := heap_new w6 (.cells #[.int .u64 0, .int .u64 0, .int .u64 0, .int .u64 0, .int .u64 0, .int .u64 0, .int .u64 0, .int .u64 0, .int .u64 0, .int .u64 0, .int .u64 0, .int .u64 0, .int .u64 0, .int .u64 0, .int .u64 0, .int .u64 0, .int .u64 0] 29)
      have HW7 := Lib.hid hW7
      have d16 : W7.cell? ⟨w6.heap.size, 16, none⟩ = some (.int .u64 pcv) := (HSt2.out W7 _ n7).pc rfl
      have q7 := q6.trans (hb7.mono q6.size)
      clear hW7 n7 hB6 q6 q5 S5' HO' hW5 c1 c2 c3 q12
      by_cases hy0 : y = 0
      · have hp : pcv = IntKind.u64.wrap (4 + IntKind.u64.wrap (4 * IntKind.u64.wrap nn)) := by rw [← hpcv]; unfold brI; rw [if_neg (by simp [hy0])]
        have hyb : (y == 0) = true := by simpa using hy0
        clear hpcv hy0
        subst hp
        go_wp2_with (first
          | (refine wpList_store_row rfl 29 _ _ rfl w6.heap.size cb rfl rfl 29 _ hn6 hsz2 (by rw [HQ2.out]; rfl) hone2 ?_; rw [HW7.out]))
        exact ⟨⟨.inr (.inl rfl), q7⟩, by simp only [RowKit.intOf]; omega⟩
      · have hp : pcv = 4 := by rw [← hpcv]; unfold brI; rw [if_pos (.inl ⟨rfl, hy0⟩)]
        have hyb : (y == 0) = false := by simpa using hy0
        clear hpcv hy0
        subst hp
        go_wp2_with (first
          | (refine wpList_store_row rfl 29 _ _ rfl w6.heap.size cb rfl rfl 29 _ hn6 hsz2 (by rw [HQ2.out]; rfl) hone2 ?_; rw [HW7.out]))
        exact ⟨⟨.inr (.inl rfl), q7⟩, by simp only [RowKit.intOf]; omega⟩
    · have hcv : Sem.run Try.prog (convert 33 9 (.slice (some ⟨wr.heap.size, 0, none⟩) 4 4)) (wr.alloc (.cells #[.int .u8 24, .int .u8 2, .int .u8 (nn % 256), .int .u8 (nn / 256 % 256)] 5)) = .ok (.string ⟨(wyB 24 nn).toArray⟩) (wr.alloc (.cells #[.int .u8 24, .int .u8 2, .int .u8 (nn % 256), .int .u8 (nn / 256 % 256)] 5)) := wy_conv wr 24 nn
      have HMw := Lib.hid (fun (W : World) => memory_any ⟨(wyB 24 nn).toArray⟩ W (by show (List.toArray _).size < _; simp [wyB]))
      rw [memL_wy] at HMw
      have HRun := Lib.hid (wy_way 24 nn y (by decide) hn1 hn2)
      generalize (⟨(wyB 24 nn).toArray⟩ : ByteArray) = sb at hcv HMw
      generalize wyB 24 nn = db at HMw HRun
      have qA : Below w.heap.size w (wr.alloc (.cells #[.int .u8 24, .int .u8 2, .int .u8 (nn % 256), .int .u8 (nn / 256 % 256)] 5)) := hBr.alloc hBr.size _
      have hzA : (wr.alloc (.cells #[.int .u8 24, .int .u8 2, .int .u8 (nn % 256), .int .u8 (nn / 256 % 256)] 5)).heap.size = wr.heap.size + 1 := by simp
      have HMx := Lib.hid (HMw.out (wr.alloc (.cells #[.int .u8 24, .int .u8 2, .int .u8 (nn % 256), .int .u8 (nn / 256 % 256)] 5)))
      rw [hzA] at HMx
      have hqA := qA.size
      rw [hzA] at hqA
      clear HMw hzA
      go_wp2_with (first
        | (go_at_call 5; refine HMx.out.mono ?_; rintro e w12 ⟨rfl, ⟨ls12, hA12⟩, hB12⟩; refine Hid.out ?_))
      refine Lib.hid ?_
      have q12 := qA.trans (hB12.mono hqA)
      have hbw := hqA
      have hbw12 := hB12.size
      generalize wr.heap.size + 1 = Bd at *
      clear hcv qA hB12
      obtain ⟨z0, W4, hz0, hzS, hW4, S4, hb4⟩ := zero_made w12
      have hn3 := heap_new w12 (.cells #[.int .u64 0, .int .u64 0, .int .u64 0, .int .u64 0, .int .u64 0, .int .u64 0, .int .u64 0, .int .u64 0, .int .u64 0, .int .u64 0, .int .u64 0, .int .u64 0, .int .u64 0, .int .u64 0, .int .u64 0, .int .u64 0, .int .u64 0] 29)
      have HZ := Lib.hid hz0
      have HW4 := Lib.hid hW4
      have hszZ : (Try.prog.info? 29).map (·.size) = some z0.size := by rw [← hz0]; exact stInfo
      have honeZ : z0.all (·.oneCell') = true := by rw [← hzS]; exact stC_one _ _
      have holdZ : Hid (z0.size = 17) := by simp only [Hid]; rw [← hz0]; rfl
      clear hz0 hW4 hzS
      have S5 : StAt (W4.setCell ⟨w12.heap.size, 2, none⟩ (.int .u64 y)) w12.heap.size (rwv y) 0 := S4.set rfl 2 (by decide) y
      have hb5 := hb4.setCell (p := ⟨w12.heap.size, 2, none⟩) (Nat.le_refl _) (.int .u64 y)
      have c1 : W4.cell? ⟨w12.heap.size, 2, none⟩ = some (.int .u64 0) := S4.reg rfl 2 (by decide)
      have c2 := S4.froz 2
      have c3 := S4.lt
      obtain ⟨W5, hW5⟩ : ∃ W5, W4.setCell ⟨w12.heap.size, 2, none⟩ (.int .u64 y) = W5 := ⟨_, rfl⟩
      rw [hW5] at S5 hb5
      have HO := Over_any Bd Bd 1 (rwv y) 0 _ ls12 W5 (by decide) (rwv_ok hy) (hA12.below hb5)
      rw [show (1 : Int).toNat = 1 from rfl, HRun.out] at HO
      obtain ⟨pcv, hpcv⟩ : ∃ pcv, brI ((24 : UInt8).toNat : Int) nn 4 y = pcv := ⟨_, rfl⟩
      rw [hpcv] at HO
      have S5' : W5.heap[w12.heap.size]? = some (.cells (stC (rwv y) 0).toArray 29 (0, 0)) := S5
      have HO' : Hid (Calls Try.prog 6 #[.pointer (some ⟨Bd, 0, none⟩), .agg (stC (rwv y) 0).toArray, .int .i64 1] W5 fun e w' => e = .returned (.tuple #[.agg (stC (rwv y) pcv).toArray, .int .i64 1, .int .i64 0]) ∧ Below Bd W5 w') := HO.mono fun e w' hh => ⟨hh.1, hh.2.2.1⟩
      have hsz1 : (Try.prog.info? 29).map (·.size) = some (stC (rwv y) 0).toArray.size := stInfo
      have hsz2 : (Try.prog.info? 29).map (·.size) = some (stC (rwv y) pcv).toArray.size := stInfo
      have hone2 := stC_one (rwv y) pcv
      have HQ2 : Hid ((stC (rwv y) pcv).toArray.size = 17) := rfl
      have HSt2 : Hid (∀ (W : World) (B : Nat), W.heap[B]? = some (.cells (stC (rwv y) pcv).toArray 29 (0, 0)) → StAt W B (rwv y) pcv) := fun W B h => h
      generalize (stC (rwv y) 0).toArray = ca at *
      generalize (stC (rwv y) pcv).toArray = cb at *
      have q5 := q12.trans (hb5.mono q12.size)
      clear HO hA12 hb4 hb5 S4 S5 HRun hBr HQ11
      go_wp2_with (first
        | (refine wpList_buildTo rfl 29 _ rfl _ rfl z0 (by rw [← HZ.out]; kernel_rfl) ?_)
        | (refine wpList_store_row rfl 29 _ _ rfl w12.heap.size z0 rfl rfl 29 _ hn3 hszZ (by rw [holdZ.out]; rfl) honeZ ?_; rw [HW4.out]; refine Hid.out ?_))
      refine Lib.hid ?_
      clear hn3 HW4 HZ hszZ honeZ
      go_wp2_with (first
        | (refine wpList_load_row rfl 29 _ rfl w12.heap.size rfl 29 _ (0, 0) _ S5' Try.underlying29 rfl hsz1 ?_)
        | (go_at_call 6; refine HO'.out.mono ?_; rintro e w6 ⟨rfl, hB6⟩; refine Hid.out ?_))
      refine Lib.hid ?_
      have q6 := q5.trans (hB6.mono hbw)
      obtain ⟨W7, hW7, n7, hb7⟩ := state_laid w6 cb
      have hn6 := heap_new w6 (.cells #[.int .u64 0, .int .u64 0, .int .u64 0, .int .u64 0, .int .u64 0, .int .u64 0, .int .u64 0, .int .u64 0, .int .u64 0, .int .u64 0, .int .u64 0, .int .u64 0, .int .u64 0, .int .u64 0, .int .u64 0, .int .u64 0, .int .u64 0] 29)
      have HW7 := Lib.hid hW7
      have d16 : W7.cell? ⟨w6.heap.size, 16, none⟩ = some (.int .u64 pcv) := (HSt2.out W7 _ n7).pc rfl
      have q7 := q6.trans (hb7.mono q6.size)
      clear hW7 n7 hB6 q6 q5 S5' HO' hW5 c1 c2 c3 q12
      by_cases hy0 : y = 0
      · have hp : pcv = 4 := by rw [← hpcv]; unfold brI; rw [if_pos (.inr ⟨rfl, hy0⟩)]
        have hyb : (y == 0) = true := by simpa using hy0
        clear hpcv hy0
        subst hp
        go_wp2_with (first
          | (refine wpList_store_row rfl 29 _ _ rfl w6.heap.size cb rfl rfl 29 _ hn6 hsz2 (by rw [HQ2.out]; rfl) hone2 ?_; rw [HW7.out]))
        exact ⟨⟨.inr (.inr rfl), q7⟩, by simp only [RowKit.intOf]; omega⟩
      · have hp : pcv = IntKind.u64.wrap (4 + IntKind.u64.wrap (4 * IntKind.u64.wrap nn)) := by rw [← hpcv]; unfold brI; rw [if_neg (by simp [hy0])]
        have hyb : (y == 0) = false := by simpa using hy0
        clear hpcv hy0
        subst hp
        go_wp2_with (first
          | (refine wpList_store_row rfl 29 _ _ rfl w6.heap.size cb rfl rfl 29 _ hn6 hsz2 (by rw [HQ2.out]; rfl) hone2 ?_; rw [HW7.out]))
        exact ⟨⟨.inr (.inr rfl), q7⟩, by simp only [RowKit.intOf]; omega⟩
    · go_wp2
      go_ret
      exact ⟨rfl, hBr⟩
end Go.Proofs.Ytmmejicmjalibab
