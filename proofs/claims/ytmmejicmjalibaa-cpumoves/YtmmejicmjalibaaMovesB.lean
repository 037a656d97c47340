/- CpuMoves: the walk, of eight bytes. -/
import Derived.Test.YtmmejicmjalibaaMoves
namespace Go.Proofs.Ytmmejicmjalibaa
open Go.RowKit Go.Lib
set_option maxRecDepth 100000 in
set_option maxHeartbeats 4000000 in
theorem moves_88 (size way : Int) (x y : Int) (w : World) (hx : u64ok x) (hy : u64ok y) (m : Nat) (hm : m < 200) (hmv' : wrap64 ((IntKind.u64.wrap size).tmod 200) = (m : Int)) (hp' : (way.tmod 2 == 0) = false) (hf : y + ((8 : Nat) : Int) ≤ ((64 + m : Nat) : Int)) (h8 : 8 ≤ y) :
    Calls Try.prog 8 #[.int .i64 size, .int .u64 y, .int .u64 x, .int .i64 way] w fun e w' => e = .returned (.bool true) ∧ Below w.heap.size w w' := by
  have HL := Lib.hid lives_any
  have HMk := Lib.hid (fun (w1 : World) => mkN (56 + m) w1 (by omega))
  have hy1 := hy.1
  have hy2 := hy.2
  obtain ⟨hS1, hS2⟩ := mvS 8 m hm #[21, 1, 2, 0, 20, 3, 2, 0] rfl
  have HMe := Lib.hid (fun (w1 : World) => memory_any ((⟨#[21, 1, 2, 0, 20, 3, 2, 0]⟩ : ByteArray) ++ zeroB (56 + m)) w1 (by rw [hS1]; omega))
  rw [hS2] at HMe
  go_enter Try.func8, Try.ntmps8
  go_wp2_with (first
    | (go_at_call 9; refine (HL.out _).mono ?_; rintro e w1 ⟨rfl, hB1⟩; refine Hid.out ?_))
  refine Lib.hid ?_
  obtain ⟨W2, hmk, hB2, hcv⟩ := HMk.out w1
  have hzs : (zeroB (56 + m)).size = 56 + m := by show (List.toArray _).size = _; simp
  rw [show ((56 + m : Nat) : Int) = 64 + (m : Int) - 8 from by omega] at hmk
  go_wp2_with (first
    | (go_at_call 15; refine (HMe.out _).mono ?_; rintro e w3 ⟨rfl, ⟨ls3, hA3⟩, hB3⟩; refine Hid.out ?_))
  refine Lib.hid ?_
  have q3 : Below w.heap.size w w3 := (hB1.trans (hB2.mono hB1.size)).trans (hB3.mono (Nat.le_trans hB1.size hB2.size))
  have hbw3 := hB3.size
  have hbw2 := Nat.le_trans hB1.size hB2.size
  generalize W2.heap.size = Bb at *
  clear hmk hcv hB2 hB3 HMe
  have hb4 : Below w3.heap.size w3 (w3.alloc (.cells #[.int .u64 0, .int .u64 x, .int .u64 y, .int .u64 0, .int .u64 0, .int .u64 0, .int .u64 0, .int .u64 0, .int .u64 0, .int .u64 0, .int .u64 0, .int .u64 0, .int .u64 0, .int .u64 0, .int .u64 0, .int .u64 0, .int .u64 0] 25)) := (Below.refl _ _).alloc (Nat.le_refl _) _
  have hn4 := heap_new w3 (.cells #[.int .u64 0, .int .u64 x, .int .u64 y, .int .u64 0, .int .u64 0, .int .u64 0, .int .u64 0, .int .u64 0, .int .u64 0, .int .u64 0, .int .u64 0, .int .u64 0, .int .u64 0, .int .u64 0, .int .u64 0, .int .u64 0, .int .u64 0] 25)
  have HO : Calls Try.prog 13 #[.pointer (some ⟨Bb, 0, none⟩), .agg #[.int .u64 0, .int .u64 x, .int .u64 y, .int .u64 0, .int .u64 0, .int .u64 0, .int .u64 0, .int .u64 0, .int .u64 0, .int .u64 0, .int .u64 0, .int .u64 0, .int .u64 0, .int .u64 0, .int .u64 0, .int .u64 0, .int .u64 0], .int .i64 2] (w3.alloc (.cells #[.int .u64 0, .int .u64 x, .int .u64 y, .int .u64 0, .int .u64 0, .int .u64 0, .int .u64 0, .int .u64 0, .int .u64 0, .int .u64 0, .int .u64 0, .int .u64 0, .int .u64 0, .int .u64 0, .int .u64 0, .int .u64 0, .int .u64 0] 25)) (OverP Bb Bb (w3.alloc (.cells #[.int .u64 0, .int .u64 x, .int .u64 y, .int .u64 0, .int .u64 0, .int .u64 0, .int .u64 0, .int .u64 0, .int .u64 0, .int .u64 0, .int .u64 0, .int .u64 0, .int .u64 0, .int .u64 0, .int .u64 0, .int .u64 0, .int .u64 0] 25)) (overS 2 (r2v x y) 0 (mvD 8 m))) := Over_any Bb Bb 2 (r2v x y) 0 _ ls3 _ (by decide) (r2v_ok hx hy) (hA3.below hb4)
  have hok := (overS_ok 2 (d := mvD 8 m) (r2v_ok hx hy)).1
  have q4 : Below w.heap.size w (w3.alloc (.cells #[.int .u64 0, .int .u64 x, .int .u64 y, .int .u64 0, .int .u64 0, .int .u64 0, .int .u64 0, .int .u64 0, .int .u64 0, .int .u64 0, .int .u64 0, .int .u64 0, .int .u64 0, .int .u64 0, .int .u64 0, .int .u64 0, .int .u64 0] 25)) := q3.trans (hb4.mono q3.size)
  have HN4 := Lib.hid hn4
  have HB4 := Lib.hid q4
  clear hA3 hb4 hn4 q4
  rw [mv_runs 8 m x y (by omega) hx hy h8 hf] at HO hok
  simp only at HO hok
  have HO' : Hid (Calls Try.prog 13 #[.pointer (some ⟨Bb, 0, none⟩), .agg #[.int .u64 0, .int .u64 x, .int .u64 y, .int .u64 0, .int .u64 0, .int .u64 0, .int .u64 0, .int .u64 0, .int .u64 0, .int .u64 0, .int .u64 0, .int .u64 0, .int .u64 0, .int .u64 0, .int .u64 0, .int .u64 0, .int .u64 0], .int .i64 2] (w3.alloc (.cells #[.int .u64 0, .int .u64 x, .int .u64 y, .int .u64 0, .int .u64 0, .int .u64 0, .int .u64 0, .int .u64 0, .int .u64 0, .int .u64 0, .int .u64 0, .int .u64 0, .int .u64 0, .int .u64 0, .int .u64 0, .int .u64 0, .int .u64 0] 25)) fun e w' => e = .returned (.tuple #[.agg (stC ((r2v x y).set 3 (x % 2 ^ (8 * 8))) 8).toArray, .int .i64 2, .int .i64 0]) ∧ Below Bb (w3.alloc (.cells #[.int .u64 0, .int .u64 x, .int .u64 y, .int .u64 0, .int .u64 0, .int .u64 0, .int .u64 0, .int .u64 0, .int .u64 0, .int .u64 0, .int .u64 0, .int .u64 0, .int .u64 0, .int .u64 0, .int .u64 0, .int .u64 0, .int .u64 0] 25)) w' ∧ Fr (w3.alloc (.cells #[.int .u64 0, .int .u64 x, .int .u64 y, .int .u64 0, .int .u64 0, .int .u64 0, .int .u64 0, .int .u64 0, .int .u64 0, .int .u64 0, .int .u64 0, .int .u64 0, .int .u64 0, .int .u64 0, .int .u64 0, .int .u64 0, .int .u64 0] 25)) w') := HO.mono fun e w' hh => ⟨hh.1, hh.2.2.1, hh.2.2.2⟩
  have hsz2 : (Try.prog.info? 25).map (·.size) = some (stC ((r2v x y).set 3 (x % 2 ^ (8 * 8))) 8).toArray.size := by rw [stC_size hok.1]; exact stInfo
  have hone := stC_one ((r2v x y).set 3 (x % 2 ^ (8 * 8))) 8
  have HQ : Hid ((stC ((r2v x y).set 3 (x % 2 ^ (8 * 8))) 8).toArray.size = 17) := stC_size hok.1
  have HSt : Hid (∀ W B, W.heap[B]? = some (.cells (stC ((r2v x y).set 3 (x % 2 ^ (8 * 8))) 8).toArray 25 (0, 0)) → StAt W B ((r2v x y).set 3 (x % 2 ^ (8 * 8))) 8) := fun W B h => h
  obtain ⟨cs2, hcs2⟩ : ∃ cs2, (stC ((r2v x y).set 3 (x % 2 ^ (8 * 8))) 8).toArray = cs2 := ⟨_, rfl⟩
  rw [hcs2] at hsz2 hone HQ HO' HSt
  clear HO
  go_wp2_with (first
    | (go_at_call 13; refine HO'.out.mono ?_; rintro e w5 ⟨rfl, hB5, hF5⟩; refine Hid.out ?_))
  refine Lib.hid ?_
  have k5 := hF5.block HN4.out (by decide) (by decide)
  have q5 := HB4.out.trans (hB5.mono hbw2)
  have hn5 := heap_new w5 (.cells #[.int .u64 0, .int .u64 0, .int .u64 0, .int .u64 0, .int .u64 0, .int .u64 0, .int .u64 0, .int .u64 0, .int .u64 0, .int .u64 0, .int .u64 0, .int .u64 0, .int .u64 0, .int .u64 0, .int .u64 0, .int .u64 0, .int .u64 0] 25)
  have hb6 := below_setRow ((Below.refl w5.heap.size w5).alloc (Nat.le_refl _) (.cells #[.int .u64 0, .int .u64 0, .int .u64 0, .int .u64 0, .int .u64 0, .int .u64 0, .int .u64 0, .int .u64 0, .int .u64 0, .int .u64 0, .int .u64 0, .int .u64 0, .int .u64 0, .int .u64 0, .int .u64 0, .int .u64 0, .int .u64 0] 25)) (g := w5.heap.size) (Nat.le_refl _) cs2
  have hn6 := heap_setRow _ w5.heap.size _ cs2 _ hn5
  obtain ⟨W6, hW6⟩ : ∃ W6, (w5.alloc (.cells #[.int .u64 0, .int .u64 0, .int .u64 0, .int .u64 0, .int .u64 0, .int .u64 0, .int .u64 0, .int .u64 0, .int .u64 0, .int .u64 0, .int .u64 0, .int .u64 0, .int .u64 0, .int .u64 0, .int .u64 0, .int .u64 0, .int .u64 0] 25)).setRow w5.heap.size cs2 = W6 := ⟨_, rfl⟩
  rw [hW6] at hb6 hn6
  have HW6 := Lib.hid hW6
  have k6 := (hb6.block _ (Array.getElem?_eq_some_iff.1 k5).1).trans k5
  have HP := Lib.hid (q5.trans (hb6.mono q5.size))
  clear hW6 hB5 hF5 k5 q5 hb6
  have S6 := HSt.out W6 w5.heap.size hn6
  have c3 : W6.cell? ⟨w5.heap.size, 3, none⟩ = some (.int .u64 (x)) := by
    have := S6.reg rfl 3 (by decide)
    rw [this]
    show some (Value.int .u64 (x % 2 ^ (8 * 8))) = _
    rw [show ((2 : Int) ^ (8 * 8)) = 18446744073709551616 from by decide, Int.emod_eq_of_lt hx.1 hx.2]
  have c16 : W6.cell? ⟨w5.heap.size, 16, none⟩ = some (.int .u64 8) := S6.pc rfl
  clear S6
  have hu : IntKind.u64.wrap (64 + (m : Int)) = 64 + (m : Int) := wrap_id ⟨by omega, by omega⟩
  have hg1 : ¬ (64 + (m : Int)) < y := by omega
  have hw1 : IntKind.u64.wrap (64 + (m : Int) - y) = 64 + (m : Int) - y := wrap_id ⟨by omega, by omega⟩
  have hg2 : ¬ (64 + (m : Int) - y) < 8 := by omega
  have hg3 : ¬ y < 8 := by omega
  go_wp2_with (first
    | (refine wpList_store_row rfl 25 _ _ rfl w5.heap.size cs2 rfl rfl 25 _ hn5 hsz2 (by rw [HQ.out]; rfl) hone ?_; rw [HW6.out]))
  go_ret
  exact ⟨rfl, HP.out⟩
set_option maxRecDepth 100000 in
set_option maxHeartbeats 4000000 in
theorem moves_80 (size way : Int) (x y : Int) (w : World) (hx : u64ok x) (hy : u64ok y) (m : Nat) (hm : m < 200) (hmv' : wrap64 ((IntKind.u64.wrap size).tmod 200) = (m : Int)) (hp' : (way.tmod 2 == 0) = false) (hf : y + ((8 : Nat) : Int) ≤ ((64 + m : Nat) : Int)) (h8 : ¬ 8 ≤ y) :
    Calls Try.prog 8 #[.int .i64 size, .int .u64 y, .int .u64 x, .int .i64 way] w fun e w' => e = .returned (.bool true) ∧ Below w.heap.size w w' := by
  have HL := Lib.hid lives_any
  have HMk := Lib.hid (fun (w1 : World) => mkN (56 + m) w1 (by omega))
  have hy1 := hy.1
  have hy2 := hy.2
  obtain ⟨hS1, hS2⟩ := mvS 8 m hm #[21, 1, 2, 0, 20, 3, 2, 0] rfl
  have HMe := Lib.hid (fun (w1 : World) => memory_any ((⟨#[21, 1, 2, 0, 20, 3, 2, 0]⟩ : ByteArray) ++ zeroB (56 + m)) w1 (by rw [hS1]; omega))
  rw [hS2] at HMe
  go_enter Try.func8, Try.ntmps8
  go_wp2_with (first
    | (go_at_call 9; refine (HL.out _).mono ?_; rintro e w1 ⟨rfl, hB1⟩; refine Hid.out ?_))
  refine Lib.hid ?_
  obtain ⟨W2, hmk, hB2, hcv⟩ := HMk.out w1
  have hzs : (zeroB (56 + m)).size = 56 + m := by show (List.toArray _).size = _; simp
  rw [show ((56 + m : Nat) : Int) = 64 + (m : Int) - 8 from by omega] at hmk
  go_wp2_with (first
    | (go_at_call 15; refine (HMe.out _).mono ?_; rintro e w3 ⟨rfl, ⟨ls3, hA3⟩, hB3⟩; refine Hid.out ?_))
  refine Lib.hid ?_
  have q3 : Below w.heap.size w w3 := (hB1.trans (hB2.mono hB1.size)).trans (hB3.mono (Nat.le_trans hB1.size hB2.size))
  have hbw3 := hB3.size
  have hbw2 := Nat.le_trans hB1.size hB2.size
  generalize W2.heap.size = Bb at *
  clear hmk hcv hB2 hB3 HMe
  have hb4 : Below w3.heap.size w3 (w3.alloc (.cells #[.int .u64 0, .int .u64 x, .int .u64 y, .int .u64 0, .int .u64 0, .int .u64 0, .int .u64 0, .int .u64 0, .int .u64 0, .int .u64 0, .int .u64 0, .int .u64 0, .int .u64 0, .int .u64 0, .int .u64 0, .int .u64 0, .int .u64 0] 25)) := (Below.refl _ _).alloc (Nat.le_refl _) _
  have hn4 := heap_new w3 (.cells #[.int .u64 0, .int .u64 x, .int .u64 y, .int .u64 0, .int .u64 0, .int .u64 0, .int .u64 0, .int .u64 0, .int .u64 0, .int .u64 0, .int .u64 0, .int .u64 0, .int .u64 0, .int .u64 0, .int .u64 0, .int .u64 0, .int .u64 0] 25)
  have HO : Calls Try.prog 13 #[.pointer (some ⟨Bb, 0, none⟩), .agg #[.int .u64 0, .int .u64 x, .int .u64 y, .int .u64 0, .int .u64 0, .int .u64 0, .int .u64 0, .int .u64 0, .int .u64 0, .int .u64 0, .int .u64 0, .int .u64 0, .int .u64 0, .int .u64 0, .int .u64 0, .int .u64 0, .int .u64 0], .int .i64 2] (w3.alloc (.cells #[.int .u64 0, .int .u64 x, .int .u64 y, .int .u64 0, .int .u64 0, .int .u64 0, .int .u64 0, .int .u64 0, .int .u64 0, .int .u64 0, .int .u64 0, .int .u64 0, .int .u64 0, .int .u64 0, .int .u64 0, .int .u64 0, .int .u64 0] 25)) (OverP Bb Bb (w3.alloc (.cells #[.int .u64 0, .int .u64 x, .int .u64 y, .int .u64 0, .int .u64 0, .int .u64 0, .int .u64 0, .int .u64 0, .int .u64 0, .int .u64 0, .int .u64 0, .int .u64 0, .int .u64 0, .int .u64 0, .int .u64 0, .int .u64 0, .int .u64 0] 25)) (overS 2 (r2v x y) 0 (mvD 8 m))) := Over_any Bb Bb 2 (r2v x y) 0 _ ls3 _ (by decide) (r2v_ok hx hy) (hA3.below hb4)
  have hok := (overS_ok 2 (d := mvD 8 m) (r2v_ok hx hy)).1
  have q4 : Below w.heap.size w (w3.alloc (.cells #[.int .u64 0, .int .u64 x, .int .u64 y, .int .u64 0, .int .u64 0, .int .u64 0, .int .u64 0, .int .u64 0, .int .u64 0, .int .u64 0, .int .u64 0, .int .u64 0, .int .u64 0, .int .u64 0, .int .u64 0, .int .u64 0, .int .u64 0] 25)) := q3.trans (hb4.mono q3.size)
  have HN4 := Lib.hid hn4
  have HB4 := Lib.hid q4
  clear hA3 hb4 hn4 q4
  obtain ⟨out, hout⟩ : ∃ out, overS 2 (r2v x y) 0 (mvD 8 m) = out := ⟨_, rfl⟩
  rw [hout] at HO hok
  clear hout
  obtain ⟨rr, pp, dd, nn, ww⟩ := out
  simp only at HO hok
  have HO' : Hid (Calls Try.prog 13 #[.pointer (some ⟨Bb, 0, none⟩), .agg #[.int .u64 0, .int .u64 x, .int .u64 y, .int .u64 0, .int .u64 0, .int .u64 0, .int .u64 0, .int .u64 0, .int .u64 0, .int .u64 0, .int .u64 0, .int .u64 0, .int .u64 0, .int .u64 0, .int .u64 0, .int .u64 0, .int .u64 0], .int .i64 2] (w3.alloc (.cells #[.int .u64 0, .int .u64 x, .int .u64 y, .int .u64 0, .int .u64 0, .int .u64 0, .int .u64 0, .int .u64 0, .int .u64 0, .int .u64 0, .int .u64 0, .int .u64 0, .int .u64 0, .int .u64 0, .int .u64 0, .int .u64 0, .int .u64 0] 25)) fun e w' => e = .returned (.tuple #[.agg (stC rr pp).toArray, .int .i64 nn, .int .i64 ww]) ∧ Below Bb (w3.alloc (.cells #[.int .u64 0, .int .u64 x, .int .u64 y, .int .u64 0, .int .u64 0, .int .u64 0, .int .u64 0, .int .u64 0, .int .u64 0, .int .u64 0, .int .u64 0, .int .u64 0, .int .u64 0, .int .u64 0, .int .u64 0, .int .u64 0, .int .u64 0] 25)) w' ∧ Fr (w3.alloc (.cells #[.int .u64 0, .int .u64 x, .int .u64 y, .int .u64 0, .int .u64 0, .int .u64 0, .int .u64 0, .int .u64 0, .int .u64 0, .int .u64 0, .int .u64 0, .int .u64 0, .int .u64 0, .int .u64 0, .int .u64 0, .int .u64 0, .int .u64 0] 25)) w') := HO.mono fun e w' hh => ⟨hh.1, hh.2.2.1, hh.2.2.2⟩
  have hsz2 : (Try.prog.info? 25).map (·.size) = some (stC rr pp).toArray.size := by rw [stC_size hok.1]; exact stInfo
  have hone := stC_one rr pp
  have HQ : Hid ((stC rr pp).toArray.size = 17) := stC_size hok.1
  have HSt : Hid (∀ W B, W.heap[B]? = some (.cells (stC rr pp).toArray 25 (0, 0)) → StAt W B rr pp) := fun W B h => h
  obtain ⟨cs2, hcs2⟩ : ∃ cs2, (stC rr pp).toArray = cs2 := ⟨_, rfl⟩
  rw [hcs2] at hsz2 hone HQ HO' HSt
  clear HO
  go_wp2_with (first
    | (go_at_call 13; refine HO'.out.mono ?_; rintro e w5 ⟨rfl, hB5, hF5⟩; refine Hid.out ?_))
  refine Lib.hid ?_
  have k5 := hF5.block HN4.out (by decide) (by decide)
  have q5 := HB4.out.trans (hB5.mono hbw2)
  have hn5 := heap_new w5 (.cells #[.int .u64 0, .int .u64 0, .int .u64 0, .int .u64 0, .int .u64 0, .int .u64 0, .int .u64 0, .int .u64 0, .int .u64 0, .int .u64 0, .int .u64 0, .int .u64 0, .int .u64 0, .int .u64 0, .int .u64 0, .int .u64 0, .int .u64 0] 25)
  have hb6 := below_setRow ((Below.refl w5.heap.size w5).alloc (Nat.le_refl _) (.cells #[.int .u64 0, .int .u64 0, .int .u64 0, .int .u64 0, .int .u64 0, .int .u64 0, .int .u64 0, .int .u64 0, .int .u64 0, .int .u64 0, .int .u64 0, .int .u64 0, .int .u64 0, .int .u64 0, .int .u64 0, .int .u64 0, .int .u64 0] 25)) (g := w5.heap.size) (Nat.le_refl _) cs2
  have hn6 := heap_setRow _ w5.heap.size _ cs2 _ hn5
  obtain ⟨W6, hW6⟩ : ∃ W6, (w5.alloc (.cells #[.int .u64 0, .int .u64 0, .int .u64 0, .int .u64 0, .int .u64 0, .int .u64 0, .int .u64 0, .int .u64 0, .int .u64 0, .int .u64 0, .int .u64 0, .int .u64 0, .int .u64 0, .int .u64 0, .int .u64 0, .int .u64 0, .int .u64 0] 25)).setRow w5.heap.size cs2 = W6 := ⟨_, rfl⟩
  rw [hW6] at hb6 hn6
  have HW6 := Lib.hid hW6
  have k6 := (hb6.block _ (Array.getElem?_eq_some_iff.1 k5).1).trans k5
  have HP := Lib.hid (q5.trans (hb6.mono q5.size))
  clear hW6 hB5 hF5 k5 q5 hb6
  have hu : IntKind.u64.wrap (64 + (m : Int)) = 64 + (m : Int) := wrap_id ⟨by omega, by omega⟩
  have hg1 : ¬ (64 + (m : Int)) < y := by omega
  have hw1 : IntKind.u64.wrap (64 + (m : Int) - y) = 64 + (m : Int) - y := wrap_id ⟨by omega, by omega⟩
  have hg2 : ¬ (64 + (m : Int) - y) < 8 := by omega
  have hg3 : y < 8 := by omega
  go_wp2_with (first
    | (refine wpList_store_row rfl 25 _ _ rfl w5.heap.size cs2 rfl rfl 25 _ hn5 hsz2 (by rw [HQ.out]; rfl) hone ?_; rw [HW6.out]))
  go_ret
  exact ⟨rfl, HP.out⟩
set_option maxRecDepth 100000 in
set_option maxHeartbeats 4000000 in
theorem moves_8f (size way : Int) (x y : Int) (w : World) (hx : u64ok x) (hy : u64ok y) (m : Nat) (hm : m < 200) (hmv' : wrap64 ((IntKind.u64.wrap size).tmod 200) = (m : Int)) (hp' : (way.tmod 2 == 0) = false) (hf : ¬ y + ((8 : Nat) : Int) ≤ ((64 + m : Nat) : Int)) :
    Calls Try.prog 8 #[.int .i64 size, .int .u64 y, .int .u64 x, .int .i64 way] w fun e w' => e = .returned (.bool true) ∧ Below w.heap.size w w' := by
  have HL := Lib.hid lives_any
  have HMk := Lib.hid (fun (w1 : World) => mkN (56 + m) w1 (by omega))
  have hy1 := hy.1
  have hy2 := hy.2
  obtain ⟨hS1, hS2⟩ := mvS 8 m hm #[21, 1, 2, 0, 20, 3, 2, 0] rfl
  have HMe := Lib.hid (fun (w1 : World) => memory_any ((⟨#[21, 1, 2, 0, 20, 3, 2, 0]⟩ : ByteArray) ++ zeroB (56 + m)) w1 (by rw [hS1]; omega))
  rw [hS2] at HMe
  go_enter Try.func8, Try.ntmps8
  go_wp2_with (first
    | (go_at_call 9; refine (HL.out _).mono ?_; rintro e w1 ⟨rfl, hB1⟩; refine Hid.out ?_))
  refine Lib.hid ?_
  obtain ⟨W2, hmk, hB2, hcv⟩ := HMk.out w1
  have hzs : (zeroB (56 + m)).size = 56 + m := by show (List.toArray _).size = _; simp
  rw [show ((56 + m : Nat) : Int) = 64 + (m : Int) - 8 from by omega] at hmk
  go_wp2_with (first
    | (go_at_call 15; refine (HMe.out _).mono ?_; rintro e w3 ⟨rfl, ⟨ls3, hA3⟩, hB3⟩; refine Hid.out ?_))
  refine Lib.hid ?_
  have q3 : Below w.heap.size w w3 := (hB1.trans (hB2.mono hB1.size)).trans (hB3.mono (Nat.le_trans hB1.size hB2.size))
  have hbw3 := hB3.size
  have hbw2 := Nat.le_trans hB1.size hB2.size
  generalize W2.heap.size = Bb at *
  clear hmk hcv hB2 hB3 HMe
  have hb4 : Below w3.heap.size w3 (w3.alloc (.cells #[.int .u64 0, .int .u64 x, .int .u64 y, .int .u64 0, .int .u64 0, .int .u64 0, .int .u64 0, .int .u64 0, .int .u64 0, .int .u64 0, .int .u64 0, .int .u64 0, .int .u64 0, .int .u64 0, .int .u64 0, .int .u64 0, .int .u64 0] 25)) := (Below.refl _ _).alloc (Nat.le_refl _) _
  have hn4 := heap_new w3 (.cells #[.int .u64 0, .int .u64 x, .int .u64 y, .int .u64 0, .int .u64 0, .int .u64 0, .int .u64 0, .int .u64 0, .int .u64 0, .int .u64 0, .int .u64 0, .int .u64 0, .int .u64 0, .int .u64 0, .int .u64 0, .int .u64 0, .int .u64 0] 25)
  have HO : Calls Try.prog 13 #[.pointer (some ⟨Bb, 0, none⟩), .agg #[.int .u64 0, .int .u64 x, .int .u64 y, .int .u64 0, .int .u64 0, .int .u64 0, .int .u64 0, .int .u64 0, .int .u64 0, .int .u64 0, .int .u64 0, .int .u64 0, .int .u64 0, .int .u64 0, .int .u64 0, .int .u64 0, .int .u64 0], .int .i64 2] (w3.alloc (.cells #[.int .u64 0, .int .u64 x, .int .u64 y, .int .u64 0, .int .u64 0, .int .u64 0, .int .u64 0, .int .u64 0, .int .u64 0, .int .u64 0, .int .u64 0, .int .u64 0, .int .u64 0, .int .u64 0, .int .u64 0, .int .u64 0, .int .u64 0] 25)) (OverP Bb Bb (w3.alloc (.cells #[.int .u64 0, .int .u64 x, .int .u64 y, .int .u64 0, .int .u64 0, .int .u64 0, .int .u64 0, .int .u64 0, .int .u64 0, .int .u64 0, .int .u64 0, .int .u64 0, .int .u64 0, .int .u64 0, .int .u64 0, .int .u64 0, .int .u64 0] 25)) (overS 2 (r2v x y) 0 (mvD 8 m))) := Over_any Bb Bb 2 (r2v x y) 0 _ ls3 _ (by decide) (r2v_ok hx hy) (hA3.below hb4)
  have hok := (overS_ok 2 (d := mvD 8 m) (r2v_ok hx hy)).1
  have q4 : Below w.heap.size w (w3.alloc (.cells #[.int .u64 0, .int .u64 x, .int .u64 y, .int .u64 0, .int .u64 0, .int .u64 0, .int .u64 0, .int .u64 0, .int .u64 0, .int .u64 0, .int .u64 0, .int .u64 0, .int .u64 0, .int .u64 0, .int .u64 0, .int .u64 0, .int .u64 0] 25)) := q3.trans (hb4.mono q3.size)
  have HN4 := Lib.hid hn4
  have HB4 := Lib.hid q4
  clear hA3 hb4 hn4 q4
  rw [mv_fault 8 m x y (by omega) hy (by omega)] at HO hok
  simp only at HO hok
  have HO' : Hid (Calls Try.prog 13 #[.pointer (some ⟨Bb, 0, none⟩), .agg #[.int .u64 0, .int .u64 x, .int .u64 y, .int .u64 0, .int .u64 0, .int .u64 0, .int .u64 0, .int .u64 0, .int .u64 0, .int .u64 0, .int .u64 0, .int .u64 0, .int .u64 0, .int .u64 0, .int .u64 0, .int .u64 0, .int .u64 0], .int .i64 2] (w3.alloc (.cells #[.int .u64 0, .int .u64 x, .int .u64 y, .int .u64 0, .int .u64 0, .int .u64 0, .int .u64 0, .int .u64 0, .int .u64 0, .int .u64 0, .int .u64 0, .int .u64 0, .int .u64 0, .int .u64 0, .int .u64 0, .int .u64 0, .int .u64 0] 25)) fun e w' => e = .returned (.tuple #[.agg (stC (r2v x y) 0).toArray, .int .i64 0, .int .i64 3]) ∧ Below Bb (w3.alloc (.cells #[.int .u64 0, .int .u64 x, .int .u64 y, .int .u64 0, .int .u64 0, .int .u64 0, .int .u64 0, .int .u64 0, .int .u64 0, .int .u64 0, .int .u64 0, .int .u64 0, .int .u64 0, .int .u64 0, .int .u64 0, .int .u64 0, .int .u64 0] 25)) w' ∧ Fr (w3.alloc (.cells #[.int .u64 0, .int .u64 x, .int .u64 y, .int .u64 0, .int .u64 0, .int .u64 0, .int .u64 0, .int .u64 0, .int .u64 0, .int .u64 0, .int .u64 0, .int .u64 0, .int .u64 0, .int .u64 0, .int .u64 0, .int .u64 0, .int .u64 0] 25)) w') := HO.mono fun e w' hh => ⟨hh.1, hh.2.2.1, hh.2.2.2⟩
  have hsz2 : (Try.prog.info? 25).map (·.size) = some (stC (r2v x y) 0).toArray.size := by rw [stC_size hok.1]; exact stInfo
  have hone := stC_one (r2v x y) 0
  have HQ : Hid ((stC (r2v x y) 0).toArray.size = 17) := stC_size hok.1
  have HSt : Hid (∀ W B, W.heap[B]? = some (.cells (stC (r2v x y) 0).toArray 25 (0, 0)) → StAt W B (r2v x y) 0) := fun W B h => h
  obtain ⟨cs2, hcs2⟩ : ∃ cs2, (stC (r2v x y) 0).toArray = cs2 := ⟨_, rfl⟩
  rw [hcs2] at hsz2 hone HQ HO' HSt
  clear HO
  go_wp2_with (first
    | (go_at_call 13; refine HO'.out.mono ?_; rintro e w5 ⟨rfl, hB5, hF5⟩; refine Hid.out ?_))
  refine Lib.hid ?_
  have k5 := hF5.block HN4.out (by decide) (by decide)
  have q5 := HB4.out.trans (hB5.mono hbw2)
  have hn5 := heap_new w5 (.cells #[.int .u64 0, .int .u64 0, .int .u64 0, .int .u64 0, .int .u64 0, .int .u64 0, .int .u64 0, .int .u64 0, .int .u64 0, .int .u64 0, .int .u64 0, .int .u64 0, .int .u64 0, .int .u64 0, .int .u64 0, .int .u64 0, .int .u64 0] 25)
  have hb6 := below_setRow ((Below.refl w5.heap.size w5).alloc (Nat.le_refl _) (.cells #[.int .u64 0, .int .u64 0, .int .u64 0, .int .u64 0, .int .u64 0, .int .u64 0, .int .u64 0, .int .u64 0, .int .u64 0, .int .u64 0, .int .u64 0, .int .u64 0, .int .u64 0, .int .u64 0, .int .u64 0, .int .u64 0, .int .u64 0] 25)) (g := w5.heap.size) (Nat.le_refl _) cs2
  have hn6 := heap_setRow _ w5.heap.size _ cs2 _ hn5
  obtain ⟨W6, hW6⟩ : ∃ W6, (w5.alloc (.cells #[.int .u64 0, .int .u64 0, .int .u64 0, .int .u64 0, .int .u64 0, .int .u64 0, .int .u64 0, .int .u64 0, .int .u64 0, .int .u64 0, .int .u64 0, .int .u64 0, .int .u64 0, .int .u64 0, .int .u64 0, .int .u64 0, .int .u64 0] 25)).setRow w5.heap.size cs2 = W6 := ⟨_, rfl⟩
  rw [hW6] at hb6 hn6
  have HW6 := Lib.hid hW6
  have k6 := (hb6.block _ (Array.getElem?_eq_some_iff.1 k5).1).trans k5
  have HP := Lib.hid (q5.trans (hb6.mono q5.size))
  clear hW6 hB5 hF5 k5 q5 hb6
  have hu : IntKind.u64.wrap (64 + (m : Int)) = 64 + (m : Int) := wrap_id ⟨by omega, by omega⟩
  have heq := eq_st16 (r := r2v x y) (pc := 0) rfl hcs2
  have hpc := st_pc16 (r := r2v x y) (pc := 0) rfl hcs2
  have k6' : W6.heap[w3.heap.size]? = some (.cells cs2 25 (0, 0)) := by rw [← hcs2]; exact k6
  have HSg := Lib.hid k6'
  clear k6
  by_cases hg1 : (64 + (m : Int)) < y
  · go_wp2_with (first
      | (refine wpList_store_row rfl 25 _ _ rfl w5.heap.size cs2 rfl rfl 25 _ hn5 hsz2 (by rw [HQ.out]; rfl) hone ?_; rw [HW6.out])
      | (refine wpList_load_rowW rfl 25 _ rfl w3.heap.size rfl 25 _ (0, 0) _ k6' Try.underlying25 rfl hsz2 ?_)
      | (refine wpList_load_rowW rfl 25 _ rfl w5.heap.size rfl 25 _ (0, 0) _ hn6 Try.underlying25 rfl hsz2 ?_))
    go_ret
    exact ⟨rfl, HP.out⟩
  · have hw1 : IntKind.u64.wrap (64 + (m : Int) - y) = 64 + (m : Int) - y := wrap_id ⟨by omega, by omega⟩
    have hg2 : (64 + (m : Int) - y) < 8 := by omega
    go_wp2_with (first
      | (refine wpList_store_row rfl 25 _ _ rfl w5.heap.size cs2 rfl rfl 25 _ hn5 hsz2 (by rw [HQ.out]; rfl) hone ?_; rw [HW6.out])
      | (refine wpList_load_rowW rfl 25 _ rfl w3.heap.size rfl 25 _ (0, 0) _ k6' Try.underlying25 rfl hsz2 ?_)
      | (refine wpList_load_rowW rfl 25 _ rfl w5.heap.size rfl 25 _ (0, 0) _ hn6 Try.underlying25 rfl hsz2 ?_))
    go_ret
    exact ⟨rfl, HP.out⟩
end Go.Proofs.Ytmmejicmjalibaa
