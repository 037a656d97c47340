/- The law of a kernel that isn't there. -/
import Derived.Test.YtfmeajanbmaimaaGreatKLives
/- What a kernel that isn't there answers. -/
namespace Go.Proofs.YtfmeajanbmaimaaGreat
open Go.RowKit Go.Sort
theorem Tick_nil (w : World) : Calls Tryz.prog 8 #[.pointer none] w fun e w' => e = .returned (.tuple #[]) ∧ w' = w := by
  go_enter Tryz.func8, Tryz.ntmps8
  go_wp2
  exact bodyPost_end (v := .tuple #[]) (by simp [results, Tryz.results8]) rfl ⟨rfl, rfl⟩
theorem Ticks_nil (w : World) : Calls Tryz.prog 15 #[.pointer none] w fun e w' => e = .returned (.int .i64 0) ∧ w' = w := by
  go_enter Tryz.func15, Tryz.ntmps15
  go_wp2
  go_ret
  exact ⟨rfl, rfl⟩
theorem Ids_nil (w : World) : Calls Tryz.prog 14 #[.pointer none] w fun e w' => e = .returned (.slice none 0 0) ∧ w' = w := by
  go_enter Tryz.func14, Tryz.ntmps14
  go_wp2
  go_ret
  exact ⟨rfl, rfl⟩
theorem Drawn_nil (n : Int) (w : World) : Calls Tryz.prog 16 #[.pointer none, .int .i64 n] w fun e w' => e = .returned (.bool false) ∧ w' = w := by
  go_enter Tryz.func16, Tryz.ntmps16
  go_wp2
  go_ret
  exact ⟨rfl, rfl⟩
theorem Copy_nil (w : World) : Calls Tryz.prog 17 #[.pointer none] w fun e w' => e = .returned (.pointer none) ∧ w' = w := by
  go_enter Tryz.func17, Tryz.ntmps17
  go_wp2
  go_ret
  exact ⟨rfl, rfl⟩
theorem check_nil (i k : Int) (w : World) : Calls Tryz.prog 39 #[.pointer none, .int .i64 i, .int .i64 k] w fun e w' => e = .returned (.int .i64 4) ∧ w' = w := by
  go_enter Tryz.func39, Tryz.ntmps39
  go_wp2
  go_ret
  exact ⟨rfl, rfl⟩
theorem Put_nil (i : Int) (s : ByteArray) (w : World) : Calls Tryz.prog 11 #[.pointer none, .int .i64 i, .string s] w fun e w' => e = .returned (.int .i64 4) ∧ w' = w := by
  go_enter Tryz.func11, Tryz.ntmps11
  go_wp2_with (go_at_call 39; refine (check_nil _ _ _).mono ?_; rintro e w' ⟨rfl, hw'⟩; subst hw')
  go_ret
  exact ⟨rfl, rfl⟩
theorem Fill_nil (i : Int) (s : ByteArray) (w : World) : Calls Tryz.prog 13 #[.pointer none, .int .i64 i, .string s] w fun e w' => e = .returned (.int .i64 4) ∧ w' = w := by
  go_enter Tryz.func13, Tryz.ntmps13
  go_wp2_with (go_at_call 39; refine (check_nil _ _ _).mono ?_; rintro e w' ⟨rfl, hw'⟩; subst hw')
  go_ret
  exact ⟨rfl, rfl⟩
def stZ : Value := .agg #[.int .u64 0, .int .u64 0, .int .u64 0, .int .u64 0, .int .u64 0, .int .u64 0, .int .u64 0, .int .u64 0, .int .u64 0, .int .u64 0, .int .u64 0, .int .u64 0, .int .u64 0, .int .u64 0, .int .u64 0, .int .u64 0, .int .u64 0]
theorem SetState_nil (i : Int) (w : World) : Calls Tryz.prog 12 #[.pointer none, .int .i64 i, stZ] w fun e w' => e = .returned (.int .i64 4) ∧ Below w.heap.size w w' := by
  unfold stZ
  go_enter Tryz.func12, Tryz.ntmps12
  go_wp2_with (go_at_call 39; refine (check_nil _ _ _).mono ?_; rintro e w' ⟨rfl, hw'⟩; subst hw')
  refine bodyPost_ret (v := .int .i64 4) (by simp [results, Tryz.results12, go_sem]) rfl ⟨rfl, ?_⟩
  go_grown
theorem begin_nil (i dr : Int) (x : Ask) (hlv : ∃ p n c, x.lv = .slice p n c) (hmv : ∃ p n c, x.mv = .slice p n c) (w : World) : Calls Tryz.prog 21 #[.pointer none, .int .i64 i, askV x, .int .i64 dr] w fun e w' => e = .returned (.tuple #[.pointer none, .int .i64 4]) ∧ Below w.heap.size w w' := by
  obtain ⟨lp, ln, lc, hlv⟩ := hlv
  obtain ⟨mp, mn, mc, hmv⟩ := hmv
  unfold askV
  rw [hlv, hmv]
  go_enter Tryz.func21, Tryz.ntmps21
  go_wp2
  refine bodyPost_ret (v := .tuple #[.pointer none, .int .i64 4]) (by simp [results, Tryz.results21, go_sem]) rfl ⟨rfl, ?_⟩
  go_grown
theorem Load_nil (i n k : Int) (u : Int) (w : World) : Calls Tryz.prog 6 #[.pointer none, .int .i64 i, .int .u64 u, .int .i64 n, .int .i64 k] w fun e w' => e = .returned (.tuple #[.string ⟨#[]⟩, .int .i64 4]) ∧ Below w.heap.size w w' := by
  have HB := Lib.hid (begin_nil i 0 askZ ⟨_, _, _, rfl⟩ ⟨_, _, _, rfl⟩ w)
  unfold askV askZ at HB
  go_enter Tryz.func6, Tryz.ntmps6
  go_wp2_with (go_at_call 21; refine HB.out.mono ?_; rintro e w' ⟨rfl, hb⟩)
  refine bodyPost_ret (v := .tuple #[.string ⟨#[]⟩, .int .i64 4]) (by simp [results, Tryz.results6, go_sem]) rfl ⟨rfl, hb⟩
theorem Store_nil (i : Int) (u : Int) (s : ByteArray) (w : World) : Calls Tryz.prog 10 #[.pointer none, .int .i64 i, .int .u64 u, .string s] w fun e w' => e = .returned (.int .i64 4) ∧ Below w.heap.size w w' := by
  have HB := Lib.hid (begin_nil i 0 askZ ⟨_, _, _, rfl⟩ ⟨_, _, _, rfl⟩ w)
  unfold askV askZ at HB
  go_enter Tryz.func10, Tryz.ntmps10
  go_wp2_with (go_at_call 21; refine HB.out.mono ?_; rintro e w' ⟨rfl, hb⟩)
  go_ret
  exact ⟨rfl, hb⟩
def obL : List Value := [.int .i64 0, .int .i64 0, .int .i64 0, .int .i64 0, .int .i64 0, .int .i64 0, .slice none 0 0, .slice none 0 0, .string ⟨#[]⟩, .slice none 0 0, .int .i64 0, .slice none 0 0, .int .i64 0, .int .i64 0, .int .u64 0, .int .u64 0, .int .u64 0, .int .u64 0, .int .u64 0, .int .u64 0, .int .u64 0, .int .u64 0, .int .u64 0, .int .u64 0, .int .u64 0, .int .u64 0, .int .u64 0, .int .u64 0, .int .u64 0, .int .u64 0, .int .u64 0, .int .u64 0, .int .i64 0, .int .i64 0, .int .i64 0, .slice none 0 0, .string ⟨#[]⟩, .string ⟨#[]⟩]
theorem infoO : (Tryz.prog.info? 49).map (·.size) = some 38 := by kernel_rfl
set_option maxRecDepth 100000 in
set_option maxHeartbeats 2000000 in
theorem Object_nil (i : Int) (w : World) : Calls Tryz.prog 7 #[.pointer none, .int .i64 i] w fun e w' => e = .returned (.tuple #[.agg obL.toArray, .bool false]) ∧ Below w.heap.size w w' := by
  have hl : obL.length = 38 := rfl
  have h1 : ∀ v ∈ obL, v.oneCell' = true := by decide
  have HI := Lib.hid infoO
  have HL : Hid (obL.toArray = #[.int .i64 0, .int .i64 0, .int .i64 0, .int .i64 0, .int .i64 0, .int .i64 0, .slice none 0 0, .slice none 0 0, .string ⟨#[]⟩, .slice none 0 0, .int .i64 0, .slice none 0 0, .int .i64 0, .int .i64 0, .int .u64 0, .int .u64 0, .int .u64 0, .int .u64 0, .int .u64 0, .int .u64 0, .int .u64 0, .int .u64 0, .int .u64 0, .int .u64 0, .int .u64 0, .int .u64 0, .int .u64 0, .int .u64 0, .int .u64 0, .int .u64 0, .int .u64 0, .int .u64 0, .int .i64 0, .int .i64 0, .int .i64 0, .slice none 0 0, .string ⟨#[]⟩, .string ⟨#[]⟩]) := Lib.hid rfl
  obtain ⟨RL, hRL⟩ : ∃ RL, obL = RL := ⟨_, rfl⟩
  rw [hRL] at hl h1 HL ⊢
  clear hRL
  go_enter Tryz.func7, Tryz.ntmps7
  go_wp2_with (refine Rg.wpList_store_new w _ _ rfl _ _ _ rfl RL rfl (congrArg Value.agg HL.out.symm) (by rw [hl]; rfl) (by rw [hl]; exact HI.out) h1 (fun W2 hB2 hA2 hs2 => ?_); refine Hid.out ?_)
  refine Lib.hid ?_
  have HA := Lib.hid hA2.rng
  have HiC : Hid ((Tryz.prog.info? 49).map (·.size) = some RL.length) := Lib.hid (by rw [hl]; exact HI.out)
  clear hA2 hs2 h1 hl
  go_wp2
  refine bodyPost_ret (v := .tuple #[.agg RL.toArray, .bool false]) ?_ rfl ⟨rfl, hB2⟩
  exact results_cell_tmp Tryz.results7 _ _ w.heap.size _ _ rfl HA.out Tryz.underlying49 rfl HiC.out
set_option maxRecDepth 100000 in
set_option maxHeartbeats 2000000 in
theorem Do_nil (i dr : Int) (x : Ask) (hlv : ∃ p n c, x.lv = .slice p n c) (hmv : ∃ p n c, x.mv = .slice p n c) (w : World) : Calls Tryz.prog 5 #[.pointer none, .int .i64 i, askV x, .int .i64 dr] w fun e w' => e = .returned (.tuple #[.agg toldZ, .int .i64 4]) ∧ Below w.heap.size w w' := by
  have HBg := Lib.hid (fun X => begin_nil i dr x hlv hmv X)
  obtain ⟨lp, ln, lc, hlv⟩ := hlv
  obtain ⟨mp, mn, mc, hmv⟩ := hmv
  unfold askV at HBg ⊢
  rw [hlv, hmv] at HBg ⊢
  obtain ⟨cl, hcl⟩ : ∃ cl : List Value, [.int .i64 x.op, .int .i64 x.pi, .int .i64 x.pj, .int .i64 x.qi, .int .i64 x.qj, .int .i64 x.a, .int .i64 x.b, .int .i64 x.c, .int .i64 x.ld, .slice lp ln lc, .int .i64 x.md, .slice mp mn mc, .string x.s, .int .i64 x.at_, .int .i64 x.pg, .int .i64 x.inn, .int .i64 x.mid, .int .i64 x.fr, .bool x.wr, .bool x.rn] = cl := ⟨_, rfl⟩
  have hcs : #[.int .i64 x.op, .int .i64 x.pi, .int .i64 x.pj, .int .i64 x.qi, .int .i64 x.qj, .int .i64 x.a, .int .i64 x.b, .int .i64 x.c, .int .i64 x.ld, .slice lp ln lc, .int .i64 x.md, .slice mp mn mc, .string x.s, .int .i64 x.at_, .int .i64 x.pg, .int .i64 x.inn, .int .i64 x.mid, .int .i64 x.fr, .bool x.wr, .bool x.rn] = cl.toArray := by rw [← hcl]
  have hcn : cl.length = 20 := by rw [← hcl]; rfl
  rw [hcs] at HBg
  obtain ⟨W0, hW0⟩ : ∃ W0, (w.alloc (.cells cl.toArray 30)).alloc (.cells toldZ 37) = W0 := ⟨_, rfl⟩
  have hb0 : Below w.heap.size w W0 := by rw [← hW0]; go_grown
  have hi6 : W0.heap[w.heap.size]? = some (.cells cl.toArray 30 (0, 0)) := by rw [← hW0, Below.heap_alloc _ _ _ (by simp)]; exact heap_alloc_new _ _
  have hi8 : W0.heap[w.heap.size + 1]? = some (.cells toldZ 37 (0, 0)) := by
    rw [← hW0]
    have := heap_alloc_new (w.alloc (.cells cl.toArray 30)) (.cells toldZ 37)
    rwa [show (w.alloc (.cells cl.toArray 30)).heap.size = w.heap.size + 1 from by simp] at this
  have hz0 : w.heap.size + 1 < W0.heap.size := by rw [← hW0]; simp
  have HB0 := Lib.hid hb0
  have Hi6 : Hid (W0.rangeAt w.heap.size 0 cl) := Lib.hid (rng_of hi6)
  have Hi8 := Lib.hid hi8
  have HiC : Hid ((Tryz.prog.info? 30).map (·.size) = some cl.length) := Lib.hid (by rw [hcn]; exact infoC)
  obtain ⟨i6, hi6e⟩ : ∃ i6, w.heap.size = i6 := ⟨_, rfl⟩
  have Hi6e := Lib.hid hi6e
  clear hb0 hi6 hi8 hlv hmv hcl hcn
  unfold toldZ at hW0
  go_enter Tryz.func5, Tryz.ntmps5
  go_upto_region 1 with fail
  rw [hcs]
  try rw [hW0]
  rw [hi6e] at hz0 Hi6 Hi8
  clear hW0 hcs
  go_wp2_with (first
    | (go_at_call 21; refine (HBg.out _).mono ?_; rintro e W1 ⟨rfl, hb1⟩; refine Hid.out ?_)
    | (refine wpList_load_mid rfl 30 _ rfl i6 0 rfl _ _ Hi6.out Tryz.underlying30 rfl HiC.out ?_))
  refine Lib.hid ?_
  have hi81 := (hb1.block (i6 + 1) hz0).trans Hi8.out
  have HB1 := Lib.hid (HB0.out.trans (hb1.mono HB0.out.size))
  unfold toldZ at hi81
  obtain ⟨⟨y0, y1, y2, y3, y4, y5, y6, y7⟩, ⟨f0, f1, f2, f3, f4, f5, f6, f7⟩⟩ := told8 hi81
  have Hr8 := Lib.hid (set8 (v0 := .int .i64 0) (v1 := .string ⟨#[]⟩) (v2 := .int .i64 0) (v3 := .slice none 0 0) (v4 := .int .i64 0) (v5 := .slice none 0 0) (v6 := .slice none 0 0) (v7 := .slice none 0 0) hi81)
  have HbE := Lib.hid (Go.below_setCells (show w.heap.size ≤ i6 + 1 by have := Hi6e.out; omega) [.int .i64 0, .string ⟨#[]⟩, .int .i64 0, .slice none 0 0, .int .i64 0, .slice none 0 0, .slice none 0 0, .slice none 0 0] 0 W1 HB1.out)
  clear hb1 hi81 hz0 HBg
  go_wp2
  refine bodyPost_ret (v := .tuple #[.agg toldZ, .int .i64 4]) ?_ rfl ⟨rfl, HbE.out⟩
  exact results_cell_tmp Tryz.results5 _ _ (i6 + 1) _ _ rfl Hr8.out Tryz.underlying37 rfl infoT
end Go.Proofs.YtfmeajanbmaimaaGreat
/- Nothing is the same as nothing. -/
namespace Go.Proofs.YtfmeajanbmaimaaGreat
open Go.RowKit Go.Sort
theorem ints_zero (w : World) : Calls Tryz.prog 35 #[.slice none 0 0, .slice none 0 0] w fun e w' => e = .returned (.bool true) ∧ w' = w := by
  go_enter Tryz.func35, Tryz.ntmps35
  go_wp2
  go_loopw [13] (fun y wr => y = .int .i64 0 ∧ wr = w) (fun _ _ => 0)
  case atStart => exact ⟨rfl, rfl⟩
  case round =>
    obtain ⟨rfl, rfl⟩ := hrel
    go_wp2
    go_ret
    exact ⟨rfl, rfl⟩
theorem maps_zero (w : World) : Calls Tryz.prog 36 #[.slice none 0 0, .slice none 0 0] w fun e w' => e = .returned (.bool true) ∧ w' = w := by
  go_enter Tryz.func36, Tryz.ntmps36
  go_wp2
  go_loopw [13] (fun y wr => y = .int .i64 0 ∧ wr = w) (fun _ _ => 0)
  case atStart => exact ⟨rfl, rfl⟩
  case round =>
    obtain ⟨rfl, rfl⟩ := hrel
    go_wp2
    go_ret
    exact ⟨rfl, rfl⟩
theorem label_zero (w : World) : Calls Tryz.prog 34 #[.agg #[.int .i64 0, .slice none 0 0], .agg #[.int .i64 0, .slice none 0 0]] w fun e w' => e = .returned (.bool true) ∧ Below w.heap.size w w' := by
  go_enter Tryz.func34, Tryz.ntmps34
  go_wp2
  go_loopw [23] (fun y wr => y = .int .i64 0 ∧ Below w.heap.size w wr) (fun _ _ => 0)
  case atStart => exact ⟨rfl, by go_grown⟩
  case round =>
    obtain ⟨rfl, hb⟩ := hrel
    go_wp2
    go_ret
    exact ⟨rfl, hb⟩
set_option maxRecDepth 100000 in
set_option maxHeartbeats 2000000 in
theorem told_zero (w : World) : Calls Tryz.prog 9 #[.agg toldZ, .agg toldZ] w fun e w' => e = .returned (.bool true) ∧ Below w.heap.size w w' := by
  unfold toldZ
  obtain ⟨W0, hW0⟩ : ∃ W0, (w.alloc (.cells #[.int .i64 0, .string ⟨#[]⟩, .int .i64 0, .slice none 0 0, .int .i64 0, .slice none 0 0, .slice none 0 0, .slice none 0 0] 37)).alloc (.cells #[.int .i64 0, .string ⟨#[]⟩, .int .i64 0, .slice none 0 0, .int .i64 0, .slice none 0 0, .slice none 0 0, .slice none 0 0] 37) = W0 := ⟨_, rfl⟩
  have hb0 : Below w.heap.size w W0 := by rw [← hW0]; go_grown
  have hA : W0.heap[w.heap.size]? = some (.cells #[.int .i64 0, .string ⟨#[]⟩, .int .i64 0, .slice none 0 0, .int .i64 0, .slice none 0 0, .slice none 0 0, .slice none 0 0] 37 (0, 0)) := by rw [← hW0, Below.heap_alloc _ _ _ (by simp)]; exact heap_alloc_new _ _
  have hB : W0.heap[w.heap.size + 1]? = some (.cells #[.int .i64 0, .string ⟨#[]⟩, .int .i64 0, .slice none 0 0, .int .i64 0, .slice none 0 0, .slice none 0 0, .slice none 0 0] 37 (0, 0)) := by
    rw [← hW0]
    have := heap_alloc_new (w.alloc (.cells #[.int .i64 0, .string ⟨#[]⟩, .int .i64 0, .slice none 0 0, .int .i64 0, .slice none 0 0, .slice none 0 0, .slice none 0 0] 37)) (.cells #[.int .i64 0, .string ⟨#[]⟩, .int .i64 0, .slice none 0 0, .int .i64 0, .slice none 0 0, .slice none 0 0, .slice none 0 0] 37)
    rwa [show (w.alloc (.cells #[.int .i64 0, .string ⟨#[]⟩, .int .i64 0, .slice none 0 0, .int .i64 0, .slice none 0 0, .slice none 0 0, .slice none 0 0] 37)).heap.size = w.heap.size + 1 from by simp] at this
  have hz : w.heap.size + 1 < W0.heap.size := by rw [← hW0]; simp
  obtain ⟨i0, hi0⟩ : ∃ i0, w.heap.size = i0 := ⟨_, rfl⟩
  have HB0 := Lib.hid hb0
  go_enter Tryz.func9, Tryz.ntmps9
  go_upto_region 1 with fail
  try rw [hW0]
  rw [hi0] at hA hB hz
  try rw [hi0]
  have Hi0 := Lib.hid hi0
  have HA := Lib.hid hA
  have HB := Lib.hid hB
  have HZ := Lib.hid hz
  obtain ⟨⟨x0, x1, x2, x3, x4, x5, x6, x7⟩, -⟩ := told8 hA
  obtain ⟨⟨y0, y1, y2, y3, y4, y5, y6, y7⟩, -⟩ := told8 hB
  clear hW0 hb0 hi0 hA hB hz
  go_wp2_with (go_at_call 34; refine (label_zero _).mono ?_; rintro e W1 ⟨rfl, hb1⟩; refine Hid.out ?_)
  refine Lib.hid ?_
  have hA1 := (hb1.block i0 (by have := HZ.out; omega)).trans HA.out
  have hB1 := (hb1.block (i0 + 1) HZ.out).trans HB.out
  have hz1 := Nat.lt_of_lt_of_le HZ.out hb1.size
  have HB1 := Lib.hid (HB0.out.trans (hb1.mono HB0.out.size))
  clear x0 x1 x2 x3 x4 x5 x6 x7 y0 y1 y2 y3 y4 y5 y6 y7 hb1
  obtain ⟨⟨x0, x1, x2, x3, x4, x5, x6, x7⟩, -⟩ := told8 hA1
  obtain ⟨⟨y0, y1, y2, y3, y4, y5, y6, y7⟩, -⟩ := told8 hB1
  have HA1 := Lib.hid hA1
  have HB1' := Lib.hid hB1
  have HZ1 := Lib.hid hz1
  clear hA1 hB1 hz1 HA HB HZ HB0
  go_wp2_with (go_at_call 34; refine (label_zero _).mono ?_; rintro e W2 ⟨rfl, hb2⟩; refine Hid.out ?_)
  refine Lib.hid ?_
  have hA2 := (hb2.block i0 (by have := HZ1.out; omega)).trans HA1.out
  have hB2 := (hb2.block (i0 + 1) HZ1.out).trans HB1'.out
  have HB2 := Lib.hid (HB1.out.trans (hb2.mono HB1.out.size))
  clear x0 x1 x2 x3 x4 x5 x6 x7 y0 y1 y2 y3 y4 y5 y6 y7 hb2
  obtain ⟨⟨x0, x1, x2, x3, x4, x5, x6, x7⟩, -⟩ := told8 hA2
  obtain ⟨⟨y0, y1, y2, y3, y4, y5, y6, y7⟩, -⟩ := told8 hB2
  clear hA2 hB2 HA1 HB1' HZ1 HB1
  go_wp2_with (first
    | (go_at_call 35; refine (ints_zero _).mono ?_; rintro e w2 ⟨rfl, hw2⟩; subst hw2)
    | (go_at_call 36; refine (maps_zero _).mono ?_; rintro e w3 ⟨rfl, hw3⟩; subst hw3))
  go_ret
  exact ⟨rfl, HB2.out⟩
end Go.Proofs.YtfmeajanbmaimaaGreat
namespace Go.Proofs.YtfmeajanbmaimaaGreat
open Go.RowKit Go.Sort
set_option maxRecDepth 100000 in
set_option maxHeartbeats 8000000 in
theorem KernNone_any (i u : Int) (x : Ask) (s : ByteArray) (hlv : ∃ p n c, x.lv = .slice p n c) (hmv : ∃ p n c, x.mv = .slice p n c) (w : World) :
    Calls Tryz.prog 3 #[.int .i64 i, askV x, .int .u64 u, .string s] w fun e w' => e = .returned (.bool true) ∧ Below w.heap.size w w' := by
  have HDn := Lib.hid (fun X => Do_nil i 5 x hlv hmv X)
  have HOb := Lib.hid (fun X => Object_nil i X)
  have HTz := Lib.hid (fun X => told_zero X)
  have HSt := Lib.hid (fun X => SetState_nil i X)
  obtain ⟨lp, ln, lc, hlv⟩ := hlv
  obtain ⟨mp, mn, mc, hmv⟩ := hmv
  unfold askV at HDn ⊢
  rw [hlv, hmv] at HDn ⊢
  obtain ⟨cl, hcl⟩ : ∃ cl : List Value, [.int .i64 x.op, .int .i64 x.pi, .int .i64 x.pj, .int .i64 x.qi, .int .i64 x.qj, .int .i64 x.a, .int .i64 x.b, .int .i64 x.c, .int .i64 x.ld, .slice lp ln lc, .int .i64 x.md, .slice mp mn mc, .string x.s, .int .i64 x.at_, .int .i64 x.pg, .int .i64 x.inn, .int .i64 x.mid, .int .i64 x.fr, .bool x.wr, .bool x.rn] = cl := ⟨_, rfl⟩
  have hcs : #[.int .i64 x.op, .int .i64 x.pi, .int .i64 x.pj, .int .i64 x.qi, .int .i64 x.qj, .int .i64 x.a, .int .i64 x.b, .int .i64 x.c, .int .i64 x.ld, .slice lp ln lc, .int .i64 x.md, .slice mp mn mc, .string x.s, .int .i64 x.at_, .int .i64 x.pg, .int .i64 x.inn, .int .i64 x.mid, .int .i64 x.fr, .bool x.wr, .bool x.rn] = cl.toArray := by rw [← hcl]
  have hcn : cl.length = 20 := by rw [← hcl]; rfl
  rw [hcs] at HDn
  obtain ⟨W0, hW0⟩ : ∃ W0, w.alloc (.cells cl.toArray 30) = W0 := ⟨_, rfl⟩
  have hb0 : Below w.heap.size w W0 := by rw [← hW0]; go_grown
  have hi0 : W0.heap[w.heap.size]? = some (.cells cl.toArray 30 (0, 0)) := by rw [← hW0]; exact heap_alloc_new _ _
  have HB0 := Lib.hid hb0
  have Hi0 := Lib.hid hi0
  have HiC : Hid ((Tryz.prog.info? 30).map (·.size) = some cl.length) := Lib.hid (by rw [hcn]; exact infoC)
  obtain ⟨i0, hi0e⟩ : ∃ i0, w.heap.size = i0 := ⟨_, rfl⟩
  have hl : obL.length = 38 := rfl
  have h1 : ∀ v ∈ obL, v.oneCell' = true := by decide
  have hz : obL[0]? = some (.int .i64 0) := rfl
  have HI := Lib.hid infoO
  obtain ⟨RL, hRL⟩ : ∃ RL, obL = RL := ⟨_, rfl⟩
  rw [hRL] at hl h1 hz HOb
  have Hl := Lib.hid hl
  have H1 := Lib.hid h1
  have Hz := Lib.hid hz
  clear hb0 hi0 hlv hmv hcl hcn hRL hl h1 hz
  go_enter Tryz.func3, Tryz.ntmps3
  go_upto_region 1 with fail
  try rw [hcs]
  try rw [hW0]
  rw [hi0e] at Hi0
  try rw [hi0e]
  have Hi0e := Lib.hid hi0e
  clear hW0 hcs hi0e
  go_wp2_with (go_at_call 4; refine (lives_any _).mono ?_; rintro e W1 ⟨rfl, hb1⟩; refine Hid.out ?_)
  refine Lib.hid ?_
  have Hi1 : Hid (W1.rangeAt i0 0 cl) := Lib.hid (rng_of ((hb1.block i0 (Array.getElem?_eq_some_iff.1 Hi0.out).1).trans Hi0.out))
  have HB1 := Lib.hid (HB0.out.trans (hb1.mono HB0.out.size))
  clear hb1 HB0 Hi0
  go_wp2_with (first
    | (go_at_call 5; refine (HDn.out _).mono ?_; rintro e W2 ⟨rfl, hb2⟩; refine Hid.out ?_)
    | (refine wpList_load_mid rfl 30 _ rfl i0 0 rfl _ _ Hi1.out Tryz.underlying30 rfl HiC.out ?_))
  refine Lib.hid ?_
  have HB2 := Lib.hid (HB1.out.trans (hb2.mono HB1.out.size))
  clear hb2 HB1 Hi1 HiC HDn
  unfold toldZ
  go_upto_region 5 with fail
  obtain ⟨X2, hX2⟩ : ∃ X2, W2.alloc (.cells #[.int .i64 0, .string ⟨#[]⟩, .int .i64 0, .slice none 0 0, .int .i64 0, .slice none 0 0, .slice none 0 0, .slice none 0 0] 37) = X2 := ⟨_, rfl⟩
  have hx2 : Below W2.heap.size W2 X2 := by rw [← hX2]; exact (Below.refl _ _).alloc (Nat.le_refl _) _
  have ht2 : X2.heap[W2.heap.size]? = some (.cells #[.int .i64 0, .string ⟨#[]⟩, .int .i64 0, .slice none 0 0, .int .i64 0, .slice none 0 0, .slice none 0 0, .slice none 0 0] 37 (0, 0)) := by rw [← hX2]; exact heap_alloc_new _ _
  obtain ⟨t2, ht2e⟩ : ∃ t2, W2.heap.size = t2 := ⟨_, rfl⟩
  rw [ht2e] at ht2
  rw [hX2, ht2e]
  have HB2x := Lib.hid (HB2.out.trans (hx2.mono HB2.out.size))
  have Ht2 := Lib.hid ht2
  clear hX2 ht2e hx2 ht2 HB2
  go_wp2_with (go_at_call 6; refine (Load_nil i 1 0 u _).mono ?_; rintro e W3 ⟨rfl, hb3⟩; refine Hid.out ?_)
  refine Lib.hid ?_
  have Ht3 := Lib.hid ((hb3.block t2 (Array.getElem?_eq_some_iff.1 Ht2.out).1).trans Ht2.out)
  have HB3 := Lib.hid (HB2x.out.trans (hb3.mono HB2x.out.size))
  clear hb3 HB2x Ht2
  go_wp2_with (go_at_call 7; refine (HOb.out _).mono ?_; rintro e W4 ⟨rfl, hb4⟩; refine Hid.out ?_)
  refine Lib.hid ?_
  have Ht4 := Lib.hid ((hb4.block t2 (Array.getElem?_eq_some_iff.1 Ht3.out).1).trans Ht3.out)
  have HB4 := Lib.hid (HB3.out.trans (hb4.mono HB3.out.size))
  clear hb4 HB3 Ht3 HOb
  go_wp2_with (refine Rg.wpList_store_new W4 _ _ rfl _ _ _ rfl RL rfl rfl (by rw [Hl.out]; rfl) (by rw [Hl.out]; exact HI.out) H1.out (fun W5 hB5 hA5 hs5 => ?_); refine Hid.out ?_)
  refine Lib.hid ?_
  obtain ⟨o4, ho4⟩ : ∃ o4, W4.heap.size = o4 := ⟨_, rfl⟩
  have HB5 := Lib.hid (HB4.out.trans (hB5.mono HB4.out.size))
  have Ht5 := Lib.hid ((hB5.block t2 (Array.getElem?_eq_some_iff.1 Ht4.out).1).trans Ht4.out)
  rw [ho4] at hs5 hA5 ⊢
  have hz5 : W5.cell? ⟨o4, 0, none⟩ = some (.int .i64 0) := hA5.rng 0 _ Hz.out
  have Hz5 := Lib.hid hz5
  have Ho5 : Hid (o4 < W5.heap.size) := Lib.hid (by omega)
  obtain ⟨⟨x0, x1, x2, x3, x4, x5, x6, x7⟩, -⟩ := told8 Ht5.out
  clear hB5 hs5 hA5 Ht4 HB4 Hl H1 Hz HI hz5 ho4 Ht5
  unfold toldZ at HTz
  unfold stZ at HSt
  go_wp2_with (first
    | (go_at_call 8; refine (Tick_nil _).mono ?_; rintro e wt ⟨rfl, hwt⟩; subst hwt)
    | (go_at_call 9; refine (HTz.out _).mono ?_; rintro e W6 ⟨rfl, hb6⟩; refine Hid.out ?_))
  refine Lib.hid ?_
  have HB6 := Lib.hid (HB5.out.trans (hb6.mono HB5.out.size))
  have Hz6 := Lib.hid ((hb6.cell (p := ⟨o4, 0, none⟩) Ho5.out).trans Hz5.out)
  have Ho6 := Lib.hid (Nat.lt_of_lt_of_le Ho5.out hb6.size)
  clear x0 x1 x2 x3 x4 x5 x6 x7 hb6 HB5 Hz5 Ho5
  go_wp2_with (go_at_call 10; refine (Store_nil i u s _).mono ?_; rintro e W7 ⟨rfl, hb7⟩; refine Hid.out ?_)
  refine Lib.hid ?_
  have HB7 := Lib.hid (HB6.out.trans (hb7.mono HB6.out.size))
  have Hz7 := Lib.hid ((hb7.cell (p := ⟨o4, 0, none⟩) Ho6.out).trans Hz6.out)
  have Ho7 := Lib.hid (Nat.lt_of_lt_of_le Ho6.out hb7.size)
  clear hb7 HB6 Hz6 Ho6
  go_wp2_with (first
    | (go_at_call 11; refine (Put_nil i s _).mono ?_; rintro e wt ⟨rfl, hwt⟩; subst hwt)
    | (go_at_call 12; refine (HSt.out _).mono ?_; rintro e W8 ⟨rfl, hb8⟩; refine Hid.out ?_))
  refine Lib.hid ?_
  have HB8 := Lib.hid (HB7.out.trans (hb8.mono HB7.out.size))
  have z8 := (hb8.cell (p := ⟨o4, 0, none⟩) Ho7.out).trans Hz7.out
  clear hb8 HB7 Hz7 Ho7
  go_wp2_with (first
    | (go_at_call 13; refine (Fill_nil i s _).mono ?_; rintro e wt ⟨rfl, hwt⟩; subst hwt)
    | (go_at_call 14; refine (Ids_nil _).mono ?_; rintro e wt ⟨rfl, hwt⟩; subst hwt)
    | (go_at_call 15; refine (Ticks_nil _).mono ?_; rintro e wt ⟨rfl, hwt⟩; subst hwt)
    | (go_at_call 16; refine (Drawn_nil i _).mono ?_; rintro e wt ⟨rfl, hwt⟩; subst hwt)
    | (go_at_call 17; refine (Copy_nil _).mono ?_; rintro e wt ⟨rfl, hwt⟩; subst hwt))
  go_ret
  exact ⟨rfl, HB8.out⟩
end Go.Proofs.YtfmeajanbmaimaaGreat
