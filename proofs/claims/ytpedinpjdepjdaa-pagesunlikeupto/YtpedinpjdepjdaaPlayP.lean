/- Every row of calls on pages is answered as by the reference, and a copy has what stood then. -/
import Derived.Test.YtpedinpjdepjdaaPlay3
import Derived.Deep.CutBlock
import Derived.Laws.AppendOwnNone
import Derived.Maps.AppendAt
namespace Go.Proofs.Ytpedinpjdepjdaa
open Go.RowKit Go.Lib
theorem ptrInfoB : (Try.prog.info? 24).map (fun i => (i.zero, i.size, i.bytes)) = some (some (.pointer none), 1, 8) := by kernel_rfl
theorem slInfoB : (Try.prog.info? 29).map (fun i => (i.zero, i.size, i.bytes)) = some (some (.slice none 0 0), 1, 24) := by kernel_rfl
theorem zeros_eq (N : Nat) : u8s (rszK [] N 0) = u8s (List.replicate N 0) := by
  unfold rszK
  congr 1
  apply List.ext_getElem (by simp)
  intro i h1 h2
  simp
/-- A row of bytes that was just made, beside a new object. -/
theorem made_both {w1 w2 w5 : World} {N : Nat} (hN : N ≤ 4096) {ls : List (Nat × Bool)} (hA : BAt w2 w1.heap.size w1.heap.size (List.replicate N 0) ls) (hr : w5.ownsRow w2.heap.size 5 1 (.slice (some ⟨w2.heap.size, 0, none⟩) N N) N (u8s (rszK [] N 0))) (hb : Below w2.heap.size w2 w5) : Both w5 w1.heap.size w1.heap.size (.slice (some ⟨w2.heap.size, 0, none⟩) N N) (List.replicate N 0) := by
  refine ⟨⟨ls, hA.below hb⟩, ?_, by simpa using hN⟩
  rw [zeros_eq] at hr
  have := row_mono hr (Nat.zero_le _)
  simpa using this
set_option maxRecDepth 100000 in
set_option maxHeartbeats 8000000 in
theorem PagesPlay_any (n : Int) (p : Option Addr) (cp : Nat) (ops : List Op3) (w : World) (hp : Ops3At w p ops) (hg : ∀ x ∈ ops, x.good w ∧ sumL x.l + x.l.length ≤ 1048576) :
    Calls Try.prog 3 #[.int .i64 n, .slice p ops.length cp] w fun e w' => e = .returned (.bool true) ∧ Below w.heap.size w w' := by
  cases hs : sizeR n with
  | false =>
    have hn : n < 0 ∨ 4096 < n := by
      simp only [sizeR, Bool.and_eq_false_iff, decide_eq_false_iff_not] at hs
      omega
    have hSz := Size_any n
    rw [hs] at hSz
    have HSz := Lib.hid hSz
    have HN := Lib.hid (fun W => New_no n W hn)
    clear hSz hs
    go_enter Try.func3, Try.ntmps3
    go_wp2_with (first
      | (go_at_call 5; refine (lives_any _).mono ?_; rintro e w1 ⟨rfl, hb1⟩)
      | (go_at_call 6; refine (HN.out _).mono ?_; rintro e w2 ⟨rfl, hb2⟩)
      | (go_at_call 7; refine (HSz.out _).mono ?_; rintro e w3 ⟨rfl, hw3⟩; rw [hw3]; clear hw3 w3))
    go_ret
    exact ⟨rfl, hb1.trans (hb2.mono hb1.size)⟩
  | true =>
    obtain ⟨i0, hi, hz0, hz1, hz2⟩ := info_parts' byteInfoR
    obtain ⟨N, rfl, hN⟩ : ∃ N : Nat, n = (N : Int) ∧ N ≤ 4096 := by
      simp only [sizeR, Bool.and_eq_true, decide_eq_true_eq] at hs
      exact ⟨n.toNat, by omega, by omega⟩
    have hSz := Size_any (N : Int)
    rw [hs] at hSz
    have HSz := Lib.hid hSz
    have HN := Lib.hid (fun W => New_any N W hN)
    have hNi : ¬ ((N : Int) < 0) := by omega
    clear hSz hs
    go_enter Try.func3, Try.ntmps3
    go_upto_region 8 with (first
      | (go_at_call 5; refine (lives_any _).mono ?_; rintro e w1 ⟨rfl, hb1⟩)
      | (go_at_call 6; refine (HN.out _).mono ?_; rintro e w2 ⟨rfl, ⟨ls, hA2⟩, hb2⟩)
      | (go_at_call 7; refine (HSz.out _).mono ?_; rintro e w3 ⟨rfl, hw3⟩; rw [hw3]; clear hw3 w3))
    obtain ⟨w5, hmk, how5, hgr5⟩ := run_make_full (P := Try.prog) w2 w2.heap.size 29 5 i0 (.int .u8 0) 1 Try.underlying29 hi hz0 hz1 .i64 .i64 N (by rw [hz2]; omega) (by unfold maxLen; omega) (Nat.le_refl _)
    rw [made_zero [] N] at how5
    have hb5 : Below w2.heap.size w2 w5 := ⟨hgr5.os, hgr5.tape, hgr5.output, hgr5.size, fun k hk => hgr5.block k hk (by simp)⟩
    have hbw : Below w.heap.size w w5 := (hb1.trans (hb2.mono hb1.size)).trans (hb5.mono (Nat.le_trans hb1.size hb2.size))
    have hpp0 : PP w w5 w1.heap.size w1.heap.size (.slice (some ⟨w2.heap.size, 0, none⟩) N N) (List.replicate N 0) [] [] (.slice none 0 0) (.slice none 0 0) :=
      ⟨made_both hN hA2 how5 hb5, Nat.le_trans hb2.size hb5.size, hb1.size, fun i a u h1 => by simp at h1, World.ownsRow_nil _ _ _ _, World.ownsRow_nil _ _ _ _, hbw⟩
    clear hA2 how5 hgr5 hb5 hbw hb1 hb2
    go_upto_block 0 with fail
    obtain ⟨k0, hk0, ky0, ky1, ky2⟩ := info_parts' ptrInfoB
    obtain ⟨j0, hj, jy0, jy1, jy2⟩ := info_parts' slInfoB
    go_cut [5, 7, 8, 9, 10, 11, 12, 13, 14, 42] from 43 to 81 (fun v5 v7 v8 v9 v10 v11 v12 v13 v14 v42 wx => ∃ (b0 Bb : Nat) (d : List UInt8) (l8 : List Nat) (l9 : List Value), v5 = .pointer (some ⟨Bb, 0, none⟩) ∧ l8.length = l9.length ∧ l8.length ≤ 200 ∧ PP w wx b0 Bb v7 d l8 l9 v8 v9)
    case first =>
      go_wp2_with fail
      go_loopw [5, 7, 8, 9, 42] (fun v5 v7 v8 v9 y wr => ∃ (k b0 Bb : Nat) (d : List UInt8) (l8 : List Nat) (l9 : List Value), v5 = .pointer (some ⟨Bb, 0, none⟩) ∧ y = .int .i64 k ∧ k ≤ ops.length ∧ k ≤ 200 ∧ l8.length = l9.length ∧ l8.length ≤ k ∧ PP w wr b0 Bb v7 d l8 l9 v8 v9) (fun _ _ _ _ y _ => (ops.length - (RowKit.intOf y).toNat))
      case atStart => exact ⟨0, _, _, _, [], [], rfl, rfl, Nat.zero_le _, Nat.zero_le _, rfl, Nat.le_refl _, hpp0⟩
      case round =>
        clear hpp0 hmk
        rename World => wr
        obtain ⟨k, b0, Bb, d, l8, l9, hv5, hy42, hk, hk2, hll, hlk, hst⟩ := hrel
        subst hv5 hy42
        have HLL := Lib.hid hll
        clear hll
        obtain ⟨sp8, cap8, hv8⟩ := row_formk hst.r8
        obtain ⟨sp9, cap9, hv9⟩ := row_formk hst.r9
        subst hv8 hv9
        obtain ⟨sp7, cap7, hv7⟩ := row_formk hst.both.row
        subst hv7
        by_cases hlt : k < ops.length
        · have hki : (k : Int) < (ops.length : Int) := by omega
          obtain ⟨gp, op, rfl, hgp, c0, c1, c2, c3, c4⟩ := hp.at_ hst.bel hlt
          have hgd := hg _ (List.getElem_mem hlt)
          obtain ⟨x, hx⟩ : ∃ x, ops[k] = x := ⟨_, rfl⟩
          rw [hx] at c0 c1 c2 c3 c4 hgd
          obtain ⟨kd, at', nn, pp, pc, pl, xx⟩ := x
          obtain ⟨hgo, hbk⟩ := hgd
          have hga := hgo.a
          have hgx := hgo.x
          have hgc := hgo.cs
          have hgn := hgo.nil
          have hgl := hgo.lt
          simp only at c0 c1 c2 c3 c4 hga hgx hgc hgn hgl hbk
          clear hx hgo
          by_cases h200 : k < 200
          · have h200i : ¬ (200 : Int) ≤ (k : Int) := by omega
            obtain ⟨W1, hW1⟩ : ∃ W1, wr.alloc (.cells #[.int .i64 kd, .int .i64 at', .int .i64 nn, .slice pp pl.length pc, .int .u64 (xx : Int)] 35) = W1 := ⟨_, rfl⟩
            have hb1 : Below wr.heap.size wr W1 := by rw [← hW1]; exact (Below.refl _ _).alloc (Nat.le_refl _) _
            have hO1 : W1.heap[wr.heap.size]? = some (.cells #[.int .i64 kd, .int .i64 at', .int .i64 nn, .slice pp pl.length pc, .int .u64 (xx : Int)] 35 (0, 0)) := by rw [← hW1]; exact heap_new _ _
            have hs1 := hst.below hb1
            have d0 : W1.cell? ⟨wr.heap.size, 0, none⟩ = some (.int .i64 kd) := by simp [World.cell?, hO1]
            have d1 : W1.cell? ⟨wr.heap.size, 1, none⟩ = some (.int .i64 at') := by simp [World.cell?, hO1]
            have d2 : W1.cell? ⟨wr.heap.size, 2, none⟩ = some (.int .i64 nn) := by simp [World.cell?, hO1]
            have d3 : W1.cell? ⟨wr.heap.size, 3, none⟩ = some (.slice pp pl.length pc) := by simp [World.cell?, hO1]
            have d4 : W1.cell? ⟨wr.heap.size, 4, none⟩ = some (.int .u64 (xx : Int)) := by simp [World.cell?, hO1]
            have HS1 := Lib.hid hs1
            have hgc1 : CsAt W1 pp pl := hgc.below (by exact hs1.bel)
            have hgl1 : pl ≠ [] → ∀ ad, pp = some ad → ad.block < b0 := fun h ad e => Nat.lt_of_lt_of_le (hgl h ad e) hs1.lo
            clear hst hs1 hb1 hO1 hgc hgl
            by_cases hk6 : kd = 6
            · have kb6 : (kd == 6) = true := by simp; omega
              clear hk6
              obtain ⟨ls, hA⟩ := HS1.out.both.obj
              have HCp := Lib.hid (Copy_z b0 Bb d ls W1 hA)
              clear hA
              go_wp2_with (go_at_call 8; refine HCp.out.mono ?_; rintro e w3 ⟨C, u1, rfl, q1, q2, q3, q4, q5, q6⟩; refine Hid.out ?_)
              refine Lib.hid ?_
              obtain ⟨hq3, hold3⟩ := HS1.out.copy q1 q2 q3 q4 q5 q6
              have HRow := Lib.hid (hq3.r8.alloc (.cells #[.pointer (some ⟨Bb, 0, none⟩)] 24))
              have HNw : Hid (∀ j u, ([.pointer (some ⟨Bb, 0, none⟩)] : List Value)[j]? = some u → (w3.alloc (.cells #[.pointer (some ⟨Bb, 0, none⟩)] 24)).cell? ((⟨w3.heap.size, 0, none⟩ : Addr).add j) = some u) := cell_one_new _ _ _
              have HOn : Hid (∀ u ∈ ([.pointer (some ⟨Bb, 0, none⟩)] : List Value), u.oneCell' = true) := fun u hu => by simp at hu; rcases hu with rfl; rfl
              have hbs := hq3.bel.size
              have HQ3 := Lib.hid hq3
              have HO3 := Lib.hid hold3
              clear hq3 hold3 q1 q2 q3 q4 q5 q6 HS1 HCp
              go_wp2_with (at_builtin; refine wpList_append_own_at _ rfl _ _ 30 rfl w.heap.size 24 k0 (.pointer none) 1 8 (by kernel_rfl) hk0 ky0 ky1 ky2 rfl (by decide) _ _ _ rfl HRow.out ⟨w3.heap.size, 0, none⟩ 1 1 [.pointer (some ⟨Bb, 0, none⟩)] rfl rfl HNw.out HOn.out (by show _ ≤ 2 ^ 63 - 1; omega) (by omega) (by simp; omega) ?_; intro v7 w7 hown7 hgrow7 hnil7 hat7; clear hnil7 hat7; have HO7 := Lib.hid hown7; have HG7 := Lib.hid hgrow7; clear hown7 hgrow7; refine Hid.out ?_)
              refine Lib.hid ?_
              obtain ⟨hq7, hk7⟩ := HQ3.out.app8 HO7.out HG7.out (by rw [HLL.out]; exact Nat.le_refl _)
              have hold7 := HO3.out.kp hk7
              have HRow := Lib.hid (hq7.r9.alloc (.cells #[.slice sp7 d.length cap7] 29))
              have HNw : Hid (∀ j u, ([.slice sp7 d.length cap7] : List Value)[j]? = some u → (w7.alloc (.cells #[.slice sp7 d.length cap7] 29)).cell? ((⟨w7.heap.size, 0, none⟩ : Addr).add j) = some u) := cell_one_new _ _ _
              have HOn : Hid (∀ u ∈ ([.slice sp7 d.length cap7] : List Value), u.oneCell' = true) := fun u hu => by simp at hu; rcases hu with rfl; rfl
              have hbs7 := hq7.bel.size
              have hl9b : l9.length ≤ 200 := by have := HLL.out; omega
              have HQ7 := Lib.hid hq7
              have HO7b := Lib.hid hold7
              clear hq7 hold7 hk7 HQ3 HO3 HO7 HG7
              go_wp2_with (at_builtin; refine wpList_append_own_at _ rfl _ _ 31 rfl w.heap.size 29 j0 (.slice none 0 0) 1 24 (by kernel_rfl) hj jy0 jy1 jy2 rfl (by decide) _ _ _ rfl HRow.out ⟨w7.heap.size, 0, none⟩ 1 1 [.slice sp7 d.length cap7] rfl rfl HNw.out HOn.out (by show _ ≤ 2 ^ 63 - 1; omega) (by omega) (by simp; omega) ?_; intro v9 w9 hown9 hgrow9 hnil9 hat9; clear hnil9 hat9; have HO9 := Lib.hid hown9; have HG9 := Lib.hid hgrow9; clear hown9 hgrow9)
              go_roundw
              case rel =>
                have hq9 := HQ7.out.app9 HO9.out HG9.out (fun a ha => by
                  rw [List.getElem?_append_right (by rw [HLL.out]; exact Nat.le_refl _), HLL.out, Nat.sub_self] at ha
                  simp at ha
                  subst ha
                  exact HO7b.out)
                exact ⟨k + 1, W1.heap.size, C, d, l8 ++ [Bb], l9 ++ [.slice sp7 d.length cap7], rfl, by go_num, by omega, by omega, by simp [HLL.out], by simp; omega, hq9⟩
              case measure => simp [RowKit.intOf]; omega
            · have kb6 : (kd == 6) = false := by simpa using hk6
              clear hk6
              have HSt := Lib.hid (step_any b0 Bb (.slice sp7 d.length cap7) d kd at' nn xx pp pc pl W1 HS1.out.both HS1.out.bb hgc1 hgl1 hgn (by omega) (by omega) hga hgx)
              go_wp2_with (go_at_call 9; refine HSt.out.mono ?_; rintro e w3 ⟨v3, d3', rfl, hB3, hb3, hf3⟩; refine Hid.out ?_)
              refine Lib.hid ?_
              have hq3 := HS1.out.step hB3 hb3 hf3
              have HWh := Lib.hid (whole_any b0 Bb v3 d3' w3 hB3)
              have HQ3 := Lib.hid hq3
              clear hB3 hb3 hf3 hq3 HSt HS1
              go_wp2_with (go_at_call 10; refine HWh.out.mono ?_; rintro e w4 ⟨rfl, hb4⟩)
              go_roundw
              case rel => exact ⟨k + 1, b0, Bb, d3', l8, l9, rfl, by go_num, by omega, by omega, HLL.out, by omega, HQ3.out.below hb4⟩
              case measure => simp [RowKit.intOf]; omega
          · have hkx : (200 : Int) ≤ (k : Int) := by omega
            have HSt := Lib.hid hst
            clear hst hp
            go_wp2_with fail
            go_meet
            exact ⟨b0, Bb, d, l8, l9, rfl, HLL.out, by omega, HSt.out.below ((Below.refl _ _).alloc (Nat.le_refl _) _)⟩
        · obtain rfl : k = ops.length := by omega
          have hkk : ¬ (ops.length : Int) < (ops.length : Int) := by omega
          have HSt := Lib.hid hst
          clear hst hp
          go_wp2_with fail
          go_meet
          exact ⟨b0, Bb, d, l8, l9, rfl, HLL.out, by omega, HSt.out⟩
    case rest =>
      clear hpp0 hmk
      rename World => wC
      obtain ⟨b0, Bb, d, l8, l9, hv5, hll, hl2, hst⟩ := hcut
      subst hv5
      have HLL := Lib.hid hll
      clear hll
      obtain ⟨sp8, cap8, hv8⟩ := row_formk hst.r8
      obtain ⟨sp9, cap9, hv9⟩ := row_formk hst.r9
      subst hv8 hv9
      have HST := Lib.hid hst
      clear hst
      go_wp2_with fail
      go_loopw [84] (fun y wr => ∃ ix : Nat, y = .int .i64 ix ∧ ix ≤ l8.length ∧ RowKit.Below wC.heap.size wC wr) (fun y _ => (l8.length - (RowKit.intOf y).toNat))
      case atStart => exact ⟨0, rfl, Nat.zero_le _, Below.refl _ _⟩
      case round =>
        obtain ⟨ix, rfl, hi1, hbw⟩ := hrel
        rename World => wr
        by_cases hil : ix < l8.length
        · have hii : (ix : Int) < (l8.length : Int) := by omega
          obtain ⟨a, ha⟩ : ∃ a, l8[ix]? = some a := ⟨l8[ix], List.getElem?_eq_getElem hil⟩
          have hil2 : ix < l9.length := by rw [← HLL.out]; exact hil
          obtain ⟨u, hu⟩ : ∃ u, l9[ix]? = some u := ⟨l9[ix], List.getElem?_eq_getElem hil2⟩
          obtain ⟨ga, hg8, k8⟩ : ∃ ga, sp8 = some ⟨ga, 0, none⟩ ∧ ga < wC.heap.size ∧ wC.cell? ⟨ga, ix, none⟩ = some (.pointer (some ⟨a, 0, none⟩)) := by
            rcases HST.out.r8.2 with ⟨_, h0⟩ | ⟨g, cap, cur, hv, _, hg', _⟩
            · omega
            · have hsp : sp8 = some ⟨g, 0, none⟩ := by simp only [Value.slice.injEq] at hv; exact hv.1
              subst hsp
              refine ⟨g, rfl, blk_lt hg', ?_⟩
              rw [HST.out.r8.cellAt ix (by omega)]
              unfold ptrs
              rw [List.getElem?_map, ha]; rfl
          obtain ⟨gb, hg9, k9⟩ : ∃ gb, sp9 = some ⟨gb, 0, none⟩ ∧ gb < wC.heap.size ∧ wC.cell? ⟨gb, ix, none⟩ = some u := by
            rcases HST.out.r9.2 with ⟨_, h0⟩ | ⟨g, cap, cur, hv, _, hg', _⟩
            · omega
            · have hsp : sp9 = some ⟨g, 0, none⟩ := by simp only [Value.slice.injEq] at hv; exact hv.1
              subst hsp
              refine ⟨g, rfl, blk_lt hg', ?_⟩
              rw [HST.out.r9.cellAt ix (by omega)]; exact hu
          subst hg8 hg9
          obtain ⟨wc, bi, dd, _, hkp, hbo⟩ := HST.out.olds ix a u ha hu
          obtain ⟨spu, cpu, hvu⟩ := row_formk hbo.row
          subst hvu
          have hii2 : (ix : Int) < (l9.length : Int) := by omega
          have hBo : Both wC bi a (.slice spu dd.length cpu) dd := hbo.kp hkp
          have cW : ∀ X, RowKit.Below wr.heap.size wr X → X.cell? ⟨ga, ix, none⟩ = some (.pointer (some ⟨a, 0, none⟩)) ∧ X.cell? ⟨gb, ix, none⟩ = some (.slice spu dd.length cpu) := fun X hX => by
            have hcX := hbw.trans (hX.mono hbw.size)
            exact ⟨(hcX.cell (p := ⟨ga, ix, none⟩) k8.1).trans k8.2, (hcX.cell (p := ⟨gb, ix, none⟩) k9.1).trans k9.2⟩
          have HPX : Hid (∀ X, RowKit.Below wr.heap.size wr X → Both X bi a (.slice spu dd.length cpu) dd) := fun X hX => hBo.kp (.below (hbw.trans (hX.mono hbw.size)))
          have HBW := Lib.hid hbw
          clear hbw hBo hbo hkp k8 k9 ha hu
          go_upto_region 30 with fail
          refine wp_region_monoT 6 10 (fun kq uq Xq => match kq with | 87 => uq = .slice (some ⟨ga, 0, none⟩) l8.length cap8 | 88 => uq = .int .i64 (ix : Int) | 89 => uq = .pointer (some ⟨ga, ix, none⟩) | 90 => uq = .pointer (some ⟨a, 0, none⟩) | 91 => uq = .slice (some ⟨gb, 0, none⟩) l9.length cap9 | 92 => uq = .int .i64 (ix : Int) | 93 => uq = .pointer (some ⟨gb, ix, none⟩) | 94 => uq = .slice spu dd.length cpu | 95 => uq = .bool true | 96 => uq = .bool false | _ => True) (by kernel_rfl) (by kernel_rfl) (by kernel_rfl) (by kernel_rfl) (by simp) (by kernel_rfl) ?_ ?_ ?_
          · intro kq v W W' h hb
            revert h
            try dsimp only
            split
            · intro h; exact h
            · intro h; exact h
            · intro h; exact h
            · intro h; exact h
            · intro h; exact h
            · intro h; exact h
            · intro h; exact h
            · intro h; exact h
            · intro h; exact h
            · intro h; exact h
            · intro h; trivial
          · intro a' X hB hs hk i o d ho hd hG
            match i, ho with
            | 0, ho =>
              obtain rfl : _ = o := Option.some.inj ho
              obtain rfl : 87 = d := Option.some.inj hd
              have g8 : a'.eval (.tmp 8) = .slice (some ⟨ga, 0, none⟩) l8.length cap8 := hk 8 (by kernel_rfl)
              obtain ⟨ev, hev⟩ : ∃ ev, a'.eval = ev := ⟨_, rfl⟩
              rw [hev] at g8 ⊢
              clear hev hG hk
              obtain ⟨q0, q1⟩ := cW X hB
              exact .inr ⟨rfl, .inl ⟨.slice (some ⟨ga, 0, none⟩) l8.length cap8, X, by clear hs; go_simp, Below.refl _ _, rfl⟩⟩
            | 1, ho =>
              obtain rfl : _ = o := Option.some.inj ho
              obtain rfl : 88 = d := Option.some.inj hd
              have g15 : a'.eval (.tmp 15) = .int .i64 ix := hk 15 (by kernel_rfl)
              obtain ⟨ev, hev⟩ : ∃ ev, a'.eval = ev := ⟨_, rfl⟩
              rw [hev] at g15 ⊢
              clear hev hG hk
              obtain ⟨q0, q1⟩ := cW X hB
              exact .inr ⟨rfl, .inl ⟨.int .i64 (ix : Int), X, by clear hs; go_simp, Below.refl _ _, rfl⟩⟩
            | 2, ho =>
              obtain rfl : _ = o := Option.some.inj ho
              obtain rfl : 89 = d := Option.some.inj hd
              have g87 : a'.eval (.tmp 87) = .slice (some ⟨ga, 0, none⟩) l8.length cap8 := hG ⟨0, .data⟩ (by simp) rfl 87 rfl
              have g88 : a'.eval (.tmp 88) = .int .i64 (ix : Int) := hG ⟨1, .data⟩ (by simp) rfl 88 rfl
              obtain ⟨ev, hev⟩ : ∃ ev, a'.eval = ev := ⟨_, rfl⟩
              rw [hev] at g87 g88 ⊢
              clear hev hG hk
              obtain ⟨q0, q1⟩ := cW X hB
              exact .inr ⟨rfl, .inl ⟨.pointer (some ⟨ga, ix, none⟩), X, by clear hs; go_simp, Below.refl _ _, rfl⟩⟩
            | 3, ho =>
              obtain rfl : _ = o := Option.some.inj ho
              obtain rfl : 90 = d := Option.some.inj hd
              have g89 : a'.eval (.tmp 89) = .pointer (some ⟨ga, ix, none⟩) := hG ⟨2, .data⟩ (by simp) rfl 89 rfl
              obtain ⟨ev, hev⟩ : ∃ ev, a'.eval = ev := ⟨_, rfl⟩
              rw [hev] at g89 ⊢
              clear hev hG hk
              obtain ⟨q0, q1⟩ := cW X hB
              exact .inr ⟨rfl, .inl ⟨.pointer (some ⟨a, 0, none⟩), X, by clear hs; go_simp, Below.refl _ _, rfl⟩⟩
            | 4, ho =>
              obtain rfl : _ = o := Option.some.inj ho
              obtain rfl : 91 = d := Option.some.inj hd
              have g9 : a'.eval (.tmp 9) = .slice (some ⟨gb, 0, none⟩) l9.length cap9 := hk 9 (by kernel_rfl)
              obtain ⟨ev, hev⟩ : ∃ ev, a'.eval = ev := ⟨_, rfl⟩
              rw [hev] at g9 ⊢
              clear hev hG hk
              obtain ⟨q0, q1⟩ := cW X hB
              exact .inr ⟨rfl, .inl ⟨.slice (some ⟨gb, 0, none⟩) l9.length cap9, X, by clear hs; go_simp, Below.refl _ _, rfl⟩⟩
            | 5, ho =>
              obtain rfl : _ = o := Option.some.inj ho
              obtain rfl : 92 = d := Option.some.inj hd
              have g15 : a'.eval (.tmp 15) = .int .i64 ix := hk 15 (by kernel_rfl)
              obtain ⟨ev, hev⟩ : ∃ ev, a'.eval = ev := ⟨_, rfl⟩
              rw [hev] at g15 ⊢
              clear hev hG hk
              obtain ⟨q0, q1⟩ := cW X hB
              exact .inr ⟨rfl, .inl ⟨.int .i64 (ix : Int), X, by clear hs; go_simp, Below.refl _ _, rfl⟩⟩
            | 6, ho =>
              obtain rfl : _ = o := Option.some.inj ho
              obtain rfl : 93 = d := Option.some.inj hd
              have g91 : a'.eval (.tmp 91) = .slice (some ⟨gb, 0, none⟩) l9.length cap9 := hG ⟨4, .data⟩ (by simp) rfl 91 rfl
              have g92 : a'.eval (.tmp 92) = .int .i64 (ix : Int) := hG ⟨5, .data⟩ (by simp) rfl 92 rfl
              obtain ⟨ev, hev⟩ : ∃ ev, a'.eval = ev := ⟨_, rfl⟩
              rw [hev] at g91 g92 ⊢
              clear hev hG hk
              obtain ⟨q0, q1⟩ := cW X hB
              exact .inr ⟨rfl, .inl ⟨.pointer (some ⟨gb, ix, none⟩), X, by clear hs; go_simp, Below.refl _ _, rfl⟩⟩
            | 7, ho =>
              obtain rfl : _ = o := Option.some.inj ho
              obtain rfl : 94 = d := Option.some.inj hd
              have g93 : a'.eval (.tmp 93) = .pointer (some ⟨gb, ix, none⟩) := hG ⟨6, .data⟩ (by simp) rfl 93 rfl
              obtain ⟨ev, hev⟩ : ∃ ev, a'.eval = ev := ⟨_, rfl⟩
              rw [hev] at g93 ⊢
              clear hev hG hk
              obtain ⟨q0, q1⟩ := cW X hB
              exact .inr ⟨rfl, .inl ⟨.slice spu dd.length cpu, X, by clear hs; go_simp, Below.refl _ _, rfl⟩⟩
            | 8, ho =>
              obtain rfl : _ = o := Option.some.inj ho
              obtain rfl : 95 = d := Option.some.inj hd
              have g90 : a'.eval (.tmp 90) = .pointer (some ⟨a, 0, none⟩) := hG ⟨3, .data⟩ (by simp) rfl 90 rfl
              have g94 : a'.eval (.tmp 94) = .slice spu dd.length cpu := hG ⟨7, .data⟩ (by simp) rfl 94 rfl
              refine .inr ⟨rfl, .inr ⟨10, #[.pointer (some ⟨a, 0, none⟩), .slice spu dd.length cpu], ?_, ?_⟩⟩
              · have gF : a'.eval (.func 10) = .func (.func 10) #[] #[] := rfl
                obtain ⟨ev, hev⟩ : ∃ ev, a'.eval = ev := ⟨_, rfl⟩
                rw [hev] at gF g90 g94 ⊢
                exact exec_call2 rfl gF g90 g94 (enters_of Try.func10 (by kernel_rfl) rfl)
              exact (whole_any bi a _ dd X (HPX.out X hB)).mono fun e W' ⟨he, hb⟩ => ⟨_, he, hb, rfl⟩
            | 9, ho =>
              obtain rfl : _ = o := Option.some.inj ho
              obtain rfl : 96 = d := Option.some.inj hd
              have g95 : a'.eval (.tmp 95) = .bool true := hG ⟨8, .data⟩ (by simp) rfl 95 rfl
              obtain ⟨ev, hev⟩ : ∃ ev, a'.eval = ev := ⟨_, rfl⟩
              rw [hev] at g95 ⊢
              clear hev hG hk
              obtain ⟨q0, q1⟩ := cW X hB
              exact .inr ⟨rfl, .inl ⟨.bool false, X, by clear hs; go_simp, Below.refl _ _, rfl⟩⟩
            | j + 10, ho => simp at ho
          · intro a' X hB hs hdf hk hG
            obtain ⟨tm, df⟩ := a'
            obtain rfl : df = [] := hdf
            have e0 : tm.getD 0 undef = .int .i64 N := hk 0 (by kernel_rfl)
            have e1 : tm.getD 1 undef = .slice p ops.length cp := hk 1 (by kernel_rfl)
            have e2 : tm.getD 2 undef = undef := hk 2 (by kernel_rfl)
            have e3 : tm.getD 3 undef = undef := hk 3 (by kernel_rfl)
            have e4 : tm.getD 4 undef = u4 := hk 4 (by kernel_rfl)
            have e5 : tm.getD 5 undef = .pointer (some ⟨Bb, 0, none⟩) := hk 5 (by kernel_rfl)
            have e6 : tm.getD 6 undef = .int .i64 0 := hk 6 (by kernel_rfl)
            have e7 : tm.getD 7 undef = u7 := hk 7 (by kernel_rfl)
            have e8 : tm.getD 8 undef = .slice (some ⟨ga, 0, none⟩) l8.length cap8 := hk 8 (by kernel_rfl)
            have e9 : tm.getD 9 undef = .slice (some ⟨gb, 0, none⟩) l9.length cap9 := hk 9 (by kernel_rfl)
            have e10 : tm.getD 10 undef = u10 := hk 10 (by kernel_rfl)
            have e11 : tm.getD 11 undef = u11 := hk 11 (by kernel_rfl)
            have e12 : tm.getD 12 undef = u12 := hk 12 (by kernel_rfl)
            have e13 : tm.getD 13 undef = u13 := hk 13 (by kernel_rfl)
            have e14 : tm.getD 14 undef = u14 := hk 14 (by kernel_rfl)
            have e15 : tm.getD 15 undef = .int .i64 ix := hk 15 (by kernel_rfl)
            have e16 : tm.getD 16 undef = .bool true := hk 16 (by kernel_rfl)
            have e17 : tm.getD 17 undef = .bool false := hk 17 (by kernel_rfl)
            have e18 : tm.getD 18 undef = .tuple #[.pointer (some ⟨w1.heap.size, 0, none⟩), .int .i64 0] := hk 18 (by kernel_rfl)
            have e19 : tm.getD 19 undef = .int .i64 N := hk 19 (by kernel_rfl)
            have e20 : tm.getD 20 undef = .tuple #[.pointer (some ⟨w1.heap.size, 0, none⟩), .int .i64 0] := hk 20 (by kernel_rfl)
            have e21 : tm.getD 21 undef = .pointer (some ⟨w1.heap.size, 0, none⟩) := hk 21 (by kernel_rfl)
            have e22 : tm.getD 22 undef = .int .i64 0 := hk 22 (by kernel_rfl)
            have e23 : tm.getD 23 undef = .int .i64 N := hk 23 (by kernel_rfl)
            have e24 : tm.getD 24 undef = .bool true := hk 24 (by kernel_rfl)
            have e25 : tm.getD 25 undef = .bool false := hk 25 (by kernel_rfl)
            have e26 : tm.getD 26 undef = undef := hk 26 (by kernel_rfl)
            have e27 : tm.getD 27 undef = undef := hk 27 (by kernel_rfl)
            have e28 : tm.getD 28 undef = undef := hk 28 (by kernel_rfl)
            have e29 : tm.getD 29 undef = undef := hk 29 (by kernel_rfl)
            have e30 : tm.getD 30 undef = undef := hk 30 (by kernel_rfl)
            have e31 : tm.getD 31 undef = undef := hk 31 (by kernel_rfl)
            have e32 : tm.getD 32 undef = .int .i64 0 := hk 32 (by kernel_rfl)
            have e33 : tm.getD 33 undef = .bool false := hk 33 (by kernel_rfl)
            have e34 : tm.getD 34 undef = .bool false := hk 34 (by kernel_rfl)
            have e35 : tm.getD 35 undef = .pointer (some ⟨w1.heap.size, 0, none⟩) := hk 35 (by kernel_rfl)
            have e36 : tm.getD 36 undef = .bool false := hk 36 (by kernel_rfl)
            have e37 : tm.getD 37 undef = .bool false := hk 37 (by kernel_rfl)
            have e38 : tm.getD 38 undef = .int .i64 N := hk 38 (by kernel_rfl)
            have e39 : tm.getD 39 undef = .slice (some ⟨w2.heap.size, 0, none⟩) N N := hk 39 (by kernel_rfl)
            have e40 : tm.getD 40 undef = .slice p ops.length cp := hk 40 (by kernel_rfl)
            have e41 : tm.getD 41 undef = .int .i64 ops.length := hk 41 (by kernel_rfl)
            have e42 : tm.getD 42 undef = u42 := hk 42 (by kernel_rfl)
            have e43 : tm.getD 43 undef = u43 := hk 43 (by kernel_rfl)
            have e44 : tm.getD 44 undef = u44 := hk 44 (by kernel_rfl)
            have e45 : tm.getD 45 undef = u45 := hk 45 (by kernel_rfl)
            have e46 : tm.getD 46 undef = u46 := hk 46 (by kernel_rfl)
            have e47 : tm.getD 47 undef = u47 := hk 47 (by kernel_rfl)
            have e48 : tm.getD 48 undef = u48 := hk 48 (by kernel_rfl)
            have e49 : tm.getD 49 undef = u49 := hk 49 (by kernel_rfl)
            have e50 : tm.getD 50 undef = u50 := hk 50 (by kernel_rfl)
            have e51 : tm.getD 51 undef = u51 := hk 51 (by kernel_rfl)
            have e52 : tm.getD 52 undef = u52 := hk 52 (by kernel_rfl)
            have e53 : tm.getD 53 undef = u53 := hk 53 (by kernel_rfl)
            have e54 : tm.getD 54 undef = u54 := hk 54 (by kernel_rfl)
            have e55 : tm.getD 55 undef = u55 := hk 55 (by kernel_rfl)
            have e56 : tm.getD 56 undef = u56 := hk 56 (by kernel_rfl)
            have e57 : tm.getD 57 undef = u57 := hk 57 (by kernel_rfl)
            have e58 : tm.getD 58 undef = u58 := hk 58 (by kernel_rfl)
            have e59 : tm.getD 59 undef = u59 := hk 59 (by kernel_rfl)
            have e60 : tm.getD 60 undef = u60 := hk 60 (by kernel_rfl)
            have e61 : tm.getD 61 undef = u61 := hk 61 (by kernel_rfl)
            have e62 : tm.getD 62 undef = u62 := hk 62 (by kernel_rfl)
            have e63 : tm.getD 63 undef = u63 := hk 63 (by kernel_rfl)
            have e64 : tm.getD 64 undef = u64 := hk 64 (by kernel_rfl)
            have e65 : tm.getD 65 undef = u65 := hk 65 (by kernel_rfl)
            have e66 : tm.getD 66 undef = u66 := hk 66 (by kernel_rfl)
            have e67 : tm.getD 67 undef = u67 := hk 67 (by kernel_rfl)
            have e68 : tm.getD 68 undef = u68 := hk 68 (by kernel_rfl)
            have e69 : tm.getD 69 undef = u69 := hk 69 (by kernel_rfl)
            have e70 : tm.getD 70 undef = u70 := hk 70 (by kernel_rfl)
            have e71 : tm.getD 71 undef = u71 := hk 71 (by kernel_rfl)
            have e72 : tm.getD 72 undef = u72 := hk 72 (by kernel_rfl)
            have e73 : tm.getD 73 undef = u73 := hk 73 (by kernel_rfl)
            have e74 : tm.getD 74 undef = u74 := hk 74 (by kernel_rfl)
            have e75 : tm.getD 75 undef = u75 := hk 75 (by kernel_rfl)
            have e76 : tm.getD 76 undef = u76 := hk 76 (by kernel_rfl)
            have e77 : tm.getD 77 undef = u77 := hk 77 (by kernel_rfl)
            have e78 : tm.getD 78 undef = u78 := hk 78 (by kernel_rfl)
            have e79 : tm.getD 79 undef = u79 := hk 79 (by kernel_rfl)
            have e80 : tm.getD 80 undef = u80 := hk 80 (by kernel_rfl)
            have e81 : tm.getD 81 undef = u81 := hk 81 (by kernel_rfl)
            have e82 : tm.getD 82 undef = .slice (some ⟨ga, 0, none⟩) l8.length cap8 := hk 82 (by kernel_rfl)
            have e83 : tm.getD 83 undef = .int .i64 l8.length := hk 83 (by kernel_rfl)
            have e84 : tm.getD 84 undef = .int .i64 ix := hk 84 (by kernel_rfl)
            have e85 : tm.getD 85 undef = .bool true := hk 85 (by kernel_rfl)
            have e86 : tm.getD 86 undef = .int .i64 ix := hk 86 (by kernel_rfl)
            have e97 : tm.getD 97 undef = u97 := hk 97 (by kernel_rfl)
            have e98 : tm.getD 98 undef = undef := hk 98 (by kernel_rfl)
            have e99 : tm.getD 99 undef = undef := hk 99 (by kernel_rfl)
            have e100 : tm.getD 100 undef = undef := hk 100 (by kernel_rfl)
            have g87 : (tm.getD 87 undef) = .slice (some ⟨ga, 0, none⟩) l8.length cap8 := hG 0 87 (by decide) rfl
            have g88 : (tm.getD 88 undef) = .int .i64 (ix : Int) := hG 1 88 (by decide) rfl
            have g89 : (tm.getD 89 undef) = .pointer (some ⟨ga, ix, none⟩) := hG 2 89 (by decide) rfl
            have g90 : (tm.getD 90 undef) = .pointer (some ⟨a, 0, none⟩) := hG 3 90 (by decide) rfl
            have g91 : (tm.getD 91 undef) = .slice (some ⟨gb, 0, none⟩) l9.length cap9 := hG 4 91 (by decide) rfl
            have g92 : (tm.getD 92 undef) = .int .i64 (ix : Int) := hG 5 92 (by decide) rfl
            have g93 : (tm.getD 93 undef) = .pointer (some ⟨gb, ix, none⟩) := hG 6 93 (by decide) rfl
            have g94 : (tm.getD 94 undef) = .slice spu dd.length cpu := hG 7 94 (by decide) rfl
            have g95 : (tm.getD 95 undef) = .bool true := hG 8 95 (by decide) rfl
            have g96 : (tm.getD 96 undef) = .bool false := hG 9 96 (by decide) rfl
            have htm := arr_of tm ((.int .i64 N : Value) :: (.slice p ops.length cp : Value) :: (undef : Value) :: (undef : Value) :: (u4 : Value) :: (.pointer (some ⟨Bb, 0, none⟩) : Value) :: (.int .i64 0 : Value) :: (u7 : Value) :: (.slice (some ⟨ga, 0, none⟩) l8.length cap8 : Value) :: (.slice (some ⟨gb, 0, none⟩) l9.length cap9 : Value) :: (u10 : Value) :: (u11 : Value) :: (u12 : Value) :: (u13 : Value) :: (u14 : Value) :: (.int .i64 ix : Value) :: (.bool true : Value) :: (.bool false : Value) :: (.tuple #[.pointer (some ⟨w1.heap.size, 0, none⟩), .int .i64 0] : Value) :: (.int .i64 N : Value) :: (.tuple #[.pointer (some ⟨w1.heap.size, 0, none⟩), .int .i64 0] : Value) :: (.pointer (some ⟨w1.heap.size, 0, none⟩) : Value) :: (.int .i64 0 : Value) :: (.int .i64 N : Value) :: (.bool true : Value) :: (.bool false : Value) :: (undef : Value) :: (undef : Value) :: (undef : Value) :: (undef : Value) :: (undef : Value) :: (undef : Value) :: (.int .i64 0 : Value) :: (.bool false : Value) :: (.bool false : Value) :: (.pointer (some ⟨w1.heap.size, 0, none⟩) : Value) :: (.bool false : Value) :: (.bool false : Value) :: (.int .i64 N : Value) :: (.slice (some ⟨w2.heap.size, 0, none⟩) N N : Value) :: (.slice p ops.length cp : Value) :: (.int .i64 ops.length : Value) :: (u42 : Value) :: (u43 : Value) :: (u44 : Value) :: (u45 : Value) :: (u46 : Value) :: (u47 : Value) :: (u48 : Value) :: (u49 : Value) :: (u50 : Value) :: (u51 : Value) :: (u52 : Value) :: (u53 : Value) :: (u54 : Value) :: (u55 : Value) :: (u56 : Value) :: (u57 : Value) :: (u58 : Value) :: (u59 : Value) :: (u60 : Value) :: (u61 : Value) :: (u62 : Value) :: (u63 : Value) :: (u64 : Value) :: (u65 : Value) :: (u66 : Value) :: (u67 : Value) :: (u68 : Value) :: (u69 : Value) :: (u70 : Value) :: (u71 : Value) :: (u72 : Value) :: (u73 : Value) :: (u74 : Value) :: (u75 : Value) :: (u76 : Value) :: (u77 : Value) :: (u78 : Value) :: (u79 : Value) :: (u80 : Value) :: (u81 : Value) :: (.slice (some ⟨ga, 0, none⟩) l8.length cap8 : Value) :: (.int .i64 l8.length : Value) :: (.int .i64 ix : Value) :: (.bool true : Value) :: (.int .i64 ix : Value) :: (tm.getD 87 undef : Value) :: (tm.getD 88 undef : Value) :: (tm.getD 89 undef : Value) :: (tm.getD 90 undef : Value) :: (tm.getD 91 undef : Value) :: (tm.getD 92 undef : Value) :: (tm.getD 93 undef : Value) :: (tm.getD 94 undef : Value) :: (tm.getD 95 undef : Value) :: (tm.getD 96 undef : Value) :: (u97 : Value) :: (undef : Value) :: (undef : Value) :: (undef : Value) :: []) hs (by show (tm.getD 0 undef :: tm.getD 1 undef :: tm.getD 2 undef :: tm.getD 3 undef :: tm.getD 4 undef :: tm.getD 5 undef :: tm.getD 6 undef :: tm.getD 7 undef :: tm.getD 8 undef :: tm.getD 9 undef :: tm.getD 10 undef :: tm.getD 11 undef :: tm.getD 12 undef :: tm.getD 13 undef :: tm.getD 14 undef :: tm.getD 15 undef :: tm.getD 16 undef :: tm.getD 17 undef :: tm.getD 18 undef :: tm.getD 19 undef :: tm.getD 20 undef :: tm.getD 21 undef :: tm.getD 22 undef :: tm.getD 23 undef :: tm.getD 24 undef :: tm.getD 25 undef :: tm.getD 26 undef :: tm.getD 27 undef :: tm.getD 28 undef :: tm.getD 29 undef :: tm.getD 30 undef :: tm.getD 31 undef :: tm.getD 32 undef :: tm.getD 33 undef :: tm.getD 34 undef :: tm.getD 35 undef :: tm.getD 36 undef :: tm.getD 37 undef :: tm.getD 38 undef :: tm.getD 39 undef :: tm.getD 40 undef :: tm.getD 41 undef :: tm.getD 42 undef :: tm.getD 43 undef :: tm.getD 44 undef :: tm.getD 45 undef :: tm.getD 46 undef :: tm.getD 47 undef :: tm.getD 48 undef :: tm.getD 49 undef :: tm.getD 50 undef :: tm.getD 51 undef :: tm.getD 52 undef :: tm.getD 53 undef :: tm.getD 54 undef :: tm.getD 55 undef :: tm.getD 56 undef :: tm.getD 57 undef :: tm.getD 58 undef :: tm.getD 59 undef :: tm.getD 60 undef :: tm.getD 61 undef :: tm.getD 62 undef :: tm.getD 63 undef :: tm.getD 64 undef :: tm.getD 65 undef :: tm.getD 66 undef :: tm.getD 67 undef :: tm.getD 68 undef :: tm.getD 69 undef :: tm.getD 70 undef :: tm.getD 71 undef :: tm.getD 72 undef :: tm.getD 73 undef :: tm.getD 74 undef :: tm.getD 75 undef :: tm.getD 76 undef :: tm.getD 77 undef :: tm.getD 78 undef :: tm.getD 79 undef :: tm.getD 80 undef :: tm.getD 81 undef :: tm.getD 82 undef :: tm.getD 83 undef :: tm.getD 84 undef :: tm.getD 85 undef :: tm.getD 86 undef :: tm.getD 87 undef :: tm.getD 88 undef :: tm.getD 89 undef :: tm.getD 90 undef :: tm.getD 91 undef :: tm.getD 92 undef :: tm.getD 93 undef :: tm.getD 94 undef :: tm.getD 95 undef :: tm.getD 96 undef :: tm.getD 97 undef :: tm.getD 98 undef :: tm.getD 99 undef :: tm.getD 100 undef :: []) = _; rw [e0, e1, e2, e3, e4, e5, e6, e7, e8, e9, e10, e11, e12, e13, e14, e15, e16, e17, e18, e19, e20, e21, e22, e23, e24, e25, e26, e27, e28, e29, e30, e31, e32, e33, e34, e35, e36, e37, e38, e39, e40, e41, e42, e43, e44, e45, e46, e47, e48, e49, e50, e51, e52, e53, e54, e55, e56, e57, e58, e59, e60, e61, e62, e63, e64, e65, e66, e67, e68, e69, e70, e71, e72, e73, e74, e75, e76, e77, e78, e79, e80, e81, e82, e83, e84, e85, e86, e97, e98, e99, e100]; try rfl)
            clear hs hk hG e0 e1 e2 e3 e4 e5 e6 e7 e8 e9 e10 e11 e12 e13 e14 e15 e16 e17 e18 e19 e20 e21 e22 e23 e24 e25 e26 e27 e28 e29 e30 e31 e32 e33 e34 e35 e36 e37 e38 e39 e40 e41 e42 e43 e44 e45 e46 e47 e48 e49 e50 e51 e52 e53 e54 e55 e56 e57 e58 e59 e60 e61 e62 e63 e64 e65 e66 e67 e68 e69 e70 e71 e72 e73 e74 e75 e76 e77 e78 e79 e80 e81 e82 e83 e84 e85 e86 e97 e98 e99 e100
            generalize tm.getD 87 undef = t87 at htm g87
            generalize tm.getD 88 undef = t88 at htm g88
            generalize tm.getD 89 undef = t89 at htm g89
            generalize tm.getD 90 undef = t90 at htm g90
            generalize tm.getD 91 undef = t91 at htm g91
            generalize tm.getD 92 undef = t92 at htm g92
            generalize tm.getD 93 undef = t93 at htm g93
            generalize tm.getD 94 undef = t94 at htm g94
            generalize tm.getD 95 undef = t95 at htm g95
            generalize tm.getD 96 undef = t96 at htm g96
            subst htm
            subst g87
            subst g88
            subst g89
            subst g90
            subst g91
            subst g92
            subst g93
            subst g94
            subst g95
            subst g96
            simp only [List.drop_succ_cons, List.drop_zero]
            have HB := Lib.hid hB
            clear hB
            go_wp2_with fail
            go_roundw
            case rel => exact ⟨ix + 1, by go_num, by omega, HBW.out.trans (HB.out.mono HBW.out.size)⟩
            case measure => simp [RowKit.intOf]; omega
        · obtain rfl : ix = l8.length := by omega
          have hii : ¬ (l8.length : Int) < (l8.length : Int) := by omega
          have HBW := Lib.hid hbw
          have HWh := Lib.hid (whole_any b0 Bb _ d wr (HST.out.both.kp (.below hbw)))
          clear hbw
          go_wp2_with (go_at_call 10; refine HWh.out.mono ?_; rintro e w4 ⟨rfl, hb4⟩)
          go_ret
          exact ⟨rfl, HST.out.bel.trans ((HBW.out.trans (hb4.mono HBW.out.size)).mono HST.out.bel.size)⟩
end Go.Proofs.Ytpedinpjdepjdaa
