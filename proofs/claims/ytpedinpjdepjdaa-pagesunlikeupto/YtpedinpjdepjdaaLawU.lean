/- The pages in which two rows of bytes are unlike are just those that are told. -/
import Derived.Test.YtpedinpjdepjdaaPlayP
import Derived.Test.YtpedinpjdepjdaaUnlF
namespace Go.Proofs.Ytpedinpjdepjdaa
open Go.RowKit Go.Lib
theorem u64_wrap (n : Int) : IntKind.u64.wrap n = n % 18446744073709551616 := by
  simp [IntKind.wrap, IntKind.bits, IntKind.signed]
/-- The number of bytes that the law takes. -/
theorem mod_num (n : Int) (k : Nat) (h0 : 0 < k) (hk : k ≤ 4097) : ∃ m : Nat, m < k ∧ wrap64 ((IntKind.u64.wrap n).tmod k) = m := by
  have h1 : 0 ≤ IntKind.u64.wrap n := by rw [u64_wrap]; omega
  refine ⟨((IntKind.u64.wrap n).tmod k).toNat, ?_, ?_⟩
  · rw [Int.tmod_eq_emod_of_nonneg h1]; have := Int.emod_lt_of_pos (IntKind.u64.wrap n) (by omega : (0 : Int) < k); have := Int.emod_nonneg (IntKind.u64.wrap n) (by omega : (k : Int) ≠ 0); omega
  · rw [Int.tmod_eq_emod_of_nonneg h1]
    have := Int.emod_lt_of_pos (IntKind.u64.wrap n) (by omega : (0 : Int) < k); have := Int.emod_nonneg (IntKind.u64.wrap n) (by omega : (k : Int) ≠ 0)
    rw [wrap64_id (by omega) (by omega)]; omega
theorem bulk_one {H : Type} (d : DataW H) : 1 ≤ Rows.uptoBulk d := by
  cases d with
  | lit l => cases l <;> simp [Rows.uptoBulk]
  | nil => simp [Rows.uptoBulk]
  | ptr d => simp [Rows.uptoBulk]
  | slice elems spare => simp [Rows.uptoBulk]
  | agg parts => simp [Rows.uptoBulk]
  | iface t d => simp [Rows.uptoBulk]
  | map entries => simp [Rows.uptoBulk]
  | held h => simp [Rows.uptoBulk]
theorem bulk_len {H : Type} : ∀ l : List (DataW H), l.length ≤ Rows.uptoBulkAll l
  | [] => Nat.zero_le _
  | x :: r => by have := bulk_one x; have := bulk_len r; simp only [Rows.uptoBulkAll, List.length_cons]; omega
theorem ops3_len {H : Type} {enc : TypeId × Value → H} {W : World} {d : DataW H} {ps : List MemPlace} {p : Option Addr} {n cap : Nat} (h : DataW.Trod enc Try.prog W 0 (fun _ => true) true 22 (.slice p n cap) d ps) : n ≤ Rows.uptoBulk d := by
  obtain ⟨fuel, hf⟩ := h
  have hcs0 : (Value.slice p n cap).cells.toList = [.slice p n cap] := by simp [Value.cells]
  rw [hcs0] at hf
  rcases Deep.open_slice Try.underlying22 hf with ⟨hcs, _⟩ | ⟨a, len, cap', m, k, D, Pl, hcs, hb, hl, hm, hmm, hd, hx⟩
  · simp only [List.cons.injEq, and_true, Value.slice.injEq] at hcs
    omega
  · simp only [List.cons.injEq, and_true, Value.slice.injEq] at hcs
    have hd1 : d = _ := congrArg Prod.fst hd
    rw [hd1]
    simp only [Rows.uptoBulk]
    have := bulk_len ((List.range len).map D)
    simp at this
    omega
theorem nrow_at {X : World} {b cap : Nat} {sp : Option Addr} {L : List Nat} {ix : Nat} (h : X.ownsRow b 3 1 (.slice sp L.length cap) L.length (nvs L)) (hix : ix < L.length) : ∃ g, sp = some ⟨g, 0, none⟩ ∧ g < X.heap.size ∧ X.cell? ⟨g, ix, none⟩ = some (.int .i64 (L[ix] : Int)) := by
  rcases h.2 with ⟨_, h0⟩ | ⟨g, cap', cur, hv, _, hg, _⟩
  · omega
  · have hsp : sp = some ⟨g, 0, none⟩ := by simp only [Value.slice.injEq] at hv; exact hv.1
    subst hsp
    refine ⟨g, rfl, blk_lt hg, ?_⟩
    rw [h.cellAt ix (by omega)]
    unfold nvs
    rw [List.getElem?_map, List.getElem?_eq_getElem hix]; rfl
/-- The one at hand, alone. -/
abbrev PA (w0 wr : World) (b0 Bb : Nat) (v : Value) (d : List UInt8) : Prop := PP w0 wr b0 Bb v d [] [] (.slice none 0 0) (.slice none 0 0)
theorem PA.fresh {w0 w1 w2 w5 : World} {N : Nat} (hN : N ≤ 4096) {ls : List (Nat × Bool)} (hb1 : Below w0.heap.size w0 w1) (hA : BAt w2 w1.heap.size w1.heap.size (List.replicate N 0) ls) (hb2 : Below w1.heap.size w1 w2) (hr : w5.ownsRow w2.heap.size 5 1 (.slice (some ⟨w2.heap.size, 0, none⟩) N N) N (u8s (rszK [] N 0))) (hb : Below w2.heap.size w2 w5) : PA w0 w5 w1.heap.size w1.heap.size (.slice (some ⟨w2.heap.size, 0, none⟩) N N) (List.replicate N 0) :=
  ⟨made_both hN hA hr hb, Nat.le_trans hb2.size hb.size, hb1.size, fun i a u h1 => by simp at h1, World.ownsRow_nil _ _ _ _, World.ownsRow_nil _ _ _ _, (hb1.trans (hb2.mono hb1.size)).trans (hb.mono (Nat.le_trans hb1.size hb2.size))⟩
set_option maxRecDepth 100000 in
set_option maxHeartbeats 8000000 in
theorem PagesUnlike_any (n m : Int) (p q : Option Addr) (cp cq : Nat) (ops ops2 : List Op3) (w : World) (hp : Ops3At w p ops) (hg : ∀ x ∈ ops, x.good w ∧ sumL x.l + x.l.length ≤ 1048576) (hp2 : Ops3At w q ops2) (hg2 : ∀ x ∈ ops2, x.good w ∧ sumL x.l + x.l.length ≤ 1048576) (hol : ops.length ≤ 1048576) (hol2 : ops2.length ≤ 1048576) :
    Calls Try.prog 4 #[.int .i64 n, .int .i64 m, .slice p ops.length cp, .slice q ops2.length cq] w fun e w' => e = .returned (.bool true) ∧ Below w.heap.size w w' := by
  obtain ⟨i0, hi, hz0, hz1, hz2⟩ := info_parts' byteInfoR
  obtain ⟨N, hN, hnv⟩ := mod_num n 4097 (by omega) (by omega)
  obtain ⟨M, hM, hmv⟩ := mod_num m 4097 (by omega) (by omega)
  have hnv' : wrap64 ((IntKind.u64.wrap n).tmod 4097) = (N : Int) := hnv
  have hmv' : wrap64 ((IntKind.u64.wrap m).tmod 4097) = (M : Int) := hmv
  clear hnv hmv
  have HN := Lib.hid (fun W => New_any N W (by omega))
  have hNi : ¬ ((N : Int) < 0) := by omega
  go_enter Try.func4, Try.ntmps4
  go_upto_region 7 with (first
    | (go_at_call 5; refine (lives_any _).mono ?_; rintro e w1 ⟨rfl, hb1⟩)
    | (go_at_call 6; refine (HN.out _).mono ?_; rintro e w2 ⟨rfl, ⟨ls, hA2⟩, hb2⟩))
  obtain ⟨w5, hmk, how5, hgr5⟩ := run_make_full (P := Try.prog) w2 w2.heap.size 29 5 i0 (.int .u8 0) 1 Try.underlying29 hi hz0 hz1 .i64 .i64 N (by rw [hz2]; omega) (by unfold maxLen; omega) (Nat.le_refl _)
  rw [made_zero [] N] at how5
  have hb5 : Below w2.heap.size w2 w5 := ⟨hgr5.os, hgr5.tape, hgr5.output, hgr5.size, fun k hk => hgr5.block k hk (by simp)⟩
  have hpa0 := PA.fresh (by omega) hb1 hA2 hb2 how5 hb5
  obtain ⟨Ba, hBa⟩ : ∃ Ba, w1.heap.size = Ba := ⟨_, rfl⟩
  rw [hBa] at hpa0
  rw [hBa]
  clear hA2 how5 hgr5 hb5 hb1 hb2 hnv' hmv' hBa
  go_wp2_with fail
  go_loopw [11, 47] (fun v11 y wr => ∃ (k : Nat) (d : List UInt8), y = .int .i64 k ∧ k ≤ ops.length ∧ PA w wr Ba Ba v11 d) (fun _ y _ => (ops.length - (RowKit.intOf y).toNat))
  case atStart => exact ⟨0, _, rfl, Nat.zero_le _, hpa0⟩
  case round =>
    clear hpa0 hmk
    rename World => wr
    obtain ⟨k, d, hy47, hk, hst⟩ := hrel
    subst hy47
    obtain ⟨sp7, cap7, hv7⟩ := row_formk hst.both.row
    subst hv7
    by_cases hlt : k < ops.length
    · have hki : (k : Int) < (ops.length : Int) := by omega
      obtain ⟨gp, op, hpe, hgp, c0, c1, c2, c3, c4⟩ := hp.at_ hst.bel hlt
      subst hpe
      have hgd := hg _ (List.getElem_mem hlt)
      obtain ⟨x, hx⟩ : ∃ x, ops[k] = x := ⟨_, rfl⟩
      rw [hx] at c0 c1 c2 c3 c4 hgd
      obtain ⟨kd, at', nn, pp, pc, pl, xx⟩ := x
      obtain ⟨hgo, hbk⟩ := hgd
      have hga := hgo.a
      have hgx := hgo.x
      have hgc := hgo.cs
      have hgn := hgo.nil
      have hgl := hgo.lt
      simp only at c0 c1 c2 c3 c4 hga hgx hgc hgn hgl hbk
      clear hx hgo
      obtain ⟨W1, hW1⟩ : ∃ W1, wr.alloc (.cells #[.int .i64 kd, .int .i64 at', .int .i64 nn, .slice pp pl.length pc, .int .u64 (xx : Int)] 35) = W1 := ⟨_, rfl⟩
      have hb1 : Below wr.heap.size wr W1 := by rw [← hW1]; exact (Below.refl _ _).alloc (Nat.le_refl _) _
      have hO1 : W1.heap[wr.heap.size]? = some (.cells #[.int .i64 kd, .int .i64 at', .int .i64 nn, .slice pp pl.length pc, .int .u64 (xx : Int)] 35 (0, 0)) := by rw [← hW1]; exact heap_new _ _
      have hs1 := hst.below hb1
      have d0 : W1.cell? ⟨wr.heap.size, 0, none⟩ = some (.int .i64 kd) := by simp [World.cell?, hO1]
      have d1 : W1.cell? ⟨wr.heap.size, 1, none⟩ = some (.int .i64 at') := by simp [World.cell?, hO1]
      have d2 : W1.cell? ⟨wr.heap.size, 2, none⟩ = some (.int .i64 nn) := by simp [World.cell?, hO1]
      have d3 : W1.cell? ⟨wr.heap.size, 3, none⟩ = some (.slice pp pl.length pc) := by simp [World.cell?, hO1]
      have d4 : W1.cell? ⟨wr.heap.size, 4, none⟩ = some (.int .u64 (xx : Int)) := by simp [World.cell?, hO1]
      have HS1 := Lib.hid hs1
      have hgc1 : CsAt W1 pp pl := hgc.below (by exact hs1.bel)
      have hgl1 : pl ≠ [] → ∀ ad, pp = some ad → ad.block < Ba := fun h ad e => Nat.lt_of_lt_of_le (hgl h ad e) hs1.lo
      clear hst hs1 hb1 hO1 hgc hgl
      by_cases h40 : k < 40
      · have h40i : (k : Int) < 40 := by omega
        by_cases hk6 : kd = 6
        · have kb6 : (kd == 6) = true := by simp; omega
          clear hk6
          go_wp2_with fail
          go_roundw
          case rel => exact ⟨k + 1, d, by go_num, by omega, HS1.out⟩
          case measure => simp [RowKit.intOf]; omega
        · have kb6 : (kd == 6) = false := by simpa using hk6
          clear hk6
          have HSt := Lib.hid (step_any Ba Ba (.slice sp7 d.length cap7) d kd at' nn xx pp pc pl W1 HS1.out.both HS1.out.bb hgc1 hgl1 hgn (by omega) (by omega) hga hgx)
          go_wp2_with (go_at_call 9; refine HSt.out.mono ?_; rintro e w3 ⟨v3, d3', rfl, hB3, hb3, hf3⟩)
          go_roundw
          case rel => exact ⟨k + 1, d3', by go_num, by omega, HS1.out.step hB3 hb3 hf3⟩
          case measure => simp [RowKit.intOf]; omega
      · have h40i : ¬ (k : Int) < 40 := by omega
        go_wp2_with fail
        go_roundw
        case rel => exact ⟨k + 1, d, by go_num, by omega, HS1.out⟩
        case measure => simp [RowKit.intOf]; omega
    · obtain rfl : k = ops.length := by omega
      have hkk : ¬ (ops.length : Int) < (ops.length : Int) := by omega
      obtain ⟨ls, hA⟩ := hst.both.obj
      have HCp := Lib.hid (Copy_z Ba Ba d ls wr hA)
      have HSt := Lib.hid hst
      clear hst hA hp hg
      go_wp2_with (go_at_call 8; refine HCp.out.mono ?_; rintro e w3 ⟨C, u1, rfl, q1, q2, q3, q4, q5, q6⟩; refine Hid.out ?_)
      refine Lib.hid ?_
      obtain ⟨hq3, hold3⟩ := HSt.out.copy q1 q2 q3 q4 q5 q6
      have HQ3 := Lib.hid hq3
      have HO3 := Lib.hid hold3
      clear hq3 hold3 q1 q2 q3 q4 q5 q6 HSt HCp
      have hdl := HQ3.out.both.len
      have hO0 : (w3.alloc (.cells #[] 5)).ownsRow w3.heap.size 5 1 (.slice (some ⟨w3.heap.size, 0, none⟩) 0 0) ([] : List UInt8).length (u8s []) := World.ownsRow_lit (base := w3.heap.size) (e := 5) (size := 1) w3 #[] 0 (Nat.le_refl _) (by decide) rfl
      have hbA : RowKit.Below w3.heap.size w3 (w3.alloc (.cells #[] 5)) := (Below.refl _ _).alloc (Nat.le_refl _) _
      have hzA : w3.heap.size ≤ (w3.alloc (.cells #[] 5)).heap.size := by simp
      have hOA := row_below HQ3.out.both.row hbA
      go_wp2_with (at_builtin; refine app_by rfl _ _ rfl w3.heap.size 0 (.slice (some ⟨w3.heap.size, 0, none⟩) 0 0) (.slice sp7 d.length cap7) [] d rfl hO0 hzA (by simp; omega) rfl hOA ?_; intro v4 w4 hown4 hb4; refine Hid.out ?_)
      refine Lib.hid ?_
      rw [List.nil_append] at hown4
      have hb34 : RowKit.Below w3.heap.size w3 w4 := hbA.trans hb4
      have hq4 : PA w w4 wr.heap.size C v4 d := by
        have h := HQ3.out.below hb34
        exact ⟨⟨h.both.obj, row_mono hown4 (Nat.zero_le _), h.both.len⟩, h.bb, h.lo, h.olds, h.r8, h.r9, h.bel⟩
      have hold4 := HO3.out.kp (.below hb34)
      obtain ⟨b2, hb2⟩ : ∃ b2, wr.heap.size = b2 := ⟨_, rfl⟩
      rw [hb2] at hq4 hold4
      obtain ⟨sp4, cap4, hv4⟩ := row_formk hq4.both.row
      subst hv4
      have HQ4 := Lib.hid hq4
      have HO4 := Lib.hid hold4
      clear hq4 hold4 hown4 hb34 hb4 hO0 hbA hzA hOA HQ3 HO3
      clear hb2
      go_upto_if 77 with fail
      go_cut [16, 17] from 77 to 84 (fun v16 v17 wx => ∃ (b3 Cb : Nat) (dw : List UInt8), v16 = .pointer (some ⟨Cb, 0, none⟩) ∧ PA w wx b3 Cb v17 dw ∧ Old b3 wx Ba (.slice sp7 d.length cap7))
      case first =>
        by_cases hm3 : (((M : Int) % 3) == 0) = true
        · have HNM := Lib.hid (fun W => New_any M W (by omega))
          have hMi : ¬ ((M : Int) < 0) := by omega
          go_upto_region 21 with (go_at_call 6; refine (HNM.out _).mono ?_; rintro e w6 ⟨rfl, ⟨ls6, hA6⟩, hb6⟩)
          obtain ⟨w8, hmk8, how8, hgr8⟩ := run_make_full (P := Try.prog) w6 w6.heap.size 29 5 i0 (.int .u8 0) 1 Try.underlying29 hi hz0 hz1 .i64 .i64 M (by rw [hz2]; omega) (by unfold maxLen; omega) (Nat.le_refl _)
          rw [made_zero [] M] at how8
          have hb8 : RowKit.Below w6.heap.size w6 w8 := ⟨hgr8.os, hgr8.tape, hgr8.output, hgr8.size, fun k hk => hgr8.block k hk (by simp)⟩
          have hpa8 := PA.fresh (by omega) HQ4.out.bel hA6 hb6 how8 hb8
          have hb48 : RowKit.Below w4.heap.size w4 w8 := hb6.trans (hb8.mono hb6.size)
          have hold8 := HO4.out.upto (hb48.mono HQ4.out.bb) HQ4.out.bb
          have HP8 := Lib.hid hpa8
          have HO8 := Lib.hid hold8
          clear how8 hgr8 hA6 hb6 hb8 hpa8 hb48 hold8
          go_wp2_with fail
          go_meet
          exact ⟨_, _, _, rfl, HP8.out, HO8.out⟩
        · have hm3' : (((M : Int) % 3) == 0) = false := by simpa using hm3
          clear hm3
          go_wp2_with fail
          go_meet
          exact ⟨_, _, _, rfl, HQ4.out, HO4.out⟩
      case rest =>
        clear HQ4 HO4
        rename World => wC
        obtain ⟨b3, Cb, dw, hv16, hq0, hold0⟩ := hcut
        subst hv16
        go_wp2_with fail
        go_loopw [17, 87] (fun v17 y wr => ∃ (k : Nat) (d2 : List UInt8), y = .int .i64 k ∧ k ≤ ops2.length ∧ PA w wr b3 Cb v17 d2 ∧ Old b3 wr Ba (.slice sp7 d.length cap7)) (fun _ y _ => (ops2.length - (RowKit.intOf y).toNat))
        case atStart => exact ⟨0, dw, rfl, Nat.zero_le _, hq0, hold0⟩
        case round =>
          clear hq0 hold0
          rename World => wr
          obtain ⟨k, d2, hy87, hk, hst, hod⟩ := hrel
          subst hy87
          obtain ⟨sp8, cap8, hv8⟩ := row_formk hst.both.row
          subst hv8
          have HOd := Lib.hid hod
          clear hod
          by_cases hlt : k < ops2.length
          · have hki : (k : Int) < (ops2.length : Int) := by omega
            obtain ⟨gp, op, hpe, hgp, c0, c1, c2, c3, c4⟩ := hp2.at_ hst.bel hlt
            subst hpe
            have hgd := hg2 _ (List.getElem_mem hlt)
            obtain ⟨x, hx⟩ : ∃ x, ops2[k] = x := ⟨_, rfl⟩
            rw [hx] at c0 c1 c2 c3 c4 hgd
            obtain ⟨kd, at', nn, pp, pc, pl, xx⟩ := x
            obtain ⟨hgo, hbk⟩ := hgd
            have hga := hgo.a
            have hgx := hgo.x
            have hgc := hgo.cs
            have hgn := hgo.nil
            have hgl := hgo.lt
            simp only at c0 c1 c2 c3 c4 hga hgx hgc hgn hgl hbk
            clear hx hgo
            obtain ⟨W1, hW1⟩ : ∃ W1, wr.alloc (.cells #[.int .i64 kd, .int .i64 at', .int .i64 nn, .slice pp pl.length pc, .int .u64 (xx : Int)] 35) = W1 := ⟨_, rfl⟩
            have hb1 : Below wr.heap.size wr W1 := by rw [← hW1]; exact (Below.refl _ _).alloc (Nat.le_refl _) _
            have hO1 : W1.heap[wr.heap.size]? = some (.cells #[.int .i64 kd, .int .i64 at', .int .i64 nn, .slice pp pl.length pc, .int .u64 (xx : Int)] 35 (0, 0)) := by rw [← hW1]; exact heap_new _ _
            have hs1 := hst.below hb1
            have e0 : W1.cell? ⟨wr.heap.size, 0, none⟩ = some (.int .i64 kd) := by simp [World.cell?, hO1]
            have e1 : W1.cell? ⟨wr.heap.size, 1, none⟩ = some (.int .i64 at') := by simp [World.cell?, hO1]
            have e2 : W1.cell? ⟨wr.heap.size, 2, none⟩ = some (.int .i64 nn) := by simp [World.cell?, hO1]
            have e3 : W1.cell? ⟨wr.heap.size, 3, none⟩ = some (.slice pp pl.length pc) := by simp [World.cell?, hO1]
            have e4 : W1.cell? ⟨wr.heap.size, 4, none⟩ = some (.int .u64 (xx : Int)) := by simp [World.cell?, hO1]
            have HS1 := Lib.hid hs1
            have HB1 := Lib.hid hb1
            have hgc1 : CsAt W1 pp pl := hgc.below (by exact hs1.bel)
            have hgl1 : pl ≠ [] → ∀ ad, pp = some ad → ad.block < b3 := fun h ad e => Nat.lt_of_lt_of_le (hgl h ad e) hs1.lo
            clear hst hs1 hb1 hO1 hgc hgl
            by_cases h40 : k < 40
            · have h40i : (k : Int) < 40 := by omega
              by_cases hk6 : kd = 6
              · have kb6 : (kd == 6) = true := by simp; omega
                clear hk6
                go_wp2_with fail
                go_roundw
                case rel => exact ⟨k + 1, d2, by go_num, by omega, HS1.out, HOd.out.kp (.below HB1.out)⟩
                case measure => simp [RowKit.intOf]; omega
              · have kb6 : (kd == 6) = false := by simpa using hk6
                clear hk6
                have HSt := Lib.hid (step_any b3 Cb (.slice sp8 d2.length cap8) d2 kd at' nn xx pp pc pl W1 HS1.out.both HS1.out.bb hgc1 hgl1 hgn (by omega) (by omega) hga hgx)
                go_wp2_with (go_at_call 9; refine HSt.out.mono ?_; rintro e w3 ⟨v3, d3', rfl, hB3, hb3, hf3⟩)
                go_roundw
                case rel => exact ⟨k + 1, d3', by go_num, by omega, HS1.out.step hB3 hb3 hf3, (HOd.out.kp (.below HB1.out)).upto hb3 (Nat.le_refl _)⟩
                case measure => simp [RowKit.intOf]; omega
            · have h40i : ¬ (k : Int) < 40 := by omega
              go_wp2_with fail
              go_roundw
              case rel => exact ⟨k + 1, d2, by go_num, by omega, HS1.out, HOd.out.kp (.below HB1.out)⟩
              case measure => simp [RowKit.intOf]; omega
          · obtain rfl : k = ops2.length := by omega
            have hkk : ¬ (ops2.length : Int) < (ops2.length : Int) := by omega
            obtain ⟨wc0, bi, da, hwc, hkp, hbo⟩ := HOd.out
            have hBa := hbo.kp hkp
            have hBc := hst.both
            have HST := Lib.hid hst
            clear hst hbo hkp hwc HOd
            obtain ⟨lsa, hAa⟩ := hBa.obj
            obtain ⟨lsc, hAc⟩ := hBc.obj
            have hX := Unlike_any bi Ba b3 Cb da d2 lsa lsc wr hAa hAc _ rfl
            rw [unls_eq da d2 _ hBa.len hBc.len rfl] at hX
            obtain ⟨L, hL⟩ : ∃ L, unPs da d2 64 = L := ⟨_, rfl⟩
            rw [hL] at hX
            have hLl : L.length ≤ 64 := by
              rw [← hL]; unfold unPs
              exact Nat.le_trans (List.length_filter_le _ _) (by simp)
            have HX := Lib.hid hX
            have HBa := Lib.hid hBa
            have HBc := Lib.hid hBc
            have HLq := Lib.hid hL
            clear hX hL hBa hBc hAa hAc lsa lsc
            go_wp2_with (go_at_call 11; refine HX.out.mono ?_; rintro e w6 ⟨vx, rfl, hrx, hbx⟩; refine Hid.out ?_)
            refine Lib.hid ?_
            obtain ⟨lsa, hAa⟩ := (HBa.out.kp (.below hbx)).obj
            obtain ⟨lsc, hAc⟩ := (HBc.out.kp (.below hbx)).obj
            have hY := Unlike_any b3 Cb bi Ba d2 da lsc lsa w6 hAc hAa _ rfl
            rw [unls_eq d2 da _ HBc.out.len HBa.out.len rfl, unPs_symm, HLq.out] at hY
            obtain ⟨spx, cpx, hvx⟩ := row_formk hrx
            subst hvx
            have HY := Lib.hid hY
            have HRX := Lib.hid hrx
            have HB6 := Lib.hid hbx
            clear hY hrx hbx hAa hAc lsa lsc HX
            go_wp2_with (go_at_call 11; refine HY.out.mono ?_; rintro e w7 ⟨vy, rfl, hry, hby⟩; refine Hid.out ?_)
            refine Lib.hid ?_
            have hb7 : RowKit.Below wr.heap.size wr w7 := HB6.out.trans (hby.mono HB6.out.size)
            have hW := refUnlike_any 0 0 (.slice sp7 d.length cap7) (.slice sp8 d2.length cap8) da d2 w7 (HBa.out.kp (.below hb7)).row (HBc.out.kp (.below hb7)).row
            rw [HLq.out] at hW
            obtain ⟨spy, cpy, hvy⟩ := row_formk hry
            subst hvy
            have HW := Lib.hid hW
            have HRX7 := Lib.hid (row_below HRX.out hby)
            have HRY := Lib.hid hry
            have HB7 := Lib.hid hb7
            clear hW hry hby hb7 HY HRX HB6
            go_wp2_with (go_at_call 12; refine HW.out.mono ?_; rintro e w8 ⟨vw, rfl, hrw, hbw8⟩; refine Hid.out ?_)
            refine Lib.hid ?_
            obtain ⟨spw, cpw, hvw⟩ := row_formk hrw
            subst hvw
            have hb8 : RowKit.Below wr.heap.size wr w8 := HB7.out.trans (hbw8.mono HB7.out.size)
            have HRX8 := Lib.hid (row_below HRX7.out hbw8)
            have HRY8 := Lib.hid (row_below HRY.out hbw8)
            have HRW8 := Lib.hid hrw
            have HB8 := Lib.hid hb8
            clear hrw hbw8 hb8 HW HRX7 HRY HB7
            have hll : (L.length == L.length) = true := by simp
            go_wp2_with fail
            go_loopw [133] (fun y wv => ∃ ix : Nat, y = .int .i64 ix ∧ ix ≤ L.length ∧ RowKit.Below w8.heap.size w8 wv) (fun y _ => (L.length - (RowKit.intOf y).toNat))
            case atStart => exact ⟨0, rfl, Nat.zero_le _, Below.refl _ _⟩
            case round =>
              rename World => wv
              obtain ⟨ix, hiy, hi1, hbv⟩ := hrel
              subst hiy
              by_cases hil : ix < L.length
              · have hii : (ix : Int) < (L.length : Int) := by omega
                obtain ⟨gx, hgx, hgxl, kx⟩ := nrow_at HRX8.out hil
                obtain ⟨gy, hgy, hgyl, ky⟩ := nrow_at HRY8.out hil
                obtain ⟨gw, hgw, hgwl, kw⟩ := nrow_at HRW8.out hil
                subst hgx hgy hgw
                obtain ⟨z, hz⟩ : ∃ z, L[ix] = z := ⟨_, rfl⟩
                rw [hz] at kx ky kw
                have cW : ∀ X, RowKit.Below wv.heap.size wv X → X.cell? ⟨gx, ix, none⟩ = some (.int .i64 (z : Int)) ∧ X.cell? ⟨gy, ix, none⟩ = some (.int .i64 (z : Int)) ∧ X.cell? ⟨gw, ix, none⟩ = some (.int .i64 (z : Int)) := fun X hX => by
                  have hcX := hbv.trans (hX.mono hbv.size)
                  exact ⟨(hcX.cell (p := ⟨gx, ix, none⟩) hgxl).trans kx, (hcX.cell (p := ⟨gy, ix, none⟩) hgyl).trans ky, (hcX.cell (p := ⟨gw, ix, none⟩) hgwl).trans kw⟩
                have HBV := Lib.hid hbv
                clear hbv kx ky kw hz
                go_upto_region 38 with fail
                refine wp_region_monoT 6 20 (fun kq uq Xq => match kq with | 136 => uq = .slice (some ⟨gx, 0, none⟩) L.length cpx | 137 => uq = .int .i64 (ix : Int) | 138 => uq = .pointer (some ⟨gx, ix, none⟩) | 139 => uq = .int .i64 (z : Int) | 140 => uq = .slice (some ⟨gw, 0, none⟩) L.length cpw | 141 => uq = .int .i64 (ix : Int) | 142 => uq = .pointer (some ⟨gw, ix, none⟩) | 143 => uq = .int .i64 (z : Int) | 144 => uq = .bool false | 145 => uq = .bool false | 146 => uq = .slice (some ⟨gy, 0, none⟩) L.length cpy | 147 => uq = .int .i64 (ix : Int) | 148 => uq = .pointer (some ⟨gy, ix, none⟩) | 149 => uq = .int .i64 (z : Int) | 150 => uq = .slice (some ⟨gw, 0, none⟩) L.length cpw | 151 => uq = .int .i64 (ix : Int) | 152 => uq = .pointer (some ⟨gw, ix, none⟩) | 153 => uq = .int .i64 (z : Int) | 154 => uq = .bool false | 155 => uq = .bool false | _ => True) (by kernel_rfl) (by kernel_rfl) (by kernel_rfl) (by kernel_rfl) (by simp) (by kernel_rfl) ?_ ?_ ?_
                · intro kq v W W' h hb
                  revert h
                  try dsimp only
                  split
                  · intro h; exact h
                  · intro h; exact h
                  · intro h; exact h
                  · intro h; exact h
                  · intro h; exact h
                  · intro h; exact h
                  · intro h; exact h
                  · intro h; exact h
                  · intro h; exact h
                  · intro h; exact h
                  · intro h; exact h
                  · intro h; exact h
                  · intro h; exact h
                  · intro h; exact h
                  · intro h; exact h
                  · intro h; exact h
                  · intro h; exact h
                  · intro h; exact h
                  · intro h; exact h
                  · intro h; exact h
                  · intro h; trivial
                · intro a' X hB hs hk i o d ho hd hG
                  match i, ho with
                  | 0, ho =>
                    obtain rfl : _ = o := Option.some.inj ho
                    obtain rfl : 136 = d := Option.some.inj hd
                    have g22 : a'.eval (.tmp 22) = .slice (some ⟨gx, 0, none⟩) L.length cpx := hk 22 (by kernel_rfl)
                    obtain ⟨ev, hev⟩ : ∃ ev, a'.eval = ev := ⟨_, rfl⟩
                    rw [hev] at g22 ⊢
                    clear hev hG hk
                    obtain ⟨q0, q1, q2⟩ := cW X hB
                    exact .inr ⟨rfl, .inl ⟨.slice (some ⟨gx, 0, none⟩) L.length cpx, X, by clear hs; go_simp, Below.refl _ _, rfl⟩⟩
                  | 1, ho =>
                    obtain rfl : _ = o := Option.some.inj ho
                    obtain rfl : 137 = d := Option.some.inj hd
                    have g25 : a'.eval (.tmp 25) = .int .i64 ix := hk 25 (by kernel_rfl)
                    obtain ⟨ev, hev⟩ : ∃ ev, a'.eval = ev := ⟨_, rfl⟩
                    rw [hev] at g25 ⊢
                    clear hev hG hk
                    obtain ⟨q0, q1, q2⟩ := cW X hB
                    exact .inr ⟨rfl, .inl ⟨.int .i64 (ix : Int), X, by clear hs; go_simp, Below.refl _ _, rfl⟩⟩
                  | 2, ho =>
                    obtain rfl : _ = o := Option.some.inj ho
                    obtain rfl : 138 = d := Option.some.inj hd
                    have g136 : a'.eval (.tmp 136) = .slice (some ⟨gx, 0, none⟩) L.length cpx := hG ⟨0, .data⟩ (by simp) rfl 136 rfl
                    have g137 : a'.eval (.tmp 137) = .int .i64 (ix : Int) := hG ⟨1, .data⟩ (by simp) rfl 137 rfl
                    obtain ⟨ev, hev⟩ : ∃ ev, a'.eval = ev := ⟨_, rfl⟩
                    rw [hev] at g136 g137 ⊢
                    clear hev hG hk
                    obtain ⟨q0, q1, q2⟩ := cW X hB
                    exact .inr ⟨rfl, .inl ⟨.pointer (some ⟨gx, ix, none⟩), X, by clear hs; go_simp, Below.refl _ _, rfl⟩⟩
                  | 3, ho =>
                    obtain rfl : _ = o := Option.some.inj ho
                    obtain rfl : 139 = d := Option.some.inj hd
                    have g138 : a'.eval (.tmp 138) = .pointer (some ⟨gx, ix, none⟩) := hG ⟨2, .data⟩ (by simp) rfl 138 rfl
                    obtain ⟨ev, hev⟩ : ∃ ev, a'.eval = ev := ⟨_, rfl⟩
                    rw [hev] at g138 ⊢
                    clear hev hG hk
                    obtain ⟨q0, q1, q2⟩ := cW X hB
                    exact .inr ⟨rfl, .inl ⟨.int .i64 (z : Int), X, by clear hs; go_simp, Below.refl _ _, rfl⟩⟩
                  | 4, ho =>
                    obtain rfl : _ = o := Option.some.inj ho
                    obtain rfl : 140 = d := Option.some.inj hd
                    have g24 : a'.eval (.tmp 24) = .slice (some ⟨gw, 0, none⟩) L.length cpw := hk 24 (by kernel_rfl)
                    obtain ⟨ev, hev⟩ : ∃ ev, a'.eval = ev := ⟨_, rfl⟩
                    rw [hev] at g24 ⊢
                    clear hev hG hk
                    obtain ⟨q0, q1, q2⟩ := cW X hB
                    exact .inr ⟨rfl, .inl ⟨.slice (some ⟨gw, 0, none⟩) L.length cpw, X, by clear hs; go_simp, Below.refl _ _, rfl⟩⟩
                  | 5, ho =>
                    obtain rfl : _ = o := Option.some.inj ho
                    obtain rfl : 141 = d := Option.some.inj hd
                    have g25 : a'.eval (.tmp 25) = .int .i64 ix := hk 25 (by kernel_rfl)
                    obtain ⟨ev, hev⟩ : ∃ ev, a'.eval = ev := ⟨_, rfl⟩
                    rw [hev] at g25 ⊢
                    clear hev hG hk
                    obtain ⟨q0, q1, q2⟩ := cW X hB
                    exact .inr ⟨rfl, .inl ⟨.int .i64 (ix : Int), X, by clear hs; go_simp, Below.refl _ _, rfl⟩⟩
                  | 6, ho =>
                    obtain rfl : _ = o := Option.some.inj ho
                    obtain rfl : 142 = d := Option.some.inj hd
                    have g140 : a'.eval (.tmp 140) = .slice (some ⟨gw, 0, none⟩) L.length cpw := hG ⟨4, .data⟩ (by simp) rfl 140 rfl
                    have g141 : a'.eval (.tmp 141) = .int .i64 (ix : Int) := hG ⟨5, .data⟩ (by simp) rfl 141 rfl
                    obtain ⟨ev, hev⟩ : ∃ ev, a'.eval = ev := ⟨_, rfl⟩
                    rw [hev] at g140 g141 ⊢
                    clear hev hG hk
                    obtain ⟨q0, q1, q2⟩ := cW X hB
                    exact .inr ⟨rfl, .inl ⟨.pointer (some ⟨gw, ix, none⟩), X, by clear hs; go_simp, Below.refl _ _, rfl⟩⟩
                  | 7, ho =>
                    obtain rfl : _ = o := Option.some.inj ho
                    obtain rfl : 143 = d := Option.some.inj hd
                    have g142 : a'.eval (.tmp 142) = .pointer (some ⟨gw, ix, none⟩) := hG ⟨6, .data⟩ (by simp) rfl 142 rfl
                    obtain ⟨ev, hev⟩ : ∃ ev, a'.eval = ev := ⟨_, rfl⟩
                    rw [hev] at g142 ⊢
                    clear hev hG hk
                    obtain ⟨q0, q1, q2⟩ := cW X hB
                    exact .inr ⟨rfl, .inl ⟨.int .i64 (z : Int), X, by clear hs; go_simp, Below.refl _ _, rfl⟩⟩
                  | 8, ho =>
                    obtain rfl : _ = o := Option.some.inj ho
                    obtain rfl : 144 = d := Option.some.inj hd
                    have g139 : a'.eval (.tmp 139) = .int .i64 (z : Int) := hG ⟨3, .data⟩ (by simp) rfl 139 rfl
                    have g143 : a'.eval (.tmp 143) = .int .i64 (z : Int) := hG ⟨7, .data⟩ (by simp) rfl 143 rfl
                    obtain ⟨ev, hev⟩ : ∃ ev, a'.eval = ev := ⟨_, rfl⟩
                    rw [hev] at g139 g143 ⊢
                    clear hev hG hk
                    obtain ⟨q0, q1, q2⟩ := cW X hB
                    exact .inr ⟨rfl, .inl ⟨.bool false, X, by clear hs; go_simp, Below.refl _ _, rfl⟩⟩
                  | 9, ho =>
                    obtain rfl : _ = o := Option.some.inj ho
                    obtain rfl : 145 = d := Option.some.inj hd
                    have g144 : a'.eval (.tmp 144) = .bool false := hG ⟨8, .data⟩ (by simp) rfl 144 rfl
                    obtain ⟨ev, hev⟩ : ∃ ev, a'.eval = ev := ⟨_, rfl⟩
                    rw [hev] at g144 ⊢
                    clear hev hG hk
                    obtain ⟨q0, q1, q2⟩ := cW X hB
                    exact .inr ⟨rfl, .inl ⟨.bool false, X, by clear hs; go_simp, Below.refl _ _, rfl⟩⟩
                  | 10, ho =>
                    obtain rfl : _ = o := Option.some.inj ho
                    obtain rfl : 146 = d := Option.some.inj hd
                    have g23 : a'.eval (.tmp 23) = .slice (some ⟨gy, 0, none⟩) L.length cpy := hk 23 (by kernel_rfl)
                    have gg : a'.eval (.tmp 145) = .bool false := hG ⟨9, .guard⟩ (by simp) rfl 145 rfl
                    refine .inr ⟨want_yes (n := 162) (d := 145) rfl hs (by decide) rfl gg, .inl ⟨.slice (some ⟨gy, 0, none⟩) L.length cpy, X, ?_, Below.refl _ _, rfl⟩⟩
                    obtain ⟨ev, hev⟩ : ∃ ev, a'.eval = ev := ⟨_, rfl⟩
                    rw [hev] at g23 ⊢
                    clear hev hG hk hs gg
                    obtain ⟨q0, q1, q2⟩ := cW X hB
                    go_simp
                  | 11, ho =>
                    obtain rfl : _ = o := Option.some.inj ho
                    obtain rfl : 147 = d := Option.some.inj hd
                    have g25 : a'.eval (.tmp 25) = .int .i64 ix := hk 25 (by kernel_rfl)
                    have gg : a'.eval (.tmp 145) = .bool false := hG ⟨9, .guard⟩ (by simp) rfl 145 rfl
                    refine .inr ⟨want_yes (n := 162) (d := 145) rfl hs (by decide) rfl gg, .inl ⟨.int .i64 (ix : Int), X, ?_, Below.refl _ _, rfl⟩⟩
                    obtain ⟨ev, hev⟩ : ∃ ev, a'.eval = ev := ⟨_, rfl⟩
                    rw [hev] at g25 ⊢
                    clear hev hG hk hs gg
                    obtain ⟨q0, q1, q2⟩ := cW X hB
                    go_simp
                  | 12, ho =>
                    obtain rfl : _ = o := Option.some.inj ho
                    obtain rfl : 148 = d := Option.some.inj hd
                    have g146 : a'.eval (.tmp 146) = .slice (some ⟨gy, 0, none⟩) L.length cpy := hG ⟨10, .data⟩ (by simp) rfl 146 rfl
                    have g147 : a'.eval (.tmp 147) = .int .i64 (ix : Int) := hG ⟨11, .data⟩ (by simp) rfl 147 rfl
                    have gg : a'.eval (.tmp 145) = .bool false := hG ⟨9, .guard⟩ (by simp) rfl 145 rfl
                    refine .inr ⟨want_yes (n := 162) (d := 145) rfl hs (by decide) rfl gg, .inl ⟨.pointer (some ⟨gy, ix, none⟩), X, ?_, Below.refl _ _, rfl⟩⟩
                    obtain ⟨ev, hev⟩ : ∃ ev, a'.eval = ev := ⟨_, rfl⟩
                    rw [hev] at g146 g147 ⊢
                    clear hev hG hk hs gg
                    obtain ⟨q0, q1, q2⟩ := cW X hB
                    go_simp
                  | 13, ho =>
                    obtain rfl : _ = o := Option.some.inj ho
                    obtain rfl : 149 = d := Option.some.inj hd
                    have g148 : a'.eval (.tmp 148) = .pointer (some ⟨gy, ix, none⟩) := hG ⟨12, .data⟩ (by simp) rfl 148 rfl
                    have gg : a'.eval (.tmp 145) = .bool false := hG ⟨9, .guard⟩ (by simp) rfl 145 rfl
                    refine .inr ⟨want_yes (n := 162) (d := 145) rfl hs (by decide) rfl gg, .inl ⟨.int .i64 (z : Int), X, ?_, Below.refl _ _, rfl⟩⟩
                    obtain ⟨ev, hev⟩ : ∃ ev, a'.eval = ev := ⟨_, rfl⟩
                    rw [hev] at g148 ⊢
                    clear hev hG hk hs gg
                    obtain ⟨q0, q1, q2⟩ := cW X hB
                    go_simp
                  | 14, ho =>
                    obtain rfl : _ = o := Option.some.inj ho
                    obtain rfl : 150 = d := Option.some.inj hd
                    have g24 : a'.eval (.tmp 24) = .slice (some ⟨gw, 0, none⟩) L.length cpw := hk 24 (by kernel_rfl)
                    have gg : a'.eval (.tmp 145) = .bool false := hG ⟨9, .guard⟩ (by simp) rfl 145 rfl
                    refine .inr ⟨want_yes (n := 162) (d := 145) rfl hs (by decide) rfl gg, .inl ⟨.slice (some ⟨gw, 0, none⟩) L.length cpw, X, ?_, Below.refl _ _, rfl⟩⟩
                    obtain ⟨ev, hev⟩ : ∃ ev, a'.eval = ev := ⟨_, rfl⟩
                    rw [hev] at g24 ⊢
                    clear hev hG hk hs gg
                    obtain ⟨q0, q1, q2⟩ := cW X hB
                    go_simp
                  | 15, ho =>
                    obtain rfl : _ = o := Option.some.inj ho
                    obtain rfl : 151 = d := Option.some.inj hd
                    have g25 : a'.eval (.tmp 25) = .int .i64 ix := hk 25 (by kernel_rfl)
                    have gg : a'.eval (.tmp 145) = .bool false := hG ⟨9, .guard⟩ (by simp) rfl 145 rfl
                    refine .inr ⟨want_yes (n := 162) (d := 145) rfl hs (by decide) rfl gg, .inl ⟨.int .i64 (ix : Int), X, ?_, Below.refl _ _, rfl⟩⟩
                    obtain ⟨ev, hev⟩ : ∃ ev, a'.eval = ev := ⟨_, rfl⟩
                    rw [hev] at g25 ⊢
                    clear hev hG hk hs gg
                    obtain ⟨q0, q1, q2⟩ := cW X hB
                    go_simp
                  | 16, ho =>
                    obtain rfl : _ = o := Option.some.inj ho
                    obtain rfl : 152 = d := Option.some.inj hd
                    have g150 : a'.eval (.tmp 150) = .slice (some ⟨gw, 0, none⟩) L.length cpw := hG ⟨14, .data⟩ (by simp) rfl 150 rfl
                    have g151 : a'.eval (.tmp 151) = .int .i64 (ix : Int) := hG ⟨15, .data⟩ (by simp) rfl 151 rfl
                    have gg : a'.eval (.tmp 145) = .bool false := hG ⟨9, .guard⟩ (by simp) rfl 145 rfl
                    refine .inr ⟨want_yes (n := 162) (d := 145) rfl hs (by decide) rfl gg, .inl ⟨.pointer (some ⟨gw, ix, none⟩), X, ?_, Below.refl _ _, rfl⟩⟩
                    obtain ⟨ev, hev⟩ : ∃ ev, a'.eval = ev := ⟨_, rfl⟩
                    rw [hev] at g150 g151 ⊢
                    clear hev hG hk hs gg
                    obtain ⟨q0, q1, q2⟩ := cW X hB
                    go_simp
                  | 17, ho =>
                    obtain rfl : _ = o := Option.some.inj ho
                    obtain rfl : 153 = d := Option.some.inj hd
                    have g152 : a'.eval (.tmp 152) = .pointer (some ⟨gw, ix, none⟩) := hG ⟨16, .data⟩ (by simp) rfl 152 rfl
                    have gg : a'.eval (.tmp 145) = .bool false := hG ⟨9, .guard⟩ (by simp) rfl 145 rfl
                    refine .inr ⟨want_yes (n := 162) (d := 145) rfl hs (by decide) rfl gg, .inl ⟨.int .i64 (z : Int), X, ?_, Below.refl _ _, rfl⟩⟩
                    obtain ⟨ev, hev⟩ : ∃ ev, a'.eval = ev := ⟨_, rfl⟩
                    rw [hev] at g152 ⊢
                    clear hev hG hk hs gg
                    obtain ⟨q0, q1, q2⟩ := cW X hB
                    go_simp
                  | 18, ho =>
                    obtain rfl : _ = o := Option.some.inj ho
                    obtain rfl : 154 = d := Option.some.inj hd
                    have g149 : a'.eval (.tmp 149) = .int .i64 (z : Int) := hG ⟨13, .data⟩ (by simp) rfl 149 rfl
                    have g153 : a'.eval (.tmp 153) = .int .i64 (z : Int) := hG ⟨17, .data⟩ (by simp) rfl 153 rfl
                    have gg : a'.eval (.tmp 145) = .bool false := hG ⟨9, .guard⟩ (by simp) rfl 145 rfl
                    refine .inr ⟨want_yes (n := 162) (d := 145) rfl hs (by decide) rfl gg, .inl ⟨.bool false, X, ?_, Below.refl _ _, rfl⟩⟩
                    obtain ⟨ev, hev⟩ : ∃ ev, a'.eval = ev := ⟨_, rfl⟩
                    rw [hev] at g149 g153 ⊢
                    clear hev hG hk hs gg
                    obtain ⟨q0, q1, q2⟩ := cW X hB
                    go_simp
                  | 19, ho =>
                    obtain rfl : _ = o := Option.some.inj ho
                    obtain rfl : 155 = d := Option.some.inj hd
                    have g145 : a'.eval (.tmp 145) = .bool false := hG ⟨9, .data⟩ (by simp) rfl 145 rfl
                    have g154 : a'.eval (.tmp 154) = .bool false := hG ⟨18, .data⟩ (by simp) rfl 154 rfl
                    have k0 : a'.eval (.const (.bool true)) = (.bool true) := rfl
                    obtain ⟨ev, hev⟩ : ∃ ev, a'.eval = ev := ⟨_, rfl⟩
                    rw [hev] at g145 g154 k0 ⊢
                    clear hev hG hk
                    obtain ⟨q0, q1, q2⟩ := cW X hB
                    exact .inr ⟨rfl, .inl ⟨.bool false, X, by clear hs; go_simp, Below.refl _ _, rfl⟩⟩
                  | j + 20, ho => simp at ho
                · intro a' X hB hs hdf hk hG
                  obtain ⟨tm, df⟩ := a'
                  obtain rfl : df = [] := hdf
                  have e0 : tm.getD 0 undef = .int .i64 N := hk 0 (by kernel_rfl)
                  have e1 : tm.getD 1 undef = .int .i64 M := hk 1 (by kernel_rfl)
                  have e2 : tm.getD 2 undef = .slice p ops.length cp := hk 2 (by kernel_rfl)
                  have e3 : tm.getD 3 undef = .slice q ops2.length cq := hk 3 (by kernel_rfl)
                  have e4 : tm.getD 4 undef = undef := hk 4 (by kernel_rfl)
                  have e5 : tm.getD 5 undef = undef := hk 5 (by kernel_rfl)
                  have e6 : tm.getD 6 undef = undef := hk 6 (by kernel_rfl)
                  have e7 : tm.getD 7 undef = undef := hk 7 (by kernel_rfl)
                  have e8 : tm.getD 8 undef = u8 := hk 8 (by kernel_rfl)
                  have e9 : tm.getD 9 undef = .pointer (some ⟨Ba, 0, none⟩) := hk 9 (by kernel_rfl)
                  have e10 : tm.getD 10 undef = .int .i64 0 := hk 10 (by kernel_rfl)
                  have e11 : tm.getD 11 undef = .slice sp7 d.length cap7 := hk 11 (by kernel_rfl)
                  have e12 : tm.getD 12 undef = u12 := hk 12 (by kernel_rfl)
                  have e13 : tm.getD 13 undef = u13 := hk 13 (by kernel_rfl)
                  have e14 : tm.getD 14 undef = u14 := hk 14 (by kernel_rfl)
                  have e15 : tm.getD 15 undef = u15 := hk 15 (by kernel_rfl)
                  have e16 : tm.getD 16 undef = .pointer (some ⟨Cb, 0, none⟩) := hk 16 (by kernel_rfl)
                  have e17 : tm.getD 17 undef = .slice sp8 d2.length cap8 := hk 17 (by kernel_rfl)
                  have e18 : tm.getD 18 undef = u18 := hk 18 (by kernel_rfl)
                  have e19 : tm.getD 19 undef = u19 := hk 19 (by kernel_rfl)
                  have e20 : tm.getD 20 undef = u20 := hk 20 (by kernel_rfl)
                  have e21 : tm.getD 21 undef = u21 := hk 21 (by kernel_rfl)
                  have e22 : tm.getD 22 undef = .slice (some ⟨gx, 0, none⟩) L.length cpx := hk 22 (by kernel_rfl)
                  have e23 : tm.getD 23 undef = .slice (some ⟨gy, 0, none⟩) L.length cpy := hk 23 (by kernel_rfl)
                  have e24 : tm.getD 24 undef = .slice (some ⟨gw, 0, none⟩) L.length cpw := hk 24 (by kernel_rfl)
                  have e25 : tm.getD 25 undef = .int .i64 ix := hk 25 (by kernel_rfl)
                  have e26 : tm.getD 26 undef = .bool true := hk 26 (by kernel_rfl)
                  have e27 : tm.getD 27 undef = .bool false := hk 27 (by kernel_rfl)
                  have e28 : tm.getD 28 undef = .int .i64 n := hk 28 (by kernel_rfl)
                  have e29 : tm.getD 29 undef = .int .u64 (IntKind.u64.wrap n) := hk 29 (by kernel_rfl)
                  have e30 : tm.getD 30 undef = .int .u64 ((IntKind.u64.wrap n).tmod 4097) := hk 30 (by kernel_rfl)
                  have e31 : tm.getD 31 undef = .int .i64 N := hk 31 (by kernel_rfl)
                  have e32 : tm.getD 32 undef = .int .i64 m := hk 32 (by kernel_rfl)
                  have e33 : tm.getD 33 undef = .int .u64 (IntKind.u64.wrap m) := hk 33 (by kernel_rfl)
                  have e34 : tm.getD 34 undef = .int .u64 ((IntKind.u64.wrap m).tmod 4097) := hk 34 (by kernel_rfl)
                  have e35 : tm.getD 35 undef = .int .i64 M := hk 35 (by kernel_rfl)
                  have e36 : tm.getD 36 undef = .tuple #[.pointer (some ⟨Ba, 0, none⟩), .int .i64 0] := hk 36 (by kernel_rfl)
                  have e37 : tm.getD 37 undef = .int .i64 N := hk 37 (by kernel_rfl)
                  have e38 : tm.getD 38 undef = .tuple #[.pointer (some ⟨Ba, 0, none⟩), .int .i64 0] := hk 38 (by kernel_rfl)
                  have e39 : tm.getD 39 undef = .pointer (some ⟨Ba, 0, none⟩) := hk 39 (by kernel_rfl)
                  have e40 : tm.getD 40 undef = .int .i64 0 := hk 40 (by kernel_rfl)
                  have e41 : tm.getD 41 undef = .int .i64 0 := hk 41 (by kernel_rfl)
                  have e42 : tm.getD 42 undef = .bool false := hk 42 (by kernel_rfl)
                  have e43 : tm.getD 43 undef = .int .i64 N := hk 43 (by kernel_rfl)
                  have e44 : tm.getD 44 undef = .slice (some ⟨w2.heap.size, 0, none⟩) N N := hk 44 (by kernel_rfl)
                  have e45 : tm.getD 45 undef = .slice p ops.length cp := hk 45 (by kernel_rfl)
                  have e46 : tm.getD 46 undef = .int .i64 ops.length := hk 46 (by kernel_rfl)
                  have e47 : tm.getD 47 undef = .int .i64 ops.length := hk 47 (by kernel_rfl)
                  have e48 : tm.getD 48 undef = .bool false := hk 48 (by kernel_rfl)
                  have e49 : tm.getD 49 undef = u49 := hk 49 (by kernel_rfl)
                  have e50 : tm.getD 50 undef = u50 := hk 50 (by kernel_rfl)
                  have e51 : tm.getD 51 undef = u51 := hk 51 (by kernel_rfl)
                  have e52 : tm.getD 52 undef = u52 := hk 52 (by kernel_rfl)
                  have e53 : tm.getD 53 undef = u53 := hk 53 (by kernel_rfl)
                  have e54 : tm.getD 54 undef = u54 := hk 54 (by kernel_rfl)
                  have e55 : tm.getD 55 undef = u55 := hk 55 (by kernel_rfl)
                  have e56 : tm.getD 56 undef = u56 := hk 56 (by kernel_rfl)
                  have e57 : tm.getD 57 undef = u57 := hk 57 (by kernel_rfl)
                  have e58 : tm.getD 58 undef = u58 := hk 58 (by kernel_rfl)
                  have e59 : tm.getD 59 undef = u59 := hk 59 (by kernel_rfl)
                  have e60 : tm.getD 60 undef = u60 := hk 60 (by kernel_rfl)
                  have e61 : tm.getD 61 undef = u61 := hk 61 (by kernel_rfl)
                  have e62 : tm.getD 62 undef = u62 := hk 62 (by kernel_rfl)
                  have e63 : tm.getD 63 undef = u63 := hk 63 (by kernel_rfl)
                  have e64 : tm.getD 64 undef = u64 := hk 64 (by kernel_rfl)
                  have e65 : tm.getD 65 undef = u65 := hk 65 (by kernel_rfl)
                  have e66 : tm.getD 66 undef = u66 := hk 66 (by kernel_rfl)
                  have e67 : tm.getD 67 undef = u67 := hk 67 (by kernel_rfl)
                  have e68 : tm.getD 68 undef = u68 := hk 68 (by kernel_rfl)
                  have e69 : tm.getD 69 undef = u69 := hk 69 (by kernel_rfl)
                  have e70 : tm.getD 70 undef = .pointer (some ⟨Ba, 0, none⟩) := hk 70 (by kernel_rfl)
                  have e71 : tm.getD 71 undef = .pointer (some ⟨C, 0, none⟩) := hk 71 (by kernel_rfl)
                  have e72 : tm.getD 72 undef = .slice (some ⟨w3.heap.size, 0, none⟩) 0 0 := hk 72 (by kernel_rfl)
                  have e73 : tm.getD 73 undef = .slice sp7 d.length cap7 := hk 73 (by kernel_rfl)
                  have e74 : tm.getD 74 undef = .slice sp4 d.length cap4 := hk 74 (by kernel_rfl)
                  have e75 : tm.getD 75 undef = .int .i64 M := hk 75 (by kernel_rfl)
                  have e76 : tm.getD 76 undef = .int .i64 ((M : Int) % 3) := hk 76 (by kernel_rfl)
                  have e77 : tm.getD 77 undef = u77 := hk 77 (by kernel_rfl)
                  have e78 : tm.getD 78 undef = u78 := hk 78 (by kernel_rfl)
                  have e79 : tm.getD 79 undef = u79 := hk 79 (by kernel_rfl)
                  have e80 : tm.getD 80 undef = u80 := hk 80 (by kernel_rfl)
                  have e81 : tm.getD 81 undef = u81 := hk 81 (by kernel_rfl)
                  have e82 : tm.getD 82 undef = u82 := hk 82 (by kernel_rfl)
                  have e83 : tm.getD 83 undef = u83 := hk 83 (by kernel_rfl)
                  have e84 : tm.getD 84 undef = u84 := hk 84 (by kernel_rfl)
                  have e85 : tm.getD 85 undef = .slice q ops2.length cq := hk 85 (by kernel_rfl)
                  have e86 : tm.getD 86 undef = .int .i64 ops2.length := hk 86 (by kernel_rfl)
                  have e87 : tm.getD 87 undef = .int .i64 ops2.length := hk 87 (by kernel_rfl)
                  have e88 : tm.getD 88 undef = .bool false := hk 88 (by kernel_rfl)
                  have e89 : tm.getD 89 undef = u89 := hk 89 (by kernel_rfl)
                  have e90 : tm.getD 90 undef = u90 := hk 90 (by kernel_rfl)
                  have e91 : tm.getD 91 undef = u91 := hk 91 (by kernel_rfl)
                  have e92 : tm.getD 92 undef = u92 := hk 92 (by kernel_rfl)
                  have e93 : tm.getD 93 undef = u93 := hk 93 (by kernel_rfl)
                  have e94 : tm.getD 94 undef = u94 := hk 94 (by kernel_rfl)
                  have e95 : tm.getD 95 undef = u95 := hk 95 (by kernel_rfl)
                  have e96 : tm.getD 96 undef = u96 := hk 96 (by kernel_rfl)
                  have e97 : tm.getD 97 undef = u97 := hk 97 (by kernel_rfl)
                  have e98 : tm.getD 98 undef = u98 := hk 98 (by kernel_rfl)
                  have e99 : tm.getD 99 undef = u99 := hk 99 (by kernel_rfl)
                  have e100 : tm.getD 100 undef = u100 := hk 100 (by kernel_rfl)
                  have e101 : tm.getD 101 undef = u101 := hk 101 (by kernel_rfl)
                  have e102 : tm.getD 102 undef = u102 := hk 102 (by kernel_rfl)
                  have e103 : tm.getD 103 undef = u103 := hk 103 (by kernel_rfl)
                  have e104 : tm.getD 104 undef = u104 := hk 104 (by kernel_rfl)
                  have e105 : tm.getD 105 undef = u105 := hk 105 (by kernel_rfl)
                  have e106 : tm.getD 106 undef = u106 := hk 106 (by kernel_rfl)
                  have e107 : tm.getD 107 undef = u107 := hk 107 (by kernel_rfl)
                  have e108 : tm.getD 108 undef = u108 := hk 108 (by kernel_rfl)
                  have e109 : tm.getD 109 undef = u109 := hk 109 (by kernel_rfl)
                  have e110 : tm.getD 110 undef = .pointer (some ⟨Ba, 0, none⟩) := hk 110 (by kernel_rfl)
                  have e111 : tm.getD 111 undef = .pointer (some ⟨Cb, 0, none⟩) := hk 111 (by kernel_rfl)
                  have e112 : tm.getD 112 undef = .slice (some ⟨gx, 0, none⟩) L.length cpx := hk 112 (by kernel_rfl)
                  have e113 : tm.getD 113 undef = .pointer (some ⟨Cb, 0, none⟩) := hk 113 (by kernel_rfl)
                  have e114 : tm.getD 114 undef = .pointer (some ⟨Ba, 0, none⟩) := hk 114 (by kernel_rfl)
                  have e115 : tm.getD 115 undef = .slice (some ⟨gy, 0, none⟩) L.length cpy := hk 115 (by kernel_rfl)
                  have e116 : tm.getD 116 undef = .slice sp7 d.length cap7 := hk 116 (by kernel_rfl)
                  have e117 : tm.getD 117 undef = .slice sp8 d2.length cap8 := hk 117 (by kernel_rfl)
                  have e118 : tm.getD 118 undef = .slice (some ⟨gw, 0, none⟩) L.length cpw := hk 118 (by kernel_rfl)
                  have e119 : tm.getD 119 undef = .slice (some ⟨gx, 0, none⟩) L.length cpx := hk 119 (by kernel_rfl)
                  have e120 : tm.getD 120 undef = .int .i64 L.length := hk 120 (by kernel_rfl)
                  have e121 : tm.getD 121 undef = .slice (some ⟨gw, 0, none⟩) L.length cpw := hk 121 (by kernel_rfl)
                  have e122 : tm.getD 122 undef = .int .i64 L.length := hk 122 (by kernel_rfl)
                  have e123 : tm.getD 123 undef = .bool false := hk 123 (by kernel_rfl)
                  have e124 : tm.getD 124 undef = .bool false := hk 124 (by kernel_rfl)
                  have e125 : tm.getD 125 undef = .slice (some ⟨gy, 0, none⟩) L.length cpy := hk 125 (by kernel_rfl)
                  have e126 : tm.getD 126 undef = .int .i64 L.length := hk 126 (by kernel_rfl)
                  have e127 : tm.getD 127 undef = .slice (some ⟨gw, 0, none⟩) L.length cpw := hk 127 (by kernel_rfl)
                  have e128 : tm.getD 128 undef = .int .i64 L.length := hk 128 (by kernel_rfl)
                  have e129 : tm.getD 129 undef = .bool false := hk 129 (by kernel_rfl)
                  have e130 : tm.getD 130 undef = .bool false := hk 130 (by kernel_rfl)
                  have e131 : tm.getD 131 undef = .slice (some ⟨gw, 0, none⟩) L.length cpw := hk 131 (by kernel_rfl)
                  have e132 : tm.getD 132 undef = .int .i64 L.length := hk 132 (by kernel_rfl)
                  have e133 : tm.getD 133 undef = .int .i64 ix := hk 133 (by kernel_rfl)
                  have e134 : tm.getD 134 undef = .bool true := hk 134 (by kernel_rfl)
                  have e135 : tm.getD 135 undef = .int .i64 ix := hk 135 (by kernel_rfl)
                  have e156 : tm.getD 156 undef = u156 := hk 156 (by kernel_rfl)
                  have e157 : tm.getD 157 undef = undef := hk 157 (by kernel_rfl)
                  have e158 : tm.getD 158 undef = undef := hk 158 (by kernel_rfl)
                  have e159 : tm.getD 159 undef = undef := hk 159 (by kernel_rfl)
                  have e160 : tm.getD 160 undef = undef := hk 160 (by kernel_rfl)
                  have e161 : tm.getD 161 undef = undef := hk 161 (by kernel_rfl)
                  have g136 : (tm.getD 136 undef) = .slice (some ⟨gx, 0, none⟩) L.length cpx := hG 0 136 (by decide) rfl
                  have g137 : (tm.getD 137 undef) = .int .i64 (ix : Int) := hG 1 137 (by decide) rfl
                  have g138 : (tm.getD 138 undef) = .pointer (some ⟨gx, ix, none⟩) := hG 2 138 (by decide) rfl
                  have g139 : (tm.getD 139 undef) = .int .i64 (z : Int) := hG 3 139 (by decide) rfl
                  have g140 : (tm.getD 140 undef) = .slice (some ⟨gw, 0, none⟩) L.length cpw := hG 4 140 (by decide) rfl
                  have g141 : (tm.getD 141 undef) = .int .i64 (ix : Int) := hG 5 141 (by decide) rfl
                  have g142 : (tm.getD 142 undef) = .pointer (some ⟨gw, ix, none⟩) := hG 6 142 (by decide) rfl
                  have g143 : (tm.getD 143 undef) = .int .i64 (z : Int) := hG 7 143 (by decide) rfl
                  have g144 : (tm.getD 144 undef) = .bool false := hG 8 144 (by decide) rfl
                  have g145 : (tm.getD 145 undef) = .bool false := hG 9 145 (by decide) rfl
                  have g146 : (tm.getD 146 undef) = .slice (some ⟨gy, 0, none⟩) L.length cpy := hG 10 146 (by decide) rfl
                  have g147 : (tm.getD 147 undef) = .int .i64 (ix : Int) := hG 11 147 (by decide) rfl
                  have g148 : (tm.getD 148 undef) = .pointer (some ⟨gy, ix, none⟩) := hG 12 148 (by decide) rfl
                  have g149 : (tm.getD 149 undef) = .int .i64 (z : Int) := hG 13 149 (by decide) rfl
                  have g150 : (tm.getD 150 undef) = .slice (some ⟨gw, 0, none⟩) L.length cpw := hG 14 150 (by decide) rfl
                  have g151 : (tm.getD 151 undef) = .int .i64 (ix : Int) := hG 15 151 (by decide) rfl
                  have g152 : (tm.getD 152 undef) = .pointer (some ⟨gw, ix, none⟩) := hG 16 152 (by decide) rfl
                  have g153 : (tm.getD 153 undef) = .int .i64 (z : Int) := hG 17 153 (by decide) rfl
                  have g154 : (tm.getD 154 undef) = .bool false := hG 18 154 (by decide) rfl
                  have g155 : (tm.getD 155 undef) = .bool false := hG 19 155 (by decide) rfl
                  have htm := arr_of tm ((.int .i64 N : Value) :: (.int .i64 M : Value) :: (.slice p ops.length cp : Value) :: (.slice q ops2.length cq : Value) :: (undef : Value) :: (undef : Value) :: (undef : Value) :: (undef : Value) :: (u8 : Value) :: (.pointer (some ⟨Ba, 0, none⟩) : Value) :: (.int .i64 0 : Value) :: (.slice sp7 d.length cap7 : Value) :: (u12 : Value) :: (u13 : Value) :: (u14 : Value) :: (u15 : Value) :: (.pointer (some ⟨Cb, 0, none⟩) : Value) :: (.slice sp8 d2.length cap8 : Value) :: (u18 : Value) :: (u19 : Value) :: (u20 : Value) :: (u21 : Value) :: (.slice (some ⟨gx, 0, none⟩) L.length cpx : Value) :: (.slice (some ⟨gy, 0, none⟩) L.length cpy : Value) :: (.slice (some ⟨gw, 0, none⟩) L.length cpw : Value) :: (.int .i64 ix : Value) :: (.bool true : Value) :: (.bool false : Value) :: (.int .i64 n : Value) :: (.int .u64 (IntKind.u64.wrap n) : Value) :: (.int .u64 ((IntKind.u64.wrap n).tmod 4097) : Value) :: (.int .i64 N : Value) :: (.int .i64 m : Value) :: (.int .u64 (IntKind.u64.wrap m) : Value) :: (.int .u64 ((IntKind.u64.wrap m).tmod 4097) : Value) :: (.int .i64 M : Value) :: (.tuple #[.pointer (some ⟨Ba, 0, none⟩), .int .i64 0] : Value) :: (.int .i64 N : Value) :: (.tuple #[.pointer (some ⟨Ba, 0, none⟩), .int .i64 0] : Value) :: (.pointer (some ⟨Ba, 0, none⟩) : Value) :: (.int .i64 0 : Value) :: (.int .i64 0 : Value) :: (.bool false : Value) :: (.int .i64 N : Value) :: (.slice (some ⟨w2.heap.size, 0, none⟩) N N : Value) :: (.slice p ops.length cp : Value) :: (.int .i64 ops.length : Value) :: (.int .i64 ops.length : Value) :: (.bool false : Value) :: (u49 : Value) :: (u50 : Value) :: (u51 : Value) :: (u52 : Value) :: (u53 : Value) :: (u54 : Value) :: (u55 : Value) :: (u56 : Value) :: (u57 : Value) :: (u58 : Value) :: (u59 : Value) :: (u60 : Value) :: (u61 : Value) :: (u62 : Value) :: (u63 : Value) :: (u64 : Value) :: (u65 : Value) :: (u66 : Value) :: (u67 : Value) :: (u68 : Value) :: (u69 : Value) :: (.pointer (some ⟨Ba, 0, none⟩) : Value) :: (.pointer (some ⟨C, 0, none⟩) : Value) :: (.slice (some ⟨w3.heap.size, 0, none⟩) 0 0 : Value) :: (.slice sp7 d.length cap7 : Value) :: (.slice sp4 d.length cap4 : Value) :: (.int .i64 M : Value) :: (.int .i64 ((M : Int) % 3) : Value) :: (u77 : Value) :: (u78 : Value) :: (u79 : Value) :: (u80 : Value) :: (u81 : Value) :: (u82 : Value) :: (u83 : Value) :: (u84 : Value) :: (.slice q ops2.length cq : Value) :: (.int .i64 ops2.length : Value) :: (.int .i64 ops2.length : Value) :: (.bool false : Value) :: (u89 : Value) :: (u90 : Value) :: (u91 : Value) :: (u92 : Value) :: (u93 : Value) :: (u94 : Value) :: (u95 : Value) :: (u96 : Value) :: (u97 : Value) :: (u98 : Value) :: (u99 : Value) :: (u100 : Value) :: (u101 : Value) :: (u102 : Value) :: (u103 : Value) :: (u104 : Value) :: (u105 : Value) :: (u106 : Value) :: (u107 : Value) :: (u108 : Value) :: (u109 : Value) :: (.pointer (some ⟨Ba, 0, none⟩) : Value) :: (.pointer (some ⟨Cb, 0, none⟩) : Value) :: (.slice (some ⟨gx, 0, none⟩) L.length cpx : Value) :: (.pointer (some ⟨Cb, 0, none⟩) : Value) :: (.pointer (some ⟨Ba, 0, none⟩) : Value) :: (.slice (some ⟨gy, 0, none⟩) L.length cpy : Value) :: (.slice sp7 d.length cap7 : Value) :: (.slice sp8 d2.length cap8 : Value) :: (.slice (some ⟨gw, 0, none⟩) L.length cpw : Value) :: (.slice (some ⟨gx, 0, none⟩) L.length cpx : Value) :: (.int .i64 L.length : Value) :: (.slice (some ⟨gw, 0, none⟩) L.length cpw : Value) :: (.int .i64 L.length : Value) :: (.bool false : Value) :: (.bool false : Value) :: (.slice (some ⟨gy, 0, none⟩) L.length cpy : Value) :: (.int .i64 L.length : Value) :: (.slice (some ⟨gw, 0, none⟩) L.length cpw : Value) :: (.int .i64 L.length : Value) :: (.bool false : Value) :: (.bool false : Value) :: (.slice (some ⟨gw, 0, none⟩) L.length cpw : Value) :: (.int .i64 L.length : Value) :: (.int .i64 ix : Value) :: (.bool true : Value) :: (.int .i64 ix : Value) :: (tm.getD 136 undef : Value) :: (tm.getD 137 undef : Value) :: (tm.getD 138 undef : Value) :: (tm.getD 139 undef : Value) :: (tm.getD 140 undef : Value) :: (tm.getD 141 undef : Value) :: (tm.getD 142 undef : Value) :: (tm.getD 143 undef : Value) :: (tm.getD 144 undef : Value) :: (tm.getD 145 undef : Value) :: (tm.getD 146 undef : Value) :: (tm.getD 147 undef : Value) :: (tm.getD 148 undef : Value) :: (tm.getD 149 undef : Value) :: (tm.getD 150 undef : Value) :: (tm.getD 151 undef : Value) :: (tm.getD 152 undef : Value) :: (tm.getD 153 undef : Value) :: (tm.getD 154 undef : Value) :: (tm.getD 155 undef : Value) :: (u156 : Value) :: (undef : Value) :: (undef : Value) :: (undef : Value) :: (undef : Value) :: (undef : Value) :: []) hs (by show (tm.getD 0 undef :: tm.getD 1 undef :: tm.getD 2 undef :: tm.getD 3 undef :: tm.getD 4 undef :: tm.getD 5 undef :: tm.getD 6 undef :: tm.getD 7 undef :: tm.getD 8 undef :: tm.getD 9 undef :: tm.getD 10 undef :: tm.getD 11 undef :: tm.getD 12 undef :: tm.getD 13 undef :: tm.getD 14 undef :: tm.getD 15 undef :: tm.getD 16 undef :: tm.getD 17 undef :: tm.getD 18 undef :: tm.getD 19 undef :: tm.getD 20 undef :: tm.getD 21 undef :: tm.getD 22 undef :: tm.getD 23 undef :: tm.getD 24 undef :: tm.getD 25 undef :: tm.getD 26 undef :: tm.getD 27 undef :: tm.getD 28 undef :: tm.getD 29 undef :: tm.getD 30 undef :: tm.getD 31 undef :: tm.getD 32 undef :: tm.getD 33 undef :: tm.getD 34 undef :: tm.getD 35 undef :: tm.getD 36 undef :: tm.getD 37 undef :: tm.getD 38 undef :: tm.getD 39 undef :: tm.getD 40 undef :: tm.getD 41 undef :: tm.getD 42 undef :: tm.getD 43 undef :: tm.getD 44 undef :: tm.getD 45 undef :: tm.getD 46 undef :: tm.getD 47 undef :: tm.getD 48 undef :: tm.getD 49 undef :: tm.getD 50 undef :: tm.getD 51 undef :: tm.getD 52 undef :: tm.getD 53 undef :: tm.getD 54 undef :: tm.getD 55 undef :: tm.getD 56 undef :: tm.getD 57 undef :: tm.getD 58 undef :: tm.getD 59 undef :: tm.getD 60 undef :: tm.getD 61 undef :: tm.getD 62 undef :: tm.getD 63 undef :: tm.getD 64 undef :: tm.getD 65 undef :: tm.getD 66 undef :: tm.getD 67 undef :: tm.getD 68 undef :: tm.getD 69 undef :: tm.getD 70 undef :: tm.getD 71 undef :: tm.getD 72 undef :: tm.getD 73 undef :: tm.getD 74 undef :: tm.getD 75 undef :: tm.getD 76 undef :: tm.getD 77 undef :: tm.getD 78 undef :: tm.getD 79 undef :: tm.getD 80 undef :: tm.getD 81 undef :: tm.getD 82 undef :: tm.getD 83 undef :: tm.getD 84 undef :: tm.getD 85 undef :: tm.getD 86 undef :: tm.getD 87 undef :: tm.getD 88 undef :: tm.getD 89 undef :: tm.getD 90 undef :: tm.getD 91 undef :: tm.getD 92 undef :: tm.getD 93 undef :: tm.getD 94 undef :: tm.getD 95 undef :: tm.getD 96 undef :: tm.getD 97 undef :: tm.getD 98 undef :: tm.getD 99 undef :: tm.getD 100 undef :: tm.getD 101 undef :: tm.getD 102 undef :: tm.getD 103 undef :: tm.getD 104 undef :: tm.getD 105 undef :: tm.getD 106 undef :: tm.getD 107 undef :: tm.getD 108 undef :: tm.getD 109 undef :: tm.getD 110 undef :: tm.getD 111 undef :: tm.getD 112 undef :: tm.getD 113 undef :: tm.getD 114 undef :: tm.getD 115 undef :: tm.getD 116 undef :: tm.getD 117 undef :: tm.getD 118 undef :: tm.getD 119 undef :: tm.getD 120 undef :: tm.getD 121 undef :: tm.getD 122 undef :: tm.getD 123 undef :: tm.getD 124 undef :: tm.getD 125 undef :: tm.getD 126 undef :: tm.getD 127 undef :: tm.getD 128 undef :: tm.getD 129 undef :: tm.getD 130 undef :: tm.getD 131 undef :: tm.getD 132 undef :: tm.getD 133 undef :: tm.getD 134 undef :: tm.getD 135 undef :: tm.getD 136 undef :: tm.getD 137 undef :: tm.getD 138 undef :: tm.getD 139 undef :: tm.getD 140 undef :: tm.getD 141 undef :: tm.getD 142 undef :: tm.getD 143 undef :: tm.getD 144 undef :: tm.getD 145 undef :: tm.getD 146 undef :: tm.getD 147 undef :: tm.getD 148 undef :: tm.getD 149 undef :: tm.getD 150 undef :: tm.getD 151 undef :: tm.getD 152 undef :: tm.getD 153 undef :: tm.getD 154 undef :: tm.getD 155 undef :: tm.getD 156 undef :: tm.getD 157 undef :: tm.getD 158 undef :: tm.getD 159 undef :: tm.getD 160 undef :: tm.getD 161 undef :: []) = _; rw [e0, e1, e2, e3, e4, e5, e6, e7, e8, e9, e10, e11, e12, e13, e14, e15, e16, e17, e18, e19, e20, e21, e22, e23, e24, e25, e26, e27, e28, e29, e30, e31, e32, e33, e34, e35, e36, e37, e38, e39, e40, e41, e42, e43, e44, e45, e46, e47, e48, e49, e50, e51, e52, e53, e54, e55, e56, e57, e58, e59, e60, e61, e62, e63, e64, e65, e66, e67, e68, e69, e70, e71, e72, e73, e74, e75, e76, e77, e78, e79, e80, e81, e82, e83, e84, e85, e86, e87, e88, e89, e90, e91, e92, e93, e94, e95, e96, e97, e98, e99, e100, e101, e102, e103, e104, e105, e106, e107, e108, e109, e110, e111, e112, e113, e114, e115, e116, e117, e118, e119, e120, e121, e122, e123, e124, e125, e126, e127, e128, e129, e130, e131, e132, e133, e134, e135, e156, e157, e158, e159, e160, e161]; try rfl)
                  clear hs hk hG e0 e1 e2 e3 e4 e5 e6 e7 e8 e9 e10 e11 e12 e13 e14 e15 e16 e17 e18 e19 e20 e21 e22 e23 e24 e25 e26 e27 e28 e29 e30 e31 e32 e33 e34 e35 e36 e37 e38 e39 e40 e41 e42 e43 e44 e45 e46 e47 e48 e49 e50 e51 e52 e53 e54 e55 e56 e57 e58 e59 e60 e61 e62 e63 e64 e65 e66 e67 e68 e69 e70 e71 e72 e73 e74 e75 e76 e77 e78 e79 e80 e81 e82 e83 e84 e85 e86 e87 e88 e89 e90 e91 e92 e93 e94 e95 e96 e97 e98 e99 e100 e101 e102 e103 e104 e105 e106 e107 e108 e109 e110 e111 e112 e113 e114 e115 e116 e117 e118 e119 e120 e121 e122 e123 e124 e125 e126 e127 e128 e129 e130 e131 e132 e133 e134 e135 e156 e157 e158 e159 e160 e161
                  generalize tm.getD 136 undef = t136 at htm g136
                  generalize tm.getD 137 undef = t137 at htm g137
                  generalize tm.getD 138 undef = t138 at htm g138
                  generalize tm.getD 139 undef = t139 at htm g139
                  generalize tm.getD 140 undef = t140 at htm g140
                  generalize tm.getD 141 undef = t141 at htm g141
                  generalize tm.getD 142 undef = t142 at htm g142
                  generalize tm.getD 143 undef = t143 at htm g143
                  generalize tm.getD 144 undef = t144 at htm g144
                  generalize tm.getD 145 undef = t145 at htm g145
                  generalize tm.getD 146 undef = t146 at htm g146
                  generalize tm.getD 147 undef = t147 at htm g147
                  generalize tm.getD 148 undef = t148 at htm g148
                  generalize tm.getD 149 undef = t149 at htm g149
                  generalize tm.getD 150 undef = t150 at htm g150
                  generalize tm.getD 151 undef = t151 at htm g151
                  generalize tm.getD 152 undef = t152 at htm g152
                  generalize tm.getD 153 undef = t153 at htm g153
                  generalize tm.getD 154 undef = t154 at htm g154
                  generalize tm.getD 155 undef = t155 at htm g155
                  subst htm
                  subst g136
                  subst g137
                  subst g138
                  subst g139
                  subst g140
                  subst g141
                  subst g142
                  subst g143
                  subst g144
                  subst g145
                  subst g146
                  subst g147
                  subst g148
                  subst g149
                  subst g150
                  subst g151
                  subst g152
                  subst g153
                  subst g154
                  subst g155
                  simp only [List.drop_succ_cons, List.drop_zero]
                  have HB := Lib.hid hB
                  clear hB
                  go_wp2_with fail
                  go_roundw
                  case rel => exact ⟨_, _, _, _, _, _, _, _, _, _, _, _, _, _, _, _, _, _, _, _, _, _, _, _, _, _, ⟨ix + 1, by go_num, by omega, HBV.out.trans (HB.out.mono HBV.out.size)⟩, rfl⟩
                  case measure => simp [RowKit.intOf]; omega
              · obtain rfl : ix = L.length := by omega
                have hii : ¬ (L.length : Int) < (L.length : Int) := by omega
                have hbw : RowKit.Below wr.heap.size wr wv := HB8.out.trans (hbv.mono HB8.out.size)
                obtain ⟨lsa, hAa⟩ := (HBa.out.kp (.below hbw)).obj
                have hZ := Unlike_any bi Ba bi Ba da da lsa lsa wv hAa hAa _ rfl
                rw [unls_eq da da _ HBa.out.len HBa.out.len rfl, unPs_self] at hZ
                have HZ := Lib.hid hZ
                have HBW := Lib.hid hbw
                clear hZ hbw hbv hAa
                go_wp2_with (go_at_call 11; refine HZ.out.mono ?_; rintro e w9 ⟨vz, rfl, hrz, hbz⟩; obtain ⟨spz, cpz, hvz⟩ := row_formk hrz; subst hvz)
                go_ret
                exact ⟨rfl, HST.out.bel.trans ((HBW.out.trans (hbz.mono HBW.out.size)).mono HST.out.bel.size)⟩
end Go.Proofs.Ytpedinpjdepjdaa
