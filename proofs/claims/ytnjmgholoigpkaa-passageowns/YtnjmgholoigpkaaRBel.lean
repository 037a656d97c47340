/- Below of the reference. -/
import Derived.Test.YtnjmgholoigpkaaRFlo
namespace Go.Proofs.Ytnjmgholoigpkaa
open Go.RowKit Go.Sort
theorem lsv3 {l m k : ML} {p p' q : Option Addr} {cap cap' caq : Nat} {W : World} (h : LV l (.agg #[.int .i64 l.1, .slice p l.2.length cap]) W) (h' : LV m (.agg #[.int .i64 m.1, .slice p' m.2.length cap']) W) (h'' : LV k (.agg #[.int .i64 k.1, .slice q k.2.length caq]) W) :
    LsV [l, m, k] (.slice (some ⟨W.heap.size, 0, none⟩) 3 3) (W.alloc (.cells #[.int .i64 l.1, .slice p l.2.length cap, .int .i64 m.1, .slice p' m.2.length cap', .int .i64 k.1, .slice q k.2.length caq] 24)) := by
  obtain ⟨p1, c1, e1, hc, hcap, h16⟩ := h
  obtain ⟨p2, c2, e2, hc', hcap', h16'⟩ := h'
  obtain ⟨p3, c3, e3, hd, hcaq, hd16⟩ := h''
  simp only [Value.agg.injEq, Array.mk.injEq, List.cons.injEq, Value.slice.injEq, and_true, true_and] at e1 e2 e3
  obtain ⟨rfl, rfl⟩ := e1
  obtain ⟨rfl, rfl⟩ := e2
  obtain ⟨rfl, rfl⟩ := e3
  exact ⟨_, rfl, by simp, fun j hj => by
      have hj2 : j < 3 := by simpa using hj
      rcases Nat.lt_or_ge j 1 with h0 | h0
      · obtain rfl : j = 0 := by omega
        exact ⟨p, cap, by simp, by simp [go_sem], by simp [go_sem], hc.below (by go_grown), hcap, h16⟩
      · rcases Nat.lt_or_ge j 2 with h0 | h0
        · obtain rfl : j = 1 := by omega
          exact ⟨p', cap', by simp, by simp [go_sem], by simp [go_sem], hc'.below (by go_grown), hcap', h16'⟩
        · obtain rfl : j = 2 := by omega
          exact ⟨q, caq, by simp, by simp [go_sem], by simp [go_sem], hd.below (by go_grown), hcaq, hd16⟩⟩
def belP (l a b : ML) (c : Int) : Bool := !decide (max (aZ a c) (aZ b c) < aZ l c)
def belM (l a b : ML) : Bool := (nmM [l, a, b] ++ [0]).all (belP l a b)
theorem all_st (P : Int → Bool) (cs : List Int) (k : Nat) (h : k < cs.length) : (cs.drop k).all P = (P cs[k] && (cs.drop (k + 1)).all P) := by
  rw [List.drop_eq_getElem_cons h, List.all_cons]
set_option maxRecDepth 100000 in
set_option maxHeartbeats 1000000 in
theorem rBelow_c {l a b : ML} {vl va vb : Value} {w : World} (hl : LV l vl w) (ha : LV a va w) (hb : LV b vb w) :
    Calls Try.prog 38 #[vl, va, vb] w fun e w' => ∃ v', e = .returned v' ∧ Below w.heap.size w w' ∧ v' = .bool (belM l a b) := by
  obtain ⟨pl, cl, rfl, hl1, hl2, hl3⟩ := id hl
  obtain ⟨pa, ca, rfl, ha1, ha2, ha3⟩ := id ha
  obtain ⟨pb, cb, rfl, hb1, hb2, hb3⟩ := id hb
  have hA : Below w.heap.size w (((w.alloc (.cells #[.int .i64 l.1, .slice pl l.2.length cl] 24)).alloc (.cells #[.int .i64 a.1, .slice pa a.2.length ca] 24)).alloc (.cells #[.int .i64 b.1, .slice pb b.2.length cb] 24)) := by go_grown
  have hbl : LBox l (((w.alloc (.cells #[.int .i64 l.1, .slice pl l.2.length cl] 24)).alloc (.cells #[.int .i64 a.1, .slice pa a.2.length ca] 24)).alloc (.cells #[.int .i64 b.1, .slice pb b.2.length cb] 24)) w.heap.size 0 := ⟨pl, cl, by simp <;> omega, by simp [go_sem], by simp [go_sem], hl1.below hA, hl2, hl3⟩
  have hba : LBox a (((w.alloc (.cells #[.int .i64 l.1, .slice pl l.2.length cl] 24)).alloc (.cells #[.int .i64 a.1, .slice pa a.2.length ca] 24)).alloc (.cells #[.int .i64 b.1, .slice pb b.2.length cb] 24)) (w.heap.size + 1) 0 := ⟨pa, ca, by simp <;> omega, by simp [go_sem], by simp [go_sem], ha1.below hA, ha2, ha3⟩
  have hbb : LBox b (((w.alloc (.cells #[.int .i64 l.1, .slice pl l.2.length cl] 24)).alloc (.cells #[.int .i64 a.1, .slice pa a.2.length ca] 24)).alloc (.cells #[.int .i64 b.1, .slice pb b.2.length cb] 24)) (w.heap.size + 1 + 1) 0 := ⟨pb, cb, by simp <;> omega, by simp [go_sem], by simp [go_sem], hb1.below hA, hb2, hb3⟩
  obtain ⟨W0, hW0⟩ : ∃ W0, W0 = (((w.alloc (.cells #[.int .i64 l.1, .slice pl l.2.length cl] 24)).alloc (.cells #[.int .i64 a.1, .slice pa a.2.length ca] 24)).alloc (.cells #[.int .i64 b.1, .slice pb b.2.length cb] 24)) := ⟨_, rfl⟩
  rw [← hW0] at hA hbl hba hbb
  have hs0 : W0.heap.size = w.heap.size + 1 + 1 + 1 := by rw [hW0]; simp
  have hL3 := lsv3 (hl.below hA) (ha.below hA) (hb.below hA)
  have hA1 : Below W0.heap.size W0 (W0.alloc (.cells #[.int .i64 l.1, .slice pl l.2.length cl, .int .i64 a.1, .slice pa a.2.length ca, .int .i64 b.1, .slice pb b.2.length cb] 24)) := by go_grown
  have hlen := nmM_len hL3
  have HC := Lib.hid (cats_c hL3 (by simp))
  rw [hs0, hW0] at HC
  have HD : Hid (belM l a b = (nmM [l, a, b] ++ [0]).all (belP l a b)) := rfl
  clear hL3
  go_enter Try.func38, Try.ntmps38
  go_wp2_with (go_at_call 55; refine HC.out.mono ?_; rintro e w1 ⟨v1, rfl, hb1, hI⟩; refine Hid.out ?_)
  refine Lib.hid ?_
  rw [← hW0] at hb1
  obtain ⟨cs, hcs⟩ : ∃ cs, nmM [l, a, b] ++ [0] = cs := ⟨_, rfl⟩
  have hlc : cs.length ≤ 100 := by rw [← hcs, List.length_append]; simp at hlen ⊢; omega
  rw [hcs] at hI HD
  have hb01 : Below W0.heap.size W0 w1 := hA1.trans (hb1.mono hA1.size)
  clear HC hcs hlen hb1 hA1
  obtain ⟨p, cz, rfl⟩ := hI.form
  have HI := Lib.hid hI
  clear hI
  have hcl := hbl.below hb01
  have hca := hba.below hb01
  have hcb := hbb.below hb01
  have hA2 : Below w.heap.size w w1 := hA.trans (hb01.mono hA.size)
  clear hbl hba hbb hA hb01 hW0 hs0 hl ha hb hl1 ha1 hb1
  go_wp2_with fail
  go_loopw [15] (fun i wr => ∃ k : Nat, k ≤ cs.length ∧ i = .int .i64 k ∧ cs.all (belP l a b) = (cs.drop k).all (belP l a b) ∧ Below w1.heap.size w1 wr) (fun i _ => cs.length - (intOf i).toNat)
  case atStart => exact ⟨0, Nat.zero_le _, rfl, by simp, Below.refl _ _⟩
  case round =>
    obtain ⟨k, hk, rfl, hr, hbw⟩ := hrel
    have HR := Lib.hid hr
    clear hr
    have hBw : Below w.heap.size w wr := hA2.trans (hbw.mono hA2.size)
    by_cases hlt : k < cs.length
    · obtain ⟨g, rfl, hg, c0w⟩ := iv_cell HI.out k hlt
      have c0 := (hbw.cell (p := ⟨g, k, none⟩) hg).trans c0w
      have HT := Lib.hid (all_st (belP l a b) cs k hlt)
      have hdl := hcl.below hbw
      have hda := hca.below hbw
      have hdb := hcb.below hbw
      have hki : (k : Int) < (cs.length : Int) := by omega
      clear c0w hcl hca hcb HI
      go_wp2_with fail
      refine wp_region_mono 11 (fun kq v W => match kq with | 19 => LV l v W | 20 => v = .int .i64 cs[k] | 21 => v = .int .i64 (aZ l cs[k]) | 22 => LV a v W | 23 => v = .int .i64 cs[k] | 24 => v = .int .i64 (aZ a cs[k]) | 25 => LV b v W | 26 => v = .int .i64 cs[k] | 27 => v = .int .i64 (aZ b cs[k]) | 28 => v = .int .i64 (max (aZ a cs[k]) (aZ b cs[k])) | 29 => v = .bool (decide ((max (aZ a cs[k]) (aZ b cs[k])) < (aZ l cs[k]))) | _ => True) (by kernel_rfl) (by kernel_rfl) (by kernel_rfl) (by kernel_rfl) (by simp) (by kernel_rfl) ?_ ?_ ?_
      · intro kq v W W' h hb
        revert h
        try dsimp only
        split
        · intro h; exact LV.below h hb
        · intro h; exact h
        · intro h; exact h
        · intro h; exact LV.below h hb
        · intro h; exact h
        · intro h; exact h
        · intro h; exact LV.below h hb
        · intro h; exact h
        · intro h; exact h
        · intro h; exact h
        · intro h; exact h
        · intro h; trivial
      · intro a' W hB hs hk i o d ho hd hG
        match i, ho with
        | 0, ho =>
          obtain rfl : _ = o := Option.some.inj ho
          obtain rfl : 19 = d := Option.some.inj hd
          obtain ⟨v, hr, hv⟩ := run_loadL (ev := a'.eval) (W := W) (hk 3 (by kernel_rfl)) (hdl.below hB)
          exact .inr ⟨rfl, .inl ⟨v, W, hr, Below.refl _ _, hv⟩⟩
        | 1, ho =>
          obtain rfl : _ = o := Option.some.inj ho
          obtain rfl : 20 = d := Option.some.inj hd
          exact .inr ⟨rfl, .inl ⟨_, W, run_move (hk 8 (by kernel_rfl)), Below.refl _ _, rfl⟩⟩
        | 2, ho =>
          obtain rfl : _ = o := Option.some.inj ho
          obtain rfl : 21 = d := Option.some.inj hd
          have g19 : LV l (a'.eval (.tmp 19)) W := hG ⟨0, .data⟩ (by simp) rfl 19 rfl
          have g20 : (a'.eval (.tmp 20)) = .int .i64 cs[k] := hG ⟨1, .data⟩ (by simp) rfl 20 rfl
          exact .inr ⟨rfl, .inr ⟨_, _, run_call rfl map_2 ent_gatehouseref07_at, at_c' g19 g20⟩⟩
        | 3, ho =>
          obtain rfl : _ = o := Option.some.inj ho
          obtain rfl : 22 = d := Option.some.inj hd
          obtain ⟨v, hr, hv⟩ := run_loadL (ev := a'.eval) (W := W) (hk 4 (by kernel_rfl)) (hda.below hB)
          exact .inr ⟨rfl, .inl ⟨v, W, hr, Below.refl _ _, hv⟩⟩
        | 4, ho =>
          obtain rfl : _ = o := Option.some.inj ho
          obtain rfl : 23 = d := Option.some.inj hd
          exact .inr ⟨rfl, .inl ⟨_, W, run_move (hk 8 (by kernel_rfl)), Below.refl _ _, rfl⟩⟩
        | 5, ho =>
          obtain rfl : _ = o := Option.some.inj ho
          obtain rfl : 24 = d := Option.some.inj hd
          have g22 : LV a (a'.eval (.tmp 22)) W := hG ⟨3, .data⟩ (by simp) rfl 22 rfl
          have g23 : (a'.eval (.tmp 23)) = .int .i64 cs[k] := hG ⟨4, .data⟩ (by simp) rfl 23 rfl
          exact .inr ⟨rfl, .inr ⟨_, _, run_call rfl map_2 ent_gatehouseref07_at, at_c' g22 g23⟩⟩
        | 6, ho =>
          obtain rfl : _ = o := Option.some.inj ho
          obtain rfl : 25 = d := Option.some.inj hd
          obtain ⟨v, hr, hv⟩ := run_loadL (ev := a'.eval) (W := W) (hk 5 (by kernel_rfl)) (hdb.below hB)
          exact .inr ⟨rfl, .inl ⟨v, W, hr, Below.refl _ _, hv⟩⟩
        | 7, ho =>
          obtain rfl : _ = o := Option.some.inj ho
          obtain rfl : 26 = d := Option.some.inj hd
          exact .inr ⟨rfl, .inl ⟨_, W, run_move (hk 8 (by kernel_rfl)), Below.refl _ _, rfl⟩⟩
        | 8, ho =>
          obtain rfl : _ = o := Option.some.inj ho
          obtain rfl : 27 = d := Option.some.inj hd
          have g25 : LV b (a'.eval (.tmp 25)) W := hG ⟨6, .data⟩ (by simp) rfl 25 rfl
          have g26 : (a'.eval (.tmp 26)) = .int .i64 cs[k] := hG ⟨7, .data⟩ (by simp) rfl 26 rfl
          exact .inr ⟨rfl, .inr ⟨_, _, run_call rfl map_2 ent_gatehouseref07_at, at_c' g25 g26⟩⟩
        | 9, ho =>
          obtain rfl : _ = o := Option.some.inj ho
          obtain rfl : 28 = d := Option.some.inj hd
          have g24 : (a'.eval (.tmp 24)) = .int .i64 (aZ a cs[k]) := hG ⟨5, .data⟩ (by simp) rfl 24 rfl
          have g27 : (a'.eval (.tmp 27)) = .int .i64 (aZ b cs[k]) := hG ⟨8, .data⟩ (by simp) rfl 27 rfl
          exact .inr ⟨rfl, .inl ⟨_, W, run_max g24 g27, Below.refl _ _, rfl⟩⟩
        | 10, ho =>
          obtain rfl : _ = o := Option.some.inj ho
          obtain rfl : 29 = d := Option.some.inj hd
          have g21 : (a'.eval (.tmp 21)) = .int .i64 (aZ l cs[k]) := hG ⟨2, .data⟩ (by simp) rfl 21 rfl
          have g28 : (a'.eval (.tmp 28)) = .int .i64 (max (aZ a cs[k]) (aZ b cs[k])) := hG ⟨9, .data⟩ (by simp) rfl 28 rfl
          exact .inr ⟨rfl, .inl ⟨_, W, run_gtr g21 g28, Below.refl _ _, rfl⟩⟩
        | j + 11, ho => simp at ho
      · intro a' W hB hs hdf hk hG
        obtain ⟨tm, df⟩ := a'
        obtain rfl : df = [] := hdf
        have e0 : tm.getD 0 undef = .agg #[.int .i64 l.fst, .slice pl l.snd.length cl] := hk 0 (by kernel_rfl)
        have e1 : tm.getD 1 undef = .agg #[.int .i64 a.fst, .slice pa a.snd.length ca] := hk 1 (by kernel_rfl)
        have e2 : tm.getD 2 undef = .agg #[.int .i64 b.fst, .slice pb b.snd.length cb] := hk 2 (by kernel_rfl)
        have e3 : tm.getD 3 undef = .pointer (some ⟨w.heap.size, 0, none⟩) := hk 3 (by kernel_rfl)
        have e4 : tm.getD 4 undef = .pointer (some ⟨w.heap.size + 1, 0, none⟩) := hk 4 (by kernel_rfl)
        have e5 : tm.getD 5 undef = .pointer (some ⟨w.heap.size + 1 + 1, 0, none⟩) := hk 5 (by kernel_rfl)
        have e6 : tm.getD 6 undef = u6 := hk 6 (by kernel_rfl)
        have e7 : tm.getD 7 undef = undef := hk 7 (by kernel_rfl)
        have e8 : tm.getD 8 undef = .int .i64 cs[k] := hk 8 (by kernel_rfl)
        have e9 : tm.getD 9 undef = .agg #[.int .i64 l.fst, .slice pl l.snd.length cl] := hk 9 (by kernel_rfl)
        have e10 : tm.getD 10 undef = .agg #[.int .i64 a.fst, .slice pa a.snd.length ca] := hk 10 (by kernel_rfl)
        have e11 : tm.getD 11 undef = .agg #[.int .i64 b.fst, .slice pb b.snd.length cb] := hk 11 (by kernel_rfl)
        have e12 : tm.getD 12 undef = .slice (some ⟨w.heap.size + 1 + 1 + 1, 0, none⟩) 3 3 := hk 12 (by kernel_rfl)
        have e13 : tm.getD 13 undef = .slice (some ⟨g, 0, none⟩) cs.length cz := hk 13 (by kernel_rfl)
        have e14 : tm.getD 14 undef = .int .i64 cs.length := hk 14 (by kernel_rfl)
        have e15 : tm.getD 15 undef = .int .i64 k := hk 15 (by kernel_rfl)
        have e16 : tm.getD 16 undef = .bool true := hk 16 (by kernel_rfl)
        have e17 : tm.getD 17 undef = .pointer (some { block := g, off := k }) := hk 17 (by kernel_rfl)
        have e18 : tm.getD 18 undef = .int .i64 cs[k] := hk 18 (by kernel_rfl)
        have e30 : tm.getD 30 undef = u30 := hk 30 (by kernel_rfl)
        have g19 : LV l (tm.getD 19 undef) W := hG 0 19 (by decide) rfl
        have g20 : (tm.getD 20 undef) = .int .i64 cs[k] := hG 1 20 (by decide) rfl
        have g21 : (tm.getD 21 undef) = .int .i64 (aZ l cs[k]) := hG 2 21 (by decide) rfl
        have g22 : LV a (tm.getD 22 undef) W := hG 3 22 (by decide) rfl
        have g23 : (tm.getD 23 undef) = .int .i64 cs[k] := hG 4 23 (by decide) rfl
        have g24 : (tm.getD 24 undef) = .int .i64 (aZ a cs[k]) := hG 5 24 (by decide) rfl
        have g25 : LV b (tm.getD 25 undef) W := hG 6 25 (by decide) rfl
        have g26 : (tm.getD 26 undef) = .int .i64 cs[k] := hG 7 26 (by decide) rfl
        have g27 : (tm.getD 27 undef) = .int .i64 (aZ b cs[k]) := hG 8 27 (by decide) rfl
        have g28 : (tm.getD 28 undef) = .int .i64 (max (aZ a cs[k]) (aZ b cs[k])) := hG 9 28 (by decide) rfl
        have g29 : (tm.getD 29 undef) = .bool (decide ((max (aZ a cs[k]) (aZ b cs[k])) < (aZ l cs[k]))) := hG 10 29 (by decide) rfl
        have htm := arr_of tm [.agg #[.int .i64 l.fst, .slice pl l.snd.length cl], .agg #[.int .i64 a.fst, .slice pa a.snd.length ca], .agg #[.int .i64 b.fst, .slice pb b.snd.length cb], .pointer (some ⟨w.heap.size, 0, none⟩), .pointer (some ⟨w.heap.size + 1, 0, none⟩), .pointer (some ⟨w.heap.size + 1 + 1, 0, none⟩), u6, undef, .int .i64 cs[k], .agg #[.int .i64 l.fst, .slice pl l.snd.length cl], .agg #[.int .i64 a.fst, .slice pa a.snd.length ca], .agg #[.int .i64 b.fst, .slice pb b.snd.length cb], .slice (some ⟨w.heap.size + 1 + 1 + 1, 0, none⟩) 3 3, .slice (some ⟨g, 0, none⟩) cs.length cz, .int .i64 cs.length, .int .i64 k, .bool true, .pointer (some { block := g, off := k }), .int .i64 cs[k], tm.getD 19 undef, tm.getD 20 undef, tm.getD 21 undef, tm.getD 22 undef, tm.getD 23 undef, tm.getD 24 undef, tm.getD 25 undef, tm.getD 26 undef, tm.getD 27 undef, tm.getD 28 undef, tm.getD 29 undef, u30] hs (by show [tm.getD 0 undef, tm.getD 1 undef, tm.getD 2 undef, tm.getD 3 undef, tm.getD 4 undef, tm.getD 5 undef, tm.getD 6 undef, tm.getD 7 undef, tm.getD 8 undef, tm.getD 9 undef, tm.getD 10 undef, tm.getD 11 undef, tm.getD 12 undef, tm.getD 13 undef, tm.getD 14 undef, tm.getD 15 undef, tm.getD 16 undef, tm.getD 17 undef, tm.getD 18 undef, tm.getD 19 undef, tm.getD 20 undef, tm.getD 21 undef, tm.getD 22 undef, tm.getD 23 undef, tm.getD 24 undef, tm.getD 25 undef, tm.getD 26 undef, tm.getD 27 undef, tm.getD 28 undef, tm.getD 29 undef, tm.getD 30 undef] = _; rw [e0, e1, e2, e3, e4, e5, e6, e7, e8, e9, e10, e11, e12, e13, e14, e15, e16, e17, e18, e30])
        clear hs hk hG e0 e1 e2 e3 e4 e5 e6 e7 e8 e9 e10 e11 e12 e13 e14 e15 e16 e17 e18 e30
        generalize tm.getD 19 undef = t19 at htm g19
        generalize tm.getD 20 undef = t20 at htm g20
        generalize tm.getD 21 undef = t21 at htm g21
        generalize tm.getD 22 undef = t22 at htm g22
        generalize tm.getD 23 undef = t23 at htm g23
        generalize tm.getD 24 undef = t24 at htm g24
        generalize tm.getD 25 undef = t25 at htm g25
        generalize tm.getD 26 undef = t26 at htm g26
        generalize tm.getD 27 undef = t27 at htm g27
        generalize tm.getD 28 undef = t28 at htm g28
        generalize tm.getD 29 undef = t29 at htm g29
        subst htm
        subst g20
        subst g21
        subst g23
        subst g24
        subst g26
        subst g27
        subst g28
        subst g29
        simp only [List.drop_succ_cons, List.drop_zero]
        have HB : Hid (Below w1.heap.size w1 W) := hbw.trans (hB.mono hbw.size)
        have HB' : Hid (Below w.heap.size w W) := hBw.trans (hB.mono hBw.size)
        obtain ⟨x, hx⟩ : ∃ x, decide (max (aZ a cs[k]) (aZ b cs[k]) < aZ l cs[k]) = x := ⟨_, rfl⟩
        have HP : Hid (belP l a b cs[k] = !x) := by rw [← hx]; rfl
        simp only [hx]
        clear hx hB hbw hBw hdl hda hdb g19 g22 g25 hA2
        cases x with
        | true =>
          go_wp2
          go_ret
          exact ⟨_, rfl, HB'.out, by rw [HD.out, HR.out, HT.out, HP.out]; rfl⟩
        | false =>
          go_wp2
          go_roundw
          case rel => exact ⟨k + 1, by omega, by go_num, by rw [HR.out, HT.out, HP.out]; rfl, HB.out⟩
          case measure => simp [intOf]; omega
    · obtain rfl : k = cs.length := by omega
      have hkk : ¬ (cs.length : Int) < (cs.length : Int) := by omega
      go_wp2
      go_ret
      first | exact ⟨_, rfl, hBw, by rw [HD.out, HR.out, List.drop_length]; rfl⟩ | exact ⟨by rw [HD.out, HR.out, List.drop_length]; rfl, hBw⟩
end Go.Proofs.Ytnjmgholoigpkaa
