/- CpuLittle answers true. -/
import Derived.Test.YtmmejicmjalibaaEqS
namespace Go.Proofs.Ytmmejicmjalibaa
open Go.RowKit Go.Lib
/-- What a step may turn. -/
def Shp (r : List Int) (pc : Int) (d : List UInt8) (x : List Int × Int × List UInt8 × Int) : Prop :=
  (∃ what : Int, (what = 2 ∨ what = 3 ∨ what = 4) ∧ x = (r, pc, d, what)) ∨ x = (r, nxI pc, d, 1) ∨ (∃ k y pc', x = (r.set k y, pc', d, 0)) ∨ (∃ pc' ad s, s.length ≤ 8 ∧ x = (r, pc', over d ad s, 0)) ∨ (∃ pc', x = (r, pc', d, 0))
theorem doS_shp (c : Cod) (r : List Int) (pc : Int) (d : List UInt8) : Shp r pc d (doS c r pc d) := by
  unfold doS
  split
  · exact .inl ⟨2, .inl rfl, rfl⟩
  split
  · exact .inr (.inr (.inr (.inr ⟨_, rfl⟩)))
  split
  · exact .inr (.inl rfl)
  split
  · exact .inr (.inr (.inl ⟨_, _, _, rfl⟩))
  split
  · split
    · split
      · exact .inr (.inr (.inl ⟨_, _, _, rfl⟩))
      · exact .inr (.inr (.inr (.inl ⟨_, _, _, by rw [eightR_len]; unfold szI; split <;> omega, rfl⟩)))
    · exact .inl ⟨3, .inr (.inl rfl), rfl⟩
  split
  · exact .inr (.inr (.inr (.inr ⟨_, rfl⟩)))
  split
  · exact .inr (.inr (.inl ⟨_, _, _, rfl⟩))
  exact .inr (.inr (.inr (.inr ⟨_, rfl⟩)))
theorem stepS_shp (r : List Int) (pc : Int) (d : List UInt8) : Shp r pc d (stepS r pc d) := by
  unfold stepS
  split
  · split
    · exact doS_shp _ _ _ _
    · exact .inl ⟨4, .inr (.inr rfl), rfl⟩
  · exact .inl ⟨3, .inr (.inl rfl), rfl⟩
theorem overS_one (r : List Int) (pc : Int) (d : List UInt8) : overS 1 r pc d = ((stepS r pc d).1, (stepS r pc d).2.1, (stepS r pc d).2.2.1, (if (stepS r pc d).2.2.2 = 0 then 1 else 0), (stepS r pc d).2.2.2) := by
  obtain ⟨x, hx⟩ : ∃ x, stepS r pc d = x := ⟨_, rfl⟩
  obtain ⟨r2, pc2, d2, what⟩ := x
  by_cases h : what = 0
  · subst h
    rw [overS_ran hx, hx]; rfl
  · rw [overS_stop hx h, hx]; simp [h]
/-- How many registers are unlike, of the first k. -/
def cntD (r r2 : List Int) (k : Nat) : Nat := ((List.range k).filter fun j => decide (r2.getD j 0 ≠ r.getD j 0)).length
theorem cntD_succ (r r2 : List Int) (k : Nat) : cntD r r2 (k + 1) = cntD r r2 k + (if r2.getD k 0 ≠ r.getD k 0 then 1 else 0) := by
  unfold cntD; rw [List.range_succ, List.filter_append, List.length_append]; congr 1
  by_cases h : r2.getD k 0 = r.getD k 0
  · rw [if_neg (by rw [h]; simp), List.filter_cons_of_neg (by rw [h]; simp)]; rfl
  · rw [if_pos h, List.filter_cons_of_pos (by simpa using h)]; rfl
theorem cntD_le (r r2 : List Int) (k : Nat) : cntD r r2 k ≤ k := by
  have := List.length_filter_le (fun j => decide (r2.getD j 0 ≠ r.getD j 0)) (List.range k); simpa [cntD] using this
theorem cntD_same (r : List Int) (k : Nat) : cntD r r k = 0 := by unfold cntD; simp
theorem cntD_set (r : List Int) (i : Nat) (y : Int) (k : Nat) : cntD r (r.set i y) k ≤ 1 := by
  have h : ∀ k, cntD r (r.set i y) k ≤ (if i < k then 1 else 0) := by
    intro k
    induction k with
    | zero => simp [cntD]
    | succ k ih =>
      rw [cntD_succ]
      by_cases hi : i = k
      · subst hi
        rw [if_neg (by omega)] at ih
        split <;> simp <;> omega
      · have : (r.set i y).getD k 0 = r.getD k 0 := by rw [List.getD_eq_getElem?_getD, List.getElem?_set_ne hi, List.getD_eq_getElem?_getD]
        rw [if_neg (by rw [this]; simp)]
        split at ih <;> split <;> omega
  have := h k
  split at this <;> omega
/-- The first and the last place at which bytes are unlike, of the first k. -/
def Ends (d d2 : List UInt8) (k : Nat) (f l : Int) : Prop :=
  (f = -1 ∧ l = -1 ∧ ∀ j, j < k → d.getD j 0 = d2.getD j 0) ∨ ∃ a b : Nat, f = a ∧ l = b ∧ a < k ∧ b < k ∧ a ≤ b ∧ d.getD a 0 ≠ d2.getD a 0 ∧ d.getD b 0 ≠ d2.getD b 0
theorem Ends.same {d : List UInt8} {k : Nat} {f l : Int} (h : Ends d d k f l) : f = -1 ∧ l = -1 := by
  rcases h with ⟨h1, h2, _⟩ | ⟨a, b, _, _, _, _, _, h3, _⟩
  · exact ⟨h1, h2⟩
  · exact absurd rfl h3
theorem Ends.near {d s : List UInt8} {ad k : Nat} {f l : Int} (hs : s.length ≤ 8) (hk : k ≤ d.length) (h : Ends d (over d ad s) k f l) : l - f < 8 := by
  rcases h with ⟨h1, h2, _⟩ | ⟨a, b, h1, h2, h3, h4, h5, h6, h7⟩
  · omega
  · rw [over_get _ _ _ _ (by omega)] at h6 h7
    have q1 : ad ≤ a ∧ a - ad < s.length := by
      apply Classical.byContradiction; intro hn; rw [if_neg hn] at h6; exact h6 rfl
    have q2 : ad ≤ b ∧ b - ad < s.length := by
      apply Classical.byContradiction; intro hn; rw [if_neg hn] at h7; exact h7 rfl
    omega
theorem Ends.step {d d2 : List UInt8} {k : Nat} {f l : Int} (h : Ends d d2 k f l) : Ends d d2 (k + 1) (if d.getD k 0 = d2.getD k 0 then f else if f < 0 then k else f) (if d.getD k 0 = d2.getD k 0 then l else k) := by
  by_cases hd : d.getD k 0 = d2.getD k 0
  · rw [if_pos hd, if_pos hd]
    rcases h with ⟨h1, h2, h3⟩ | ⟨a, b, h1, h2, h3, h4, h5, h6, h7⟩
    · exact .inl ⟨h1, h2, fun j hj => by rcases Nat.lt_succ_iff_lt_or_eq.1 hj with q | rfl; exact h3 j q; exact hd⟩
    · exact .inr ⟨a, b, h1, h2, by omega, by omega, h5, h6, h7⟩
  · rw [if_neg hd, if_neg hd]
    rcases h with ⟨h1, h2, h3⟩ | ⟨a, b, h1, h2, h3, h4, h5, h6, h7⟩
    · rw [if_pos (by omega)]
      exact .inr ⟨k, k, rfl, rfl, by omega, by omega, Nat.le_refl _, hd, hd⟩
    · rw [if_neg (by omega)]
      exact .inr ⟨a, k, h1, rfl, by omega, by omega, by omega, h6, hd⟩
theorem below_setRow {n : Nat} {w w' : World} (h : Below n w w') {g : Nat} (hg : n ≤ g) (cs : Array Value) : Below n w (w'.setRow g cs) :=
  ⟨h.os, h.tape, h.output, by rw [size_setRow]; exact h.size, fun k hk => (heap_setRow_ne _ _ _ (by omega)).trans (h.block k hk)⟩
set_option maxRecDepth 100000 in
set_option maxHeartbeats 4000000 in
theorem CpuLittle_any (s : ByteArray) (r : List Int) (pc : Int) (w : World) (hs : s.size < 4611686018427387904) (hk : okR r pc) :
    Calls Try.prog 6 #[.string s, stV r pc] w fun e w' => e = .returned (.bool true) ∧ Below w.heap.size w w' := by
  have hr := hk.1
  have hd4 : (memL s).length ≤ 4096 := by rw [memL_len]; omega
  have HK := Lib.hid hk
  have HL := Lib.hid lives_any
  have HM := Lib.hid (fun w' => memory_any s w' hs)
  generalize memL s = d at *
  have hsz : (Try.prog.info? 25).map (·.size) = some (stC r pc).toArray.size := by rw [stC_size hr]; exact stInfo
  have HS : Hid (stV r pc = .agg (stC r pc).toArray) := rfl
  unfold stV
  obtain ⟨cs, hcs⟩ : ∃ cs, (stC r pc).toArray = cs := ⟨_, rfl⟩
  rw [hcs] at hsz HS ⊢
  have hb1 : Below w.heap.size w (w.alloc (.cells cs 25)) := (Below.refl _ _).alloc (Nat.le_refl _) _
  have k1 : (w.alloc (.cells cs 25)).heap[w.heap.size]? = some (.cells cs 25 (0, 0)) := heap_new _ _
  have z1 : w.heap.size < (w.alloc (.cells cs 25)).heap.size := by simp
  go_enter Try.func6, Try.ntmps6
  go_wp2_with (first
    | (go_at_call 9; refine (HL.out _).mono ?_; rintro e w2 ⟨rfl, hB2⟩)
    | (go_at_call 15; refine (HM.out _).mono ?_; rintro e w3 ⟨rfl, ⟨ls3, hA3⟩, hB3⟩; refine Hid.out ?_))
  refine Lib.hid ?_
  have q2 : Below w.heap.size w w2 := hb1.trans (hB2.mono hb1.size)
  have q3 : Below w.heap.size w w3 := q2.trans (hB3.mono q2.size)
  have k3 : w3.heap[w.heap.size]? = some (.cells cs 25 (0, 0)) := (hB3.block _ (Nat.lt_of_lt_of_le z1 hB2.size)).trans ((hB2.block _ z1).trans k1)
  have z2 : w.heap.size < w2.heap.size := Nat.lt_of_lt_of_le z1 hB2.size
  have hbw3 : w2.heap.size ≤ w3.heap.size := hB3.size
  generalize w2.heap.size = Bb at *
  have HAl := Lib.hid (all_any Bb Bb d ls3 w3 hA3)
  go_wp2_with (first
    | (go_at_call 17; refine HAl.out.mono ?_; rintro e w4 ⟨rfl, hB4⟩; refine Hid.out ?_))
  refine Lib.hid ?_
  have A4 := hA3.below hB4
  have k4 : w4.heap[w.heap.size]? = some (.cells cs 25 (0, 0)) := (hB4.block _ (Array.getElem?_eq_some_iff.1 k3).1).trans k3
  have q4 : Below w.heap.size w w4 := q3.trans (hB4.mono q3.size)
  have HO := Over_any Bb Bb 1 r pc d ls3 w4 (by decide) HK.out A4
  rw [show (1 : Int).toNat = 1 from rfl, overS_one, HS.out] at HO
  have hshp := stepS_shp r pc d
  have hok := stepS_ok (d := d) HK.out
  generalize stepS r pc d = x at HO hshp hok
  obtain ⟨r2, pc2, d2, what⟩ := x
  simp only at HO hok
  obtain ⟨ran, hran⟩ : ∃ ran : Nat, (if what = 0 then 1 else 0) = ran := ⟨_, rfl⟩
  rw [hran] at HO
  obtain ⟨⟨hr2, _, _⟩, hdl⟩ := hok
  have hsz2 : (Try.prog.info? 25).map (·.size) = some (stC r2 pc2).toArray.size := by rw [stC_size hr2]; exact stInfo
  have hone := stC_one r2 pc2
  have HQ : Hid ((stC r2 pc2).toArray.size = 17) := stC_size hr2
  have HO' : Hid (Calls Try.prog 13 #[.pointer (some ⟨Bb, 0, none⟩), .agg cs, .int .i64 1] w4 fun e w' => e = .returned (.tuple #[.agg (stC r2 pc2).toArray, .int .i64 ran, .int .i64 what]) ∧ (∃ ls', BAt w' Bb Bb d2 ls') ∧ Below Bb w4 w') := HO.mono fun e w' hh => ⟨hh.1, hh.2.1, hh.2.2.1⟩
  have HC2 : Hid (stC r2 pc2 = stC r2 pc2) := rfl
  obtain ⟨cs2, hcs2⟩ : ∃ cs2, (stC r2 pc2).toArray = cs2 := ⟨_, rfl⟩
  rw [hcs2] at hsz2 hone HQ HO'
  clear HO HAl hA3 hB4 k1 k3 hB3 hB2 q2 hb1 HC2
  go_wp2_with (first
    | (refine wpList_load_row rfl 25 _ rfl w.heap.size rfl 25 _ (0, 0) _ k4 Try.underlying25 rfl hsz ?_)
    | (go_at_call 13; refine HO'.out.mono ?_; rintro e w5 ⟨rfl, ⟨ls5, hA5⟩, hB5⟩; refine Hid.out ?_))
  refine Lib.hid ?_
  have q5 : Below w.heap.size w w5 := q4.trans (hB5.mono (by omega))
  have k5 : w5.heap[w.heap.size]? = some (.cells cs 25 (0, 0)) := (hB5.block _ z2).trans k4
  have hbA : Below w5.heap.size w5 (w5.alloc (.cells #[.int .u64 0, .int .u64 0, .int .u64 0, .int .u64 0, .int .u64 0, .int .u64 0, .int .u64 0, .int .u64 0, .int .u64 0, .int .u64 0, .int .u64 0, .int .u64 0, .int .u64 0, .int .u64 0, .int .u64 0, .int .u64 0, .int .u64 0] 25)) := (Below.refl _ _).alloc (Nat.le_refl _) _
  have hn5 : (w5.alloc (.cells #[.int .u64 0, .int .u64 0, .int .u64 0, .int .u64 0, .int .u64 0, .int .u64 0, .int .u64 0, .int .u64 0, .int .u64 0, .int .u64 0, .int .u64 0, .int .u64 0, .int .u64 0, .int .u64 0, .int .u64 0, .int .u64 0, .int .u64 0] 25)).heap[w5.heap.size]? = some (.cells #[.int .u64 0, .int .u64 0, .int .u64 0, .int .u64 0, .int .u64 0, .int .u64 0, .int .u64 0, .int .u64 0, .int .u64 0, .int .u64 0, .int .u64 0, .int .u64 0, .int .u64 0, .int .u64 0, .int .u64 0, .int .u64 0, .int .u64 0] 25 (0, 0)) := heap_new _ _
  have hb6 := below_setRow hbA (g := w5.heap.size) (Nat.le_refl _) cs2
  have hn6 := heap_setRow _ w5.heap.size _ cs2 _ hn5
  obtain ⟨W6, hW6⟩ : ∃ W6, (w5.alloc (.cells #[.int .u64 0, .int .u64 0, .int .u64 0, .int .u64 0, .int .u64 0, .int .u64 0, .int .u64 0, .int .u64 0, .int .u64 0, .int .u64 0, .int .u64 0, .int .u64 0, .int .u64 0, .int .u64 0, .int .u64 0, .int .u64 0, .int .u64 0] 25)).setRow w5.heap.size cs2 = W6 := ⟨_, rfl⟩
  rw [hW6] at hb6 hn6
  have HAl := Lib.hid (all_any Bb Bb d2 ls5 W6 (hA5.below hb6))
  clear hbA
  go_wp2_with (first
    | (refine wpList_store_row rfl 25 _ _ rfl w5.heap.size cs2 rfl rfl 25 _ hn5 hsz2 (by rw [HQ.out]; rfl) hone ?_; rw [hW6])
    | (go_at_call 17; refine HAl.out.mono ?_; rintro e w7 ⟨rfl, hB7⟩; refine Hid.out ?_))
  refine Lib.hid ?_
  have q7 : Below w.heap.size w w7 := (q5.trans (hb6.mono q5.size)).trans (hB7.mono (Nat.le_trans q5.size hb6.size))
  have k7 : w7.heap[w.heap.size]? = some (.cells cs 25 (0, 0)) := (hB7.block _ (Array.getElem?_eq_some_iff.1 ((hb6.block _ (Array.getElem?_eq_some_iff.1 k5).1).trans k5)).1).trans ((hb6.block _ (Array.getElem?_eq_some_iff.1 k5).1).trans k5)
  have n7 : w7.heap[w5.heap.size]? = some (.cells cs2 25 (0, 0)) := (hB7.block _ (Array.getElem?_eq_some_iff.1 hn6).1).trans hn6
  clear hW6 hn5 hn6 hb6 hA5 HAl k4 k5 A4
  go_wp2_with fail
  have hS1 : StAt w7 w.heap.size r pc := by unfold StAt; rw [hcs]; exact k7
  have hS2 : StAt w7 w5.heap.size r2 pc2 := by unfold StAt; rw [hcs2]; exact n7
  generalize w5.heap.size = B2 at *
  have HS1 := Lib.hid hS1
  have HS2 := Lib.hid hS2
  clear hS1 hS2
  go_loopw [11, 33] (fun g i wr => ∃ k m : Nat, k ≤ 16 ∧ g = .int .i64 (cntD r r2 k : Nat) ∧ i = .int .i64 k ∧ wr = w7.drewN m) (fun _ i _ => 16 - (RowKit.intOf i).toNat)
  case atStart => exact ⟨0, 0, by omega, by simp [cntD], rfl, rfl⟩
  case round =>
    obtain ⟨k, m, hk16, rfl, rfl, rfl⟩ := hrel
    by_cases hlt : k < 16
    · have hki : (k : Int) < 16 := by omega
      have f1 : w7.cell? ⟨w.heap.size, k, none⟩ = some (.int .u64 (r.getD k 0)) := HS1.out.reg hr k hlt
      have f2 : w7.cell? ⟨B2, k, none⟩ = some (.int .u64 (r2.getD k 0)) := HS2.out.reg hr2 k hlt
      have HCS := Lib.hid (cntD_succ r r2 k)
      have hcl := cntD_le r r2 k
      generalize r.getD k 0 = xa at *
      generalize r2.getD k 0 = xb at *
      generalize cntD r r2 k = c at *
      by_cases hne : xb = xa
      · subst hne
        have hnb : (xb != xb) = false := by simp
        go_wp2_with fail
        go_quiet (fail)
        go_wp2
        exact ⟨⟨k + 1, _, by omega, by rw [HCS.out, if_neg (by simp), Nat.add_zero], by go_num, rfl⟩, by simp only [RowKit.intOf]; omega⟩
      · have hnb : (xb != xa) = true := by simpa using hne
        go_wp2_with fail
        go_quiet (fail)
        go_wp2
        exact ⟨⟨k + 1, _, by omega, by rw [HCS.out, if_pos hne]; go_num, by go_num, rfl⟩, by simp only [RowKit.intOf]; omega⟩
    · obtain rfl : k = 16 := by omega
      rw [show (((16 : Nat)) : Int) = 16 from rfl]
      obtain ⟨S1, hS1⟩ : ∃ S : ByteArray, (⟨d.toArray⟩ : ByteArray) = S := ⟨_, rfl⟩
      obtain ⟨S2, hS2⟩ : ∃ S : ByteArray, (⟨d2.toArray⟩ : ByteArray) = S := ⟨_, rfl⟩
      have g1 : S1.size = d.length := by rw [← hS1]; show d.toArray.size = _; simp
      have g2 : S2.size = d.length := by rw [← hS2]; show d2.toArray.size = _; simp; exact hdl
      have G1 : Hid (∀ j (h : j < S1.size), S1[j] = d.getD j 0) := fun j h => by
        have hj : j < d.length := by omega
        subst hS1
        show d.toArray[j] = _
        rw [List.getElem_toArray, List.getD_eq_getElem?_getD, List.getElem?_eq_getElem hj]; rfl
      have G2 : Hid (∀ j (h : j < S2.size), S2[j] = d2.getD j 0) := fun j h => by
        have hj : j < d2.length := by omega
        subst hS2
        show d2.toArray[j] = _
        rw [List.getElem_toArray, List.getD_eq_getElem?_getD, List.getElem?_eq_getElem hj]; rfl
      rw [hS1, hS2]
      clear hS1 hS2
      generalize hcc : cntD r r2 16 = c
      have HCC := Lib.hid hcc
      clear hcc
      go_wp2_with fail
      go_loopw [12, 13, 15] (fun f l i wr => ∃ (k j : Nat) (fi la : Int), k ≤ d.length ∧ f = .int .i64 fi ∧ l = .int .i64 la ∧ i = .int .i64 k ∧ Ends d d2 k fi la ∧ wr = w7.drewN j) (fun _ _ i _ => (d.length - RowKit.intOf i).toNat)
      case atStart => exact ⟨0, m, -1, -1, by omega, rfl, rfl, rfl, .inl ⟨rfl, rfl, fun j hj => by omega⟩, rfl⟩
      case round =>
        obtain ⟨k, j, fi, la, hkd, rfl, rfl, rfl, hE, rfl⟩ := hrel
        by_cases hlt2 : k < d.length
        · have hki : (k : Int) < (d.length : Int) := by omega
          have hk1 : (k : Int) < (S1.size : Int) := by omega
          have hk2 : (k : Int) < (S2.size : Int) := by omega
          have hk3 : k < S1.size := by omega
          have hk4 : k < S2.size := by omega
          have HE := Lib.hid hE.step
          have a1 := G1.out k hk3
          have a2 := G2.out k hk4
          rw [← a1, ← a2] at HE
          have hfi : -1 ≤ fi ∧ fi < 9223372036854775807 := by rcases hE with ⟨h1, _, _⟩ | ⟨a, b, h1, _, h3, _⟩ <;> omega
          clear hE a1 a2
          by_cases hne : S1[k] = S2[k]
          · have hnb : (((S1[k].toNat : Nat) : Int) != ((S2[k].toNat : Nat) : Int)) = false := by rw [hne]; simp
            have HE2 : Hid (Ends d d2 (k + 1) fi la) := by have := HE.out; rw [if_pos hne, if_pos hne] at this; exact this
            clear HE
            go_wp2_with fail
            go_quiet (fail)
            go_wp2
            exact ⟨⟨k + 1, _, fi, la, by omega, rfl, rfl, by go_num, HE2.out, rfl⟩, by simp only [RowKit.intOf]; omega⟩
          · have hnb : (((S1[k].toNat : Nat) : Int) != ((S2[k].toNat : Nat) : Int)) = true := by
              simp only [bne_iff_ne, ne_eq, Int.natCast_inj]; exact fun h => hne (UInt8.toNat_inj.1 h)
            by_cases hf : fi < 0
            · have HE2 : Hid (Ends d d2 (k + 1) k k) := by have := HE.out; rw [if_neg hne, if_neg hne, if_pos hf] at this; exact this
              clear HE
              go_wp2_with fail
              go_quiet (fail)
              go_wp2
              exact ⟨⟨k + 1, _, k, k, by omega, rfl, rfl, by go_num, HE2.out, rfl⟩, by simp only [RowKit.intOf]; omega⟩
            · have HE2 : Hid (Ends d d2 (k + 1) fi k) := by have := HE.out; rw [if_neg hne, if_neg hne, if_neg hf] at this; exact this
              clear HE
              go_wp2_with fail
              go_quiet (fail)
              go_wp2
              go_roundw
              case rel => exact ⟨k + 1, _, fi, k, by omega, rfl, rfl, by go_num, HE2.out, rfl⟩
              case measure => simp only [RowKit.intOf]; omega
        · obtain rfl : k = d.length := by omega
          have HP : Hid (∀ n' : Nat, Below w.heap.size w (w7.drewN n')) := fun n' => ⟨q7.os, q7.tape, q7.output, q7.size, q7.block⟩
          have HES := Lib.hid (eq_st16 hr hcs)
          have HPC := Lib.hid (st_pc16 hr hcs)
          have hkk : ¬ (d.length : Int) < (d.length : Int) := by omega
          have hkS : ¬ (d.length : Int) < (S1.size : Int) := by omega
          have ka : (w7.drewN j).heap[w.heap.size]? = some (.cells cs 25 (0, 0)) := k7
          have kb : (w7.drewN j).heap[B2]? = some (.cells cs2 25 (0, 0)) := n7
          have hE2 := Lib.hid hE
          clear hE k7 n7
          rcases hshp with ⟨wh, hwh, hx⟩ | hx | ⟨kk, y, pc', hx⟩ | ⟨pc', ad, sl, hsl, hx⟩ | ⟨pc', hx⟩
          · obtain ⟨rfl, rfl, rfl, rfl⟩ : r2 = r ∧ pc2 = pc ∧ d2 = d ∧ what = wh := by simpa using hx
            obtain ⟨rfl, rfl⟩ := hE2.out.same
            obtain rfl : cs2 = cs := hcs2.symm.trans hcs
            rcases hwh with rfl | rfl | rfl
            all_goals
              obtain rfl : ran = 0 := hran.symm
              have heq := HES.out (w7.drewN j)
              have hpc := HPC.out
              go_wp2_with (first
                | (refine wpList_load_rowW rfl 25 _ rfl w.heap.size rfl 25 _ (0, 0) _ ka Try.underlying25 rfl hsz ?_)
                | (refine wpList_load_rowW rfl 25 _ rfl B2 rfl 25 _ (0, 0) _ kb Try.underlying25 rfl hsz ?_))
              go_ret
              exact ⟨rfl, HP.out _⟩
          · obtain ⟨rfl, rfl, rfl, rfl⟩ : r2 = r ∧ pc2 = nxI pc ∧ d2 = d ∧ what = 1 := by simpa using hx
            obtain ⟨rfl, rfl⟩ := hE2.out.same
            obtain rfl : c = 0 := by rw [← HCC.out, cntD_same]
            obtain rfl : ran = 0 := hran.symm
            have fa : (w7.drewN j).cell? ⟨B2, 16, none⟩ = some (.int .u64 (IntKind.u64.wrap (pc + 4))) := show w7.cell? _ = _ from HS2.out.pc hr2
            have fb : (w7.drewN j).cell? ⟨w.heap.size, 16, none⟩ = some (.int .u64 pc) := show w7.cell? _ = _ from HS1.out.pc hr
            go_wp2
            go_ret
            exact ⟨rfl, HP.out _⟩
          · obtain ⟨rfl, rfl, rfl, rfl⟩ : r2 = r.set kk y ∧ pc2 = pc' ∧ d2 = d ∧ what = 0 := by simpa using hx
            obtain ⟨rfl, rfl⟩ := hE2.out.same
            have hc1 : c ≤ 1 := by rw [← HCC.out]; exact cntD_set _ _ _ _
            obtain rfl : ran = 1 := hran.symm
            rcases (show c = 0 ∨ c = 1 by omega) with rfl | rfl
            · go_wp2
              go_ret
              exact ⟨rfl, HP.out _⟩
            · go_wp2
              go_ret
              exact ⟨rfl, HP.out _⟩
          · obtain ⟨rfl, rfl, rfl, rfl⟩ : r2 = r ∧ pc2 = pc' ∧ d2 = over d ad sl ∧ what = 0 := by simpa using hx
            have hnear := hE2.out.near hsl (Nat.le_refl _)
            have hrg : -1 ≤ fi ∧ fi ≤ 4096 ∧ -1 ≤ la ∧ la ≤ 4096 := by rcases hE2.out with ⟨h1, h2, _⟩ | ⟨a, b, h1, h2, h3, h4, _⟩ <;> omega
            obtain rfl : c = 0 := by rw [← HCC.out, cntD_same]
            obtain rfl : ran = 1 := hran.symm
            go_wp2
            go_ret
            exact ⟨rfl, HP.out _⟩
          · obtain ⟨rfl, rfl, rfl, rfl⟩ : r2 = r ∧ pc2 = pc' ∧ d2 = d ∧ what = 0 := by simpa using hx
            obtain ⟨rfl, rfl⟩ := hE2.out.same
            obtain rfl : c = 0 := by rw [← HCC.out, cntD_same]
            obtain rfl : ran = 1 := hran.symm
            go_wp2
            go_ret
            exact ⟨rfl, HP.out _⟩
end Go.Proofs.Ytmmejicmjalibaa
