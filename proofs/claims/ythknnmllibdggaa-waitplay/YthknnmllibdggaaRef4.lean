/- What Wake and Close of the reference do. -/
import Derived.Test.YthknnmllibdggaaRef3
namespace Go.Proofs.Ythknnmllibdggaa
open Go.RowKit Go.Sort
theorem dropF_eq : ∀ {l : List Who} {t : Int}, (l.map (·.1)).Nodup → dropF l t = dropT t l
  | [], _, _ => rfl
  | x :: l, t, h => by
    obtain ⟨h1, h2⟩ := List.nodup_cons.1 h
    unfold dropF
    by_cases e : x.1 = t
    · rw [if_pos e]
      have h3 : dropT t l = l := dropT_no (fun y hy e' => h1 (List.mem_map.2 ⟨y, hy, by show y.1 = x.1; rw [e', e]⟩))
      have h4 : dropT t (x :: l) = dropT t l := by unfold dropT; rw [List.filter_cons]; simp [e]
      rw [h4, h3]
    · rw [if_neg e, dropF_eq h2]
      have h4 : dropT t (x :: l) = x :: dropT t l := by unfold dropT; rw [List.filter_cons]; simp [e]
      rw [h4]
theorem nd_dropL {l : List Who} (h : (l.map (·.1)).Nodup) (g : List Int) : ((dropL g l).map (·.1)).Nodup := h.sublist (List.Sublist.map _ (List.filter_sublist ..))
theorem nd_dropT {l : List Who} (h : (l.map (·.1)).Nodup) (t : Int) : ((dropT t l).map (·.1)).Nodup := h.sublist (List.Sublist.map _ (List.filter_sublist ..))
theorem dropL_len (g : List Int) (l : List Who) : (dropL g l).length ≤ l.length := List.length_filter_le _ _
theorem dropT_len (t : Int) (l : List Who) : (dropT t l).length ≤ l.length := List.length_filter_le _ _
/-- The reference and a row of numbers. -/
structure Rr (w wr : World) (qb : Nat) (G : Nat → Prop) (ra rl : List Who) (N : Nat) (v : Value) (g : List Int) : Prop where
  nr : Nr w wr qb G ra rl N
  row : wr.ownsRow w.heap.size 3 1 v g.length (ivs g)
theorem Rr.step {w wr w3 : World} {qb N : Nat} {G : Nat → Prop} {ra rl : List Who} {v v3 : Value} {g : List Int} {t : Int} (h : Rr w wr qb G ra rl N v g) (hb : Below wr.heap.size wr w3) (hv : OR w3 wr.heap.size v3 (dropF ra t)) : Rr w (w3.setCell ⟨qb, 0, none⟩ v3) qb G (dropT t ra) rl N v g := by
  have hn : (ra.map (·.1)).Nodup := by obtain ⟨_, h1, _⟩ := h.nr; exact h1.nd
  have hl : ra.length ≤ N := by obtain ⟨_, h1, _⟩ := h.nr; exact h1.lenA
  rw [dropF_eq hn] at hv
  refine ⟨h.nr.trans (fun G' h1 _ => h1.setA hb hv (nd_dropT hn t) (Nat.le_trans (dropT_len t ra) hl) (Nat.le_refl _)), ?_⟩
  obtain ⟨G1, h1, _⟩ := h.nr
  obtain ⟨v1, v2, hq, _⟩ := (h1.below hb).rows
  have hr3 := row_same h.row (fun k hk => hb.block k (h.row.lt k hk).2)
  exact row_same hr3 (fun k hk => heap_ne _ _ _ (fun e => row_ne hr3 hq (by decide) (by rw [hk, e])))
set_option maxRecDepth 100000 in
set_option maxHeartbeats 4000000 in
theorem rWake_any (w : World) (qb : Nat) (G : Nat → Prop) (ra rl : List Who) (N : Nat) (s o : Int) (h : RFx w qb G ra rl N) (hN : N < 900000) :
    Calls Try.prog 31 #[pv qb, .int .i64 s, .int .i64 o] w fun e w' => ∃ v, e = .returned v ∧ Rr w w' qb G (dropL (listA ra s o) ra) rl N v (listA ra s o) := by
  have HH := Lib.hid h
  have HL := Lib.hid (rList_any w qb G ra rl N s o h hN)
  have hl1 := h.lenA
  have hll := listA_len ra s o
  clear h
  go_enter Try.func31, Try.ntmps31
  go_wp2_with (go_at_call 37; refine HL.out.mono ?_; rintro e w2 ⟨v2, rfl, hr2, hb2⟩; obtain ⟨sp2, cp2, rfl⟩ := row_form hr2; have HR2 := Lib.hid hr2; have HB2 := Lib.hid hb2; clear hr2 hb2)
  obtain ⟨gl, hgl⟩ : ∃ gl, listA ra s o = gl := ⟨_, rfl⟩
  rw [hgl] at HR2 hll ⊢
  have HGL := Lib.hid hgl
  clear hgl HL
  have HS : Hid (Rr w w2 qb G ra rl N (.slice sp2 gl.length cp2) gl) := ⟨Nr.still HH.out HB2.out (Nat.le_refl _), HR2.out⟩
  go_loopw [16] (fun y wr => ∃ j : Nat, y = .int .i64 j ∧ j ≤ gl.length ∧ Rr w wr qb G (dropL (gl.take j) ra) rl N (.slice sp2 gl.length cp2) gl) (fun y _ => (gl.length - (RowKit.intOf y).toNat))
  case atStart => exact ⟨0, rfl, Nat.zero_le _, by rw [List.take_zero, dropL_nil]; exact HS.out⟩
  case round =>
    clear HS
    obtain ⟨j, rfl, hj, hrr⟩ := hrel
    by_cases hjl : j < gl.length
    · have hji : (j : Int) < (gl.length : Int) := by omega
      obtain ⟨gg, og, hsp, cg⟩ := (row_ints hrr.row).at_ (Below.refl _ _) hjl
      have HSN := Lib.hid (dropL_snoc (gl.take j) gl[j] ra)
      rw [← List.take_succ_eq_append_getElem hjl] at HSN
      obtain ⟨t, htt⟩ : ∃ t, gl[j] = t := ⟨_, rfl⟩
      simp only [htt] at cg HSN
      clear htt
      obtain ⟨DL, hDL⟩ : ∃ DL, dropL (gl.take j) ra = DL := ⟨_, rfl⟩
      rw [hDL] at hrr HSN
      clear hDL
      obtain ⟨G1, h1, h2, h3, h4⟩ := hrr.nr
      obtain ⟨v1, v2, hq, ho1, _, _, _⟩ := h1.rows
      have hlD := h1.lenA
      have q0 : wr.cell? ⟨qb, 0, none⟩ = some v1 := by rw [cell_of_row _ _ _ _ _ _ hq]; rfl
      have HD := Lib.hid (rdrop_any wr 0 v1 DL t ho1 (by omega))
      have HRR := Lib.hid hrr
      have HQ := Lib.hid hq
      subst hsp
      obtain ⟨sp1, cp1, rfl⟩ := row_form ho1
      clear hrr h1 h2 h3 h4 ho1 hq
      go_wp2_with (go_at_call 53; refine HD.out.mono ?_; rintro e w3 ⟨v3, rfl, hr3, hb3⟩; obtain ⟨sp3, cp3, rfl⟩ := row_form hr3; have hq3 := (hb3.block _ (heap_lt HQ.out)).trans HQ.out; have y0 : w3.cell? ⟨qb, 0, none⟩ = some _ := (by rw [cell_of_row _ _ _ _ _ _ hq3]; rfl); have y1 : w3.frozen? ⟨qb, 0, none⟩ = false := (by simp [World.frozen?, hq3]); have HRW3 := Lib.hid hr3; have HB3 := Lib.hid hb3; clear hq3 hr3 hb3)
      go_roundw
      case rel => exact ⟨j + 1, by go_num, by omega, by rw [HSN.out]; exact HRR.out.step HB3.out HRW3.out⟩
      case measure => simp [RowKit.intOf]; omega
    · obtain rfl : j = gl.length := by omega
      have hjj : ¬ (gl.length : Int) < (gl.length : Int) := by omega
      rw [List.take_length] at hrr
      have HRR := Lib.hid hrr
      clear hrr
      go_wp2_with fail
      go_ret
      exact ⟨_, rfl, by rw [HGL.out]; exact HRR.out⟩
set_option maxRecDepth 100000 in
set_option maxHeartbeats 4000000 in
theorem rClose_any (w : World) (qb : Nat) (G : Nat → Prop) (ra rl : List Who) (N : Nat) (s : Int) (h : RFx w qb G ra rl N) (hN : N < 900000) :
    Calls Try.prog 34 #[pv qb, .int .i64 s] w fun e w' => ∃ v, e = .returned v ∧ Rr w w' qb G (dropL (segA ra s) ra) rl N v (segA ra s) := by
  have HH := Lib.hid h
  obtain ⟨i0, hi, hz0, hz1, hz2⟩ := info_parts intInfo
  obtain ⟨v1, v2, hq, ho1, ho2, _, _⟩ := h.rows
  have hl1 := h.lenA
  have hl2 := h.lenL
  obtain ⟨sp1, cp1, rfl⟩ := row_form ho1
  obtain ⟨sp2, cp2, rfl⟩ := row_form ho2
  have q0 : (w.alloc (.cells #[] 3)).cell? ⟨qb, 0, none⟩ = some (.slice sp1 ra.length cp1) := (((Below.refl w.heap.size w).alloc (Nat.le_refl _) _).cell (p := ⟨qb, 0, none⟩) (heap_lt hq)).trans (by rw [cell_of_row _ _ _ _ _ _ hq]; rfl)
  have q1 : (w.alloc (.cells #[] 3)).cell? ⟨qb, 1, none⟩ = some (.slice sp2 rl.length cp2) := (((Below.refl w.heap.size w).alloc (Nat.le_refl _) _).cell (p := ⟨qb, 1, none⟩) (heap_lt hq)).trans (by rw [cell_of_row _ _ _ _ _ _ hq]; rfl)
  have hr0 : (w.alloc (.cells #[] 3)).ownsRow w.heap.size 3 1 (.slice (some ⟨w.heap.size, 0, none⟩) 0 0) 0 [] := World.ownsRow_lit (base := w.heap.size) (e := 3) (size := 1) w #[] 0 (Nat.le_refl _) (by decide) rfl
  have hb0 : Below w.heap.size w (w.alloc (.cells #[] 3)) := (Below.refl _ _).alloc (Nat.le_refl _) _
  have HR0 := Lib.hid hr0
  have HB0 := Lib.hid hb0
  have HR := Lib.hid ho1
  clear h hr0 hb0 hq ho1 ho2
  go_enter Try.func34, Try.ntmps34
  go_wp2_with fail
  go_loopw [5, 16] (fun v y wr => ∃ k : Nat, y = .int .i64 k ∧ k ≤ ra.length ∧ wr.ownsRow w.heap.size 3 1 v (selL (fun x => x.2.1 == s) (fun x => x.1) (ra.take k)).length (ivs (selL (fun x => x.2.1 == s) (fun x => x.1) (ra.take k))) ∧ Below w.heap.size w wr) (fun _ y _ => (ra.length - (RowKit.intOf y).toNat))
  case atStart => exact ⟨0, rfl, Nat.zero_le _, HR0.out, HB0.out⟩
  case round =>
    clear HR0 HB0
    obtain ⟨k, rfl, hk, hrw, hbw⟩ := hrel
    obtain ⟨sp7, cap7, rfl⟩ := row_form hrw
    have hbz := hbw.size
    have hln := selL_len (fun x => x.2.1 == s) (fun x => x.1) (ra.take k)
    rw [List.length_take] at hln
    by_cases hkl : k < ra.length
    · have hki : (k : Int) < (ra.length : Int) := by omega
      obtain ⟨g2, rfl, hg2, c0, c1, c2⟩ := HR.out.at_ hbw hkl
      have HSN := Lib.hid (selL_snoc (fun x => x.2.1 == s) (fun x => x.1) (ra.take k) ra[k])
      rw [← List.take_succ_eq_append_getElem hkl] at HSN
      obtain ⟨x, hx⟩ : ∃ x, ra[k] = x := ⟨_, rfl⟩
      simp only [hx] at c0 c1 c2 HSN
      obtain ⟨x1, x2, x3⟩ := x
      simp only at c0 c1 c2 HSN
      clear hx
      obtain ⟨D, hD⟩ : ∃ D, selL (fun x => x.2.1 == s) (fun x => x.1) (ra.take k) = D := ⟨_, rfl⟩
      rw [hD] at hrw HSN hln ⊢
      clear hD
      obtain ⟨W1, hW1⟩ : ∃ W1, wr.alloc (.cells #[.int .i64 x1, .int .i64 x2, .int .i64 x3] 84) = W1 := ⟨_, rfl⟩
      have b1 : Below wr.heap.size wr W1 := by rw [← hW1]; exact (Below.refl _ _).alloc (Nat.le_refl _) _
      have hO1 : W1.heap[wr.heap.size]? = some (.cells #[.int .i64 x1, .int .i64 x2, .int .i64 x3] 84 (0, 0)) := by rw [← hW1]; exact heap_new _ _
      have hrw1 := row_same hrw (fun k hk => b1.block k (hrw.lt k hk).2)
      have hz1' := b1.size
      have d0 : W1.cell? ⟨wr.heap.size, 0, none⟩ = some (.int .i64 x1) := by rw [cell_of_row _ _ _ _ _ _ hO1]; rfl
      have d1 : W1.cell? ⟨wr.heap.size, 1, none⟩ = some (.int .i64 x2) := by rw [cell_of_row _ _ _ _ _ _ hO1]; rfl
      have d2 : W1.cell? ⟨wr.heap.size, 2, none⟩ = some (.int .i64 x3) := by rw [cell_of_row _ _ _ _ _ _ hO1]; rfl
      have HRW := Lib.hid hrw1
      have HBW := Lib.hid (hbw.trans (b1.mono hbw.size))
      have HRA := Lib.hid (hrw1.alloc (.cells #[.int .i64 x1] 3))
      have HNw : Hid (∀ j u, ([.int .i64 x1] : List Value)[j]? = some u → (W1.alloc (.cells #[.int .i64 x1] 3)).cell? ((⟨W1.heap.size, 0, none⟩ : Addr).add j) = some u) := cell_one_new _ _ _
      have HOn : Hid (∀ u ∈ ([.int .i64 x1] : List Value), u.oneCell' = true) := fun u hu => by simp at hu; rcases hu with rfl; rfl
      clear hrw hbw hrw1 b1 hO1
      by_cases hc : x2 = s
      · have h1 : (x2 == s) = true := by simp [hc]
        clear hc
        go_wp2_with (at_builtin; refine wpList_append_own_at _ rfl _ _ 37 rfl w.heap.size 3 i0 (.int .i64 0) 1 8 (by kernel_rfl) hi hz0 hz1 hz2 rfl (by decide) _ _ _ rfl HRA.out ⟨W1.heap.size, 0, none⟩ 1 1 [.int .i64 x1] rfl rfl HNw.out HOn.out (by show _ ≤ 2 ^ 63 - 1; omega) (by omega) (by simp; omega) ?_; intro v' w7 hown7 hgrow7 hnil7 hat7; clear hnil7 hat7; have HO7 := Lib.hid hown7; have HG7 := Lib.hid hgrow7; clear hown7 hgrow7)
        go_roundw
        case rel =>
          refine ⟨k + 1, by go_num, by omega, ?_, ?_⟩
          · rw [show selL (fun x => x.2.1 == s) (fun x => x.1) (ra.take (k + 1)) = D ++ [x1] from HSN.out.trans (if_pos h1), List.length_append, show ivs (D ++ [x1]) = ivs D ++ [.int .i64 x1] from by unfold ivs; rw [List.map_append]; rfl]
            exact HO7.out
          · exact Below.grown (HBW.out.alloc (by omega) _) HG7.out (by simp; omega) (fun k hk => (HRW.out.lt k hk).1)
        case measure => simp [RowKit.intOf]; omega
      · have h1 : (x2 == s) = false := by simpa using hc
        go_wp2_with fail
        go_roundw
        case rel =>
          refine ⟨k + 1, by go_num, by omega, ?_, HBW.out⟩
          rw [show selL (fun x => x.2.1 == s) (fun x => x.1) (ra.take (k + 1)) = D from HSN.out.trans (if_neg (by show ¬ _ = true; rw [h1]; simp))]
          exact HRW.out
        case measure => simp [RowKit.intOf]; omega
    · obtain rfl : k = ra.length := by omega
      have hki : ¬ (ra.length : Int) < (ra.length : Int) := by omega
      rw [List.take_length] at hrw
      rw [List.take_length]
      have HRW := Lib.hid hrw
      have HBW := Lib.hid hbw
      clear hrw hbw hln
      go_wp2_with fail
      obtain ⟨gl, hgl⟩ : ∃ gl, selL (fun x => x.2.1 == s) (fun x => x.1) ra = gl := ⟨_, rfl⟩
      have hgl' : segA ra s = gl := hgl
      have hll := segA_len ra s
      rw [hgl'] at hll
      rw [hgl] at HRW ⊢
      have HGL := Lib.hid hgl'
      clear hgl hgl'
      have HS : Hid (Rr w wr qb G ra rl N (.slice sp7 gl.length cap7) gl) := ⟨Nr.still HH.out HBW.out (Nat.le_refl _), HRW.out⟩
      go_loopw [32] (fun y wr => ∃ j : Nat, y = .int .i64 j ∧ j ≤ gl.length ∧ Rr w wr qb G (dropL (gl.take j) ra) rl N (.slice sp7 gl.length cap7) gl) (fun y _ => (gl.length - (RowKit.intOf y).toNat))
      case atStart => exact ⟨0, rfl, Nat.zero_le _, by rw [List.take_zero, dropL_nil]; exact HS.out⟩
      case round =>
        clear HS
        obtain ⟨j, rfl, hj, hrr⟩ := hrel
        by_cases hjl : j < gl.length
        · have hji : (j : Int) < (gl.length : Int) := by omega
          obtain ⟨gg, og, hsp, cg⟩ := (row_ints hrr.row).at_ (Below.refl _ _) hjl
          have HSN := Lib.hid (dropL_snoc (gl.take j) gl[j] ra)
          rw [← List.take_succ_eq_append_getElem hjl] at HSN
          obtain ⟨t, htt⟩ : ∃ t, gl[j] = t := ⟨_, rfl⟩
          simp only [htt] at cg HSN
          clear htt
          obtain ⟨DL, hDL⟩ : ∃ DL, dropL (gl.take j) ra = DL := ⟨_, rfl⟩
          rw [hDL] at hrr HSN
          clear hDL
          obtain ⟨G1, h1, h2, h3, h4⟩ := hrr.nr
          obtain ⟨v1, v2, hq, ho1, _, _, _⟩ := h1.rows
          have hlD := h1.lenA
          have q0 : wr.cell? ⟨qb, 0, none⟩ = some v1 := by rw [cell_of_row _ _ _ _ _ _ hq]; rfl
          have HD := Lib.hid (rdrop_any wr 0 v1 DL t ho1 (by omega))
          have HRR := Lib.hid hrr
          have HQ := Lib.hid hq
          subst hsp
          obtain ⟨sp1, cp1, rfl⟩ := row_form ho1
          clear hrr h1 h2 h3 h4 ho1 hq
          go_wp2_with (go_at_call 53; refine HD.out.mono ?_; rintro e w3 ⟨v3, rfl, hr3, hb3⟩; obtain ⟨sp3, cp3, rfl⟩ := row_form hr3; have hq3 := (hb3.block _ (heap_lt HQ.out)).trans HQ.out; have y0 : w3.cell? ⟨qb, 0, none⟩ = some _ := (by rw [cell_of_row _ _ _ _ _ _ hq3]; rfl); have y1 : w3.frozen? ⟨qb, 0, none⟩ = false := (by simp [World.frozen?, hq3]); have HRW3 := Lib.hid hr3; have HB3 := Lib.hid hb3; clear hq3 hr3 hb3)
          go_roundw
          case rel => exact ⟨j + 1, by go_num, by omega, by rw [HSN.out]; exact HRR.out.step HB3.out HRW3.out⟩
          case measure => simp [RowKit.intOf]; omega
        · obtain rfl : j = gl.length := by omega
          have hjj : ¬ (gl.length : Int) < (gl.length : Int) := by omega
          rw [List.take_length] at hrr
          have HRR := Lib.hid hrr
          clear hrr
          go_wp2_with fail
          go_ret
          exact ⟨_, rfl, by rw [HGL.out]; exact HRR.out⟩
end Go.Proofs.Ythknnmllibdggaa
