/- What At, Of and List of the reference answer. -/
import Derived.Test.YthknnmllibdggaaRef1
namespace Go.Proofs.Ythknnmllibdggaa
open Go.RowKit Go.Sort
structure RFx (w : World) (qb : Nat) (G : Nat → Prop) (ra rl : List Who) (N : Nat) : Prop where
  rows : ∃ v1 v2, w.heap[qb]? = some (.cells #[v1, v2] 29 (0, 0)) ∧ OR w 0 v1 ra ∧ OR w 0 v2 rl ∧ (∀ k, v1.ownBlock = some k → G k) ∧ ∀ k, v2.ownBlock = some k → G k
  gq : G qb
  nd : (ra.map (·.1)).Nodup
  lenA : ra.length ≤ N
  lenL : rl.length ≤ N
theorem RFx.same {w w' : World} {qb N : Nat} {G : Nat → Prop} {ra rl : List Who} (h : RFx w qb G ra rl N) (hs : ∀ k, k < w.heap.size → G k → w'.heap[k]? = w.heap[k]?) : RFx w' qb G ra rl N := by
  obtain ⟨⟨v1, v2, h1, h2, h3, h4, h5⟩, h6, h7, h8, h9⟩ := h
  exact ⟨⟨v1, v2, (hs _ (heap_lt h1) h6).trans h1, row_same h2 (fun k hk => hs k (h2.lt k hk).2 (h4 k hk)), row_same h3 (fun k hk => hs k (h3.lt k hk).2 (h5 k hk)), h4, h5⟩, h6, h7, h8, h9⟩
theorem RFx.below {w w' : World} {qb N : Nat} {G : Nat → Prop} {ra rl : List Who} (h : RFx w qb G ra rl N) (hb : Below w.heap.size w w') : RFx w' qb G ra rl N := h.same (fun k hk _ => hb.block k hk)
def selL (p : Who → Bool) (f : Who → Int) (l : List Who) : List Int := (l.filter p).map f
theorem selL_snoc (p : Who → Bool) (f : Who → Int) (l : List Who) (x : Who) : selL p f (l ++ [x]) = if p x = true then selL p f l ++ [f x] else selL p f l := by
  unfold selL
  rw [List.filter_append, List.map_append, List.filter_cons, List.filter_nil]
  split
  · rfl
  · simp
theorem selL_len (p : Who → Bool) (f : Who → Int) (l : List Who) : (selL p f l).length ≤ l.length := by
  unfold selL; rw [List.length_map]; exact List.length_filter_le _ _
def ofL (rl : List Who) (t : Int) : List Int := selL (fun x => x.1 == t) (fun x => x.2.2) rl
set_option maxRecDepth 100000 in
set_option maxHeartbeats 4000000 in
theorem rOf_any (w : World) (qb : Nat) (G : Nat → Prop) (ra rl : List Who) (N : Nat) (t : Int) (h : RFx w qb G ra rl N) (hN : N < 900000) :
    Calls Try.prog 38 #[pv qb, .int .i64 t] w fun e w' => ∃ v, e = .returned v ∧ NewRow w w' v (ofL rl t) ∧ Below w.heap.size w w' := by
  obtain ⟨i0, hi, hz0, hz1, hz2⟩ := info_parts intInfo
  obtain ⟨v1, v2, hq, ho1, ho2, _, _⟩ := h.rows
  have hl1 := h.lenA
  have hl2 := h.lenL
  obtain ⟨sp1, cp1, rfl⟩ := row_form ho1
  obtain ⟨sp2, cp2, rfl⟩ := row_form ho2
  have q0 : (w.alloc (.cells #[] 3)).cell? ⟨qb, 0, none⟩ = some (.slice sp1 ra.length cp1) := (((Below.refl w.heap.size w).alloc (Nat.le_refl _) _).cell (p := ⟨qb, 0, none⟩) (heap_lt hq)).trans (by rw [cell_of_row _ _ _ _ _ _ hq]; rfl)
  have q1 : (w.alloc (.cells #[] 3)).cell? ⟨qb, 1, none⟩ = some (.slice sp2 rl.length cp2) := (((Below.refl w.heap.size w).alloc (Nat.le_refl _) _).cell (p := ⟨qb, 1, none⟩) (heap_lt hq)).trans (by rw [cell_of_row _ _ _ _ _ _ hq]; rfl)
  have hr0 : (w.alloc (.cells #[] 3)).ownsRow w.heap.size 3 1 (.slice (some ⟨w.heap.size, 0, none⟩) 0 0) 0 [] := World.ownsRow_lit (base := w.heap.size) (e := 3) (size := 1) w #[] 0 (Nat.le_refl _) (by decide) rfl
  have hb0 : Below w.heap.size w (w.alloc (.cells #[] 3)) := (Below.refl _ _).alloc (Nat.le_refl _) _
  have HR0 := Lib.hid hr0
  have HB0 := Lib.hid hb0
  have HR := Lib.hid ho2
  clear h hr0 hb0 hq ho1 ho2
  go_enter Try.func38, Try.ntmps38
  go_wp2_with fail
  go_loopw [5, 14] (fun v y wr => ∃ k : Nat, y = .int .i64 k ∧ k ≤ rl.length ∧ wr.ownsRow w.heap.size 3 1 v (selL (fun x => x.1 == t) (fun x => x.2.2) (rl.take k)).length (ivs (selL (fun x => x.1 == t) (fun x => x.2.2) (rl.take k))) ∧ Below w.heap.size w wr) (fun _ y _ => (rl.length - (RowKit.intOf y).toNat))
  case atStart => exact ⟨0, rfl, Nat.zero_le _, HR0.out, HB0.out⟩
  case round =>
    clear HR0 HB0
    obtain ⟨k, rfl, hk, hrw, hbw⟩ := hrel
    obtain ⟨sp7, cap7, rfl⟩ := row_form hrw
    have hbz := hbw.size
    have hln := selL_len (fun x => x.1 == t) (fun x => x.2.2) (rl.take k)
    rw [List.length_take] at hln
    by_cases hkl : k < rl.length
    · have hki : (k : Int) < (rl.length : Int) := by omega
      obtain ⟨g2, rfl, hg2, c0, c1, c2⟩ := HR.out.at_ hbw hkl
      have HSN := Lib.hid (selL_snoc (fun x => x.1 == t) (fun x => x.2.2) (rl.take k) rl[k])
      rw [← List.take_succ_eq_append_getElem hkl] at HSN
      obtain ⟨x, hx⟩ : ∃ x, rl[k] = x := ⟨_, rfl⟩
      simp only [hx] at c0 c1 c2 HSN
      obtain ⟨x1, x2, x3⟩ := x
      simp only at c0 c1 c2 HSN
      clear hx
      obtain ⟨D, hD⟩ : ∃ D, selL (fun x => x.1 == t) (fun x => x.2.2) (rl.take k) = D := ⟨_, rfl⟩
      rw [hD] at hrw HSN hln ⊢
      clear hD
      obtain ⟨W1, hW1⟩ : ∃ W1, wr.alloc (.cells #[.int .i64 x1, .int .i64 x2, .int .i64 x3] 84) = W1 := ⟨_, rfl⟩
      have b1 : Below wr.heap.size wr W1 := by rw [← hW1]; exact (Below.refl _ _).alloc (Nat.le_refl _) _
      have hO1 : W1.heap[wr.heap.size]? = some (.cells #[.int .i64 x1, .int .i64 x2, .int .i64 x3] 84 (0, 0)) := by rw [← hW1]; exact heap_new _ _
      have hrw1 := row_same hrw (fun k hk => b1.block k (hrw.lt k hk).2)
      have hz1' := b1.size
      have d0 : W1.cell? ⟨wr.heap.size, 0, none⟩ = some (.int .i64 x1) := by rw [cell_of_row _ _ _ _ _ _ hO1]; rfl
      have d1 : W1.cell? ⟨wr.heap.size, 1, none⟩ = some (.int .i64 x2) := by rw [cell_of_row _ _ _ _ _ _ hO1]; rfl
      have d2 : W1.cell? ⟨wr.heap.size, 2, none⟩ = some (.int .i64 x3) := by rw [cell_of_row _ _ _ _ _ _ hO1]; rfl
      have HRW := Lib.hid hrw1
      have HBW := Lib.hid (hbw.trans (b1.mono hbw.size))
      have HRA := Lib.hid (hrw1.alloc (.cells #[.int .i64 x3] 3))
      have HNw : Hid (∀ j u, ([.int .i64 x3] : List Value)[j]? = some u → (W1.alloc (.cells #[.int .i64 x3] 3)).cell? ((⟨W1.heap.size, 0, none⟩ : Addr).add j) = some u) := cell_one_new _ _ _
      have HOn : Hid (∀ u ∈ ([.int .i64 x3] : List Value), u.oneCell' = true) := fun u hu => by simp at hu; rcases hu with rfl; rfl
      clear hrw hbw hrw1 b1 hO1
      by_cases hc : x1 = t
      · have h1 : (x1 == t) = true := by simp [hc]
        clear hc
        go_wp2_with (at_builtin; refine wpList_append_own_at _ rfl _ _ 37 rfl w.heap.size 3 i0 (.int .i64 0) 1 8 (by kernel_rfl) hi hz0 hz1 hz2 rfl (by decide) _ _ _ rfl HRA.out ⟨W1.heap.size, 0, none⟩ 1 1 [.int .i64 x3] rfl rfl HNw.out HOn.out (by show _ ≤ 2 ^ 63 - 1; omega) (by omega) (by simp; omega) ?_; intro v' w7 hown7 hgrow7 hnil7 hat7; clear hnil7 hat7; have HO7 := Lib.hid hown7; have HG7 := Lib.hid hgrow7; clear hown7 hgrow7)
        go_roundw
        case rel =>
          refine ⟨k + 1, by go_num, by omega, ?_, ?_⟩
          · rw [show selL (fun x => x.1 == t) (fun x => x.2.2) (rl.take (k + 1)) = D ++ [x3] from HSN.out.trans (if_pos h1), List.length_append, show ivs (D ++ [x3]) = ivs D ++ [.int .i64 x3] from by unfold ivs; rw [List.map_append]; rfl]
            exact HO7.out
          · exact Below.grown (HBW.out.alloc (by omega) _) HG7.out (by simp; omega) (fun k hk => (HRW.out.lt k hk).1)
        case measure => simp [RowKit.intOf]; omega
      · have h1 : (x1 == t) = false := by simpa using hc
        go_wp2_with fail
        go_roundw
        case rel =>
          refine ⟨k + 1, by go_num, by omega, ?_, HBW.out⟩
          rw [show selL (fun x => x.1 == t) (fun x => x.2.2) (rl.take (k + 1)) = D from HSN.out.trans (if_neg (by show ¬ _ = true; rw [h1]; simp))]
          exact HRW.out
        case measure => simp [RowKit.intOf]; omega
    · obtain rfl : k = rl.length := by omega
      have hki : ¬ (rl.length : Int) < (rl.length : Int) := by omega
      rw [List.take_length] at hrw
      rw [List.take_length]
      have HRW := Lib.hid hrw
      have HBW := Lib.hid hbw
      clear hrw hbw hln
      go_wp2_with fail
      go_ret
      exact ⟨_, rfl, HRW.out, HBW.out⟩
set_option maxRecDepth 100000 in
set_option maxHeartbeats 4000000 in
theorem rList_any (w : World) (qb : Nat) (G : Nat → Prop) (ra rl : List Who) (N : Nat) (s o : Int) (h : RFx w qb G ra rl N) (hN : N < 900000) :
    Calls Try.prog 37 #[pv qb, .int .i64 s, .int .i64 o] w fun e w' => ∃ v, e = .returned v ∧ NewRow w w' v (listA ra s o) ∧ Below w.heap.size w w' := by
  obtain ⟨i0, hi, hz0, hz1, hz2⟩ := info_parts intInfo
  obtain ⟨v1, v2, hq, ho1, ho2, _, _⟩ := h.rows
  have hl1 := h.lenA
  have hl2 := h.lenL
  obtain ⟨sp1, cp1, rfl⟩ := row_form ho1
  obtain ⟨sp2, cp2, rfl⟩ := row_form ho2
  have q0 : (w.alloc (.cells #[] 3)).cell? ⟨qb, 0, none⟩ = some (.slice sp1 ra.length cp1) := (((Below.refl w.heap.size w).alloc (Nat.le_refl _) _).cell (p := ⟨qb, 0, none⟩) (heap_lt hq)).trans (by rw [cell_of_row _ _ _ _ _ _ hq]; rfl)
  have q1 : (w.alloc (.cells #[] 3)).cell? ⟨qb, 1, none⟩ = some (.slice sp2 rl.length cp2) := (((Below.refl w.heap.size w).alloc (Nat.le_refl _) _).cell (p := ⟨qb, 1, none⟩) (heap_lt hq)).trans (by rw [cell_of_row _ _ _ _ _ _ hq]; rfl)
  have hr0 : (w.alloc (.cells #[] 3)).ownsRow w.heap.size 3 1 (.slice (some ⟨w.heap.size, 0, none⟩) 0 0) 0 [] := World.ownsRow_lit (base := w.heap.size) (e := 3) (size := 1) w #[] 0 (Nat.le_refl _) (by decide) rfl
  have hb0 : Below w.heap.size w (w.alloc (.cells #[] 3)) := (Below.refl _ _).alloc (Nat.le_refl _) _
  have HR0 := Lib.hid hr0
  have HB0 := Lib.hid hb0
  have HR := Lib.hid ho1
  clear h hr0 hb0 hq ho1 ho2
  go_enter Try.func37, Try.ntmps37
  go_wp2_with fail
  go_loopw [7, 16] (fun v y wr => ∃ k : Nat, y = .int .i64 k ∧ k ≤ ra.length ∧ wr.ownsRow w.heap.size 3 1 v (selL (fun x => x.2.1 == s && x.2.2 == o) (fun x => x.1) (ra.take k)).length (ivs (selL (fun x => x.2.1 == s && x.2.2 == o) (fun x => x.1) (ra.take k))) ∧ Below w.heap.size w wr) (fun _ y _ => (ra.length - (RowKit.intOf y).toNat))
  case atStart => exact ⟨0, rfl, Nat.zero_le _, HR0.out, HB0.out⟩
  case round =>
    clear HR0 HB0
    obtain ⟨k, rfl, hk, hrw, hbw⟩ := hrel
    obtain ⟨sp7, cap7, rfl⟩ := row_form hrw
    have hbz := hbw.size
    have hln := selL_len (fun x => x.2.1 == s && x.2.2 == o) (fun x => x.1) (ra.take k)
    rw [List.length_take] at hln
    by_cases hkl : k < ra.length
    · have hki : (k : Int) < (ra.length : Int) := by omega
      obtain ⟨g2, rfl, hg2, c0, c1, c2⟩ := HR.out.at_ hbw hkl
      have HSN := Lib.hid (selL_snoc (fun x => x.2.1 == s && x.2.2 == o) (fun x => x.1) (ra.take k) ra[k])
      rw [← List.take_succ_eq_append_getElem hkl] at HSN
      obtain ⟨x, hx⟩ : ∃ x, ra[k] = x := ⟨_, rfl⟩
      simp only [hx] at c0 c1 c2 HSN
      obtain ⟨x1, x2, x3⟩ := x
      simp only at c0 c1 c2 HSN
      clear hx
      obtain ⟨D, hD⟩ : ∃ D, selL (fun x => x.2.1 == s && x.2.2 == o) (fun x => x.1) (ra.take k) = D := ⟨_, rfl⟩
      rw [hD] at hrw HSN hln ⊢
      clear hD
      obtain ⟨W1, hW1⟩ : ∃ W1, wr.alloc (.cells #[.int .i64 x1, .int .i64 x2, .int .i64 x3] 84) = W1 := ⟨_, rfl⟩
      have b1 : Below wr.heap.size wr W1 := by rw [← hW1]; exact (Below.refl _ _).alloc (Nat.le_refl _) _
      have hO1 : W1.heap[wr.heap.size]? = some (.cells #[.int .i64 x1, .int .i64 x2, .int .i64 x3] 84 (0, 0)) := by rw [← hW1]; exact heap_new _ _
      have hrw1 := row_same hrw (fun k hk => b1.block k (hrw.lt k hk).2)
      have hz1' := b1.size
      have d0 : W1.cell? ⟨wr.heap.size, 0, none⟩ = some (.int .i64 x1) := by rw [cell_of_row _ _ _ _ _ _ hO1]; rfl
      have d1 : W1.cell? ⟨wr.heap.size, 1, none⟩ = some (.int .i64 x2) := by rw [cell_of_row _ _ _ _ _ _ hO1]; rfl
      have d2 : W1.cell? ⟨wr.heap.size, 2, none⟩ = some (.int .i64 x3) := by rw [cell_of_row _ _ _ _ _ _ hO1]; rfl
      have HRW := Lib.hid hrw1
      have HBW := Lib.hid (hbw.trans (b1.mono hbw.size))
      have HRA := Lib.hid (hrw1.alloc (.cells #[.int .i64 x1] 3))
      have HNw : Hid (∀ j u, ([.int .i64 x1] : List Value)[j]? = some u → (W1.alloc (.cells #[.int .i64 x1] 3)).cell? ((⟨W1.heap.size, 0, none⟩ : Addr).add j) = some u) := cell_one_new _ _ _
      have HOn : Hid (∀ u ∈ ([.int .i64 x1] : List Value), u.oneCell' = true) := fun u hu => by simp at hu; rcases hu with rfl; rfl
      clear hrw hbw hrw1 b1 hO1
      by_cases hc : x2 = s
      · have h1 : (x2 == s) = true := by simp [hc]
        clear hc
        by_cases hd : x3 = o
        · have h2 : (x3 == o) = true := by simp [hd]
          clear hd
          go_wp2_with (at_builtin; refine wpList_append_own_at _ rfl _ _ 37 rfl w.heap.size 3 i0 (.int .i64 0) 1 8 (by kernel_rfl) hi hz0 hz1 hz2 rfl (by decide) _ _ _ rfl HRA.out ⟨W1.heap.size, 0, none⟩ 1 1 [.int .i64 x1] rfl rfl HNw.out HOn.out (by show _ ≤ 2 ^ 63 - 1; omega) (by omega) (by simp; omega) ?_; intro v' w7 hown7 hgrow7 hnil7 hat7; clear hnil7 hat7; have HO7 := Lib.hid hown7; have HG7 := Lib.hid hgrow7; clear hown7 hgrow7)
          go_roundw
          case rel =>
            refine ⟨k + 1, by go_num, by omega, ?_, ?_⟩
            · rw [show selL (fun x => x.2.1 == s && x.2.2 == o) (fun x => x.1) (ra.take (k + 1)) = D ++ [x1] from HSN.out.trans (if_pos (by show (_ && _) = true; rw [h1, h2]; rfl)), List.length_append, show ivs (D ++ [x1]) = ivs D ++ [.int .i64 x1] from by unfold ivs; rw [List.map_append]; rfl]
              exact HO7.out
            · exact Below.grown (HBW.out.alloc (by omega) _) HG7.out (by simp; omega) (fun k hk => (HRW.out.lt k hk).1)
          case measure => simp [RowKit.intOf]; omega
        · have h2 : (x3 == o) = false := by simpa using hd
          go_wp2_with fail
          go_roundw
          case rel =>
            refine ⟨k + 1, by go_num, by omega, ?_, HBW.out⟩
            rw [show selL (fun x => x.2.1 == s && x.2.2 == o) (fun x => x.1) (ra.take (k + 1)) = D from HSN.out.trans (if_neg (by show ¬ (_ && _) = true; rw [h2]; simp))]
            exact HRW.out
          case measure => simp [RowKit.intOf]; omega
      · have h1 : (x2 == s) = false := by simpa using hc
        go_wp2_with fail
        go_roundw
        case rel =>
          refine ⟨k + 1, by go_num, by omega, ?_, HBW.out⟩
          rw [show selL (fun x => x.2.1 == s && x.2.2 == o) (fun x => x.1) (ra.take (k + 1)) = D from HSN.out.trans (if_neg (by show ¬ (_ && _) = true; rw [h1]; simp))]
          exact HRW.out
        case measure => simp [RowKit.intOf]; omega
    · obtain rfl : k = ra.length := by omega
      have hki : ¬ (ra.length : Int) < (ra.length : Int) := by omega
      rw [List.take_length] at hrw
      rw [List.take_length]
      have HRW := Lib.hid hrw
      have HBW := Lib.hid hbw
      clear hrw hbw hln
      go_wp2_with fail
      go_ret
      exact ⟨_, rfl, HRW.out, HBW.out⟩
theorem waits_no {l : List Who} {t : Int} (h : waitsA l t = false) {k : Nat} (hk : k < l.length) : (l[k].1 == t) = false := by
  unfold waitsA at h
  rw [List.any_eq_false] at h
  have := h _ (List.getElem_mem hk)
  simpa using this
theorem waits_no' {l : List Who} {t : Int} {m : Nat} (h : waitsA (l.take m) t = false) {k : Nat} (hk : k < l.length) (hm : k < m) : (l[k].1 == t) = false := by
  have := waits_no h (k := k) (by rw [List.length_take]; omega)
  rwa [List.getElem_take] at this
theorem waits_yes : ∀ {l : List Who} {t : Int}, waitsA l t = true → ∃ k, ∃ hk : k < l.length, l[k].1 = t ∧ waitsA (l.take k) t = false ∧ whereA l t = some l[k]
  | [], t, h => by cases h
  | x :: l, t, h => by
    by_cases e : x.1 = t
    · exact ⟨0, by simp, e, rfl, by unfold whereA; simp [e]⟩
    · have h' : waitsA l t = true := by unfold waitsA at h ⊢; simpa [e] using h
      obtain ⟨k, hk, h1, h2, h3⟩ := waits_yes h'
      refine ⟨k + 1, by simpa using hk, h1, ?_, ?_⟩
      · unfold waitsA at h2 ⊢; simp [List.take_succ_cons, e] at h2 ⊢; exact h2
      · unfold whereA at h3 ⊢; simp [e]; simpa using h3
set_option maxRecDepth 100000 in
set_option maxHeartbeats 4000000 in
theorem rAt_no (w : World) (qb : Nat) (G : Nat → Prop) (ra rl : List Who) (N : Nat) (t : Int) (h : RFx w qb G ra rl N) (hN : N < 900000) (hw : waitsA ra t = false) :
    Calls Try.prog 36 #[pv qb, .int .i64 t] w fun e w' => e = .returned (.int .i64 (-1)) ∧ Below w.heap.size w w' := by
  obtain ⟨v1, v2, hq, ho1, ho2, _, _⟩ := h.rows
  have hl1 := h.lenA
  obtain ⟨sp1, cp1, rfl⟩ := row_form ho1
  have q0 : w.cell? ⟨qb, 0, none⟩ = some (.slice sp1 ra.length cp1) := by rw [cell_of_row _ _ _ _ _ _ hq]; rfl
  have HR := Lib.hid ho1
  have HW := Lib.hid hw
  clear h hq ho1 ho2 hw
  go_enter Try.func36, Try.ntmps36
  go_wp2_with fail
  go_loopw [12] (fun y wr => ∃ k : Nat, y = .int .i64 k ∧ k ≤ ra.length ∧ Below w.heap.size w wr) (fun y _ => (ra.length - (RowKit.intOf y).toNat))
  case atStart => exact ⟨0, rfl, Nat.zero_le _, Below.refl _ _⟩
  case round =>
    obtain ⟨k, rfl, hk, hbw⟩ := hrel
    have hbz := hbw.size
    by_cases hkl : k < ra.length
    · have hki : (k : Int) < (ra.length : Int) := by omega
      obtain ⟨g2, rfl, hg2, c0, c1, c2⟩ := HR.out.at_ hbw hkl
      have hne := waits_no HW.out hkl
      obtain ⟨x, hx⟩ : ∃ x, ra[k] = x := ⟨_, rfl⟩
      simp only [hx] at c0 c1 c2 hne
      obtain ⟨x1, x2, x3⟩ := x
      simp only at c0 c1 c2 hne
      have HBW := Lib.hid hbw
      clear hx hbw
      go_wp2_with fail
      go_roundw
      case rel => exact ⟨k + 1, by go_num, by omega, HBW.out.alloc (by omega) _⟩
      case measure => simp [RowKit.intOf]; omega
    · obtain rfl : k = ra.length := by omega
      have hki : ¬ (ra.length : Int) < (ra.length : Int) := by omega
      have HBW := Lib.hid hbw
      clear hbw
      go_wp2_with fail
      go_ret
      exact ⟨rfl, HBW.out⟩
set_option maxRecDepth 100000 in
set_option maxHeartbeats 4000000 in
theorem rAt_yes (w : World) (qb : Nat) (G : Nat → Prop) (ra rl : List Who) (N : Nat) (t : Int) (h : RFx w qb G ra rl N) (hN : N < 900000) (m : Nat) (hm : m < ra.length) (he : ra[m].1 = t) (hw : waitsA (ra.take m) t = false) :
    Calls Try.prog 36 #[pv qb, .int .i64 t] w fun e w' => e = .returned (.int .i64 (m : Int)) ∧ Below w.heap.size w w' := by
  obtain ⟨v1, v2, hq, ho1, ho2, _, _⟩ := h.rows
  have hl1 := h.lenA
  obtain ⟨sp1, cp1, rfl⟩ := row_form ho1
  have q0 : w.cell? ⟨qb, 0, none⟩ = some (.slice sp1 ra.length cp1) := by rw [cell_of_row _ _ _ _ _ _ hq]; rfl
  have HR := Lib.hid ho1
  have HW := Lib.hid hw
  have HE := Lib.hid he
  clear h hq ho1 ho2 hw he
  go_enter Try.func36, Try.ntmps36
  go_wp2_with fail
  go_loopw [12] (fun y wr => ∃ k : Nat, y = .int .i64 k ∧ k ≤ m ∧ Below w.heap.size w wr) (fun y _ => (ra.length - (RowKit.intOf y).toNat))
  case atStart => exact ⟨0, rfl, Nat.zero_le _, Below.refl _ _⟩
  case round =>
    obtain ⟨k, rfl, hk, hbw⟩ := hrel
    have hbz := hbw.size
    have hkl : k < ra.length := by omega
    have hki : (k : Int) < (ra.length : Int) := by omega
    obtain ⟨g2, rfl, hg2, c0, c1, c2⟩ := HR.out.at_ hbw hkl
    by_cases hkm : k < m
    · have hne := waits_no' HW.out hkl hkm
      obtain ⟨x, hx⟩ : ∃ x, ra[k] = x := ⟨_, rfl⟩
      simp only [hx] at c0 c1 c2 hne
      obtain ⟨x1, x2, x3⟩ := x
      simp only at c0 c1 c2 hne
      have HBW := Lib.hid hbw
      clear hx hbw
      go_wp2_with fail
      go_roundw
      case rel => exact ⟨k + 1, by go_num, by omega, HBW.out.alloc (by omega) _⟩
      case measure => simp [RowKit.intOf]; omega
    · obtain rfl : k = m := by omega
      have hne := HE.out
      obtain ⟨x, hx⟩ : ∃ x, ra[k] = x := ⟨_, rfl⟩
      simp only [hx] at c0 c1 c2 hne
      obtain ⟨x1, x2, x3⟩ := x
      simp only at c0 c1 c2 hne
      have hne' : (x1 == t) = true := by simp [hne]
      have HBW := Lib.hid hbw
      clear hx hbw hne HE
      go_wp2_with fail
      go_ret
      exact ⟨rfl, HBW.out.alloc (by omega) _⟩
end Go.Proofs.Ythknnmllibdggaa
