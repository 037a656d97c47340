/- The reference of layer 8: rows of those that wait, and of alerts. -/
import Derived.Test.YthknnmllibdggaaCopyW
import Derived.Test.YthknnmllibdggaaAnsB
import Derived.Laws.AppendOwnNone
namespace Go.Proofs.Ythknnmllibdggaa
open Go.RowKit Go.Sort
theorem oneInfo : (Try.prog.info? 84).map (fun i => (i.zero, i.size, i.bytes)) = some (some (.agg #[.int .i64 0, .int .i64 0, .int .i64 0]), 3, 24) := by kernel_rfl
def oneC (x : Who) : List Value := [.int .i64 x.1, .int .i64 x.2.1, .int .i64 x.2.2]
def onesC : List Who → List Value
  | [] => []
  | x :: l => oneC x ++ onesC l
theorem onesC_len : ∀ l : List Who, (onesC l).length = l.length * 3
  | [] => rfl
  | x :: l => by
    show (oneC x ++ onesC l).length = _
    rw [List.length_append, onesC_len l]
    simp [oneC]; omega
theorem onesC_app : ∀ a b : List Who, onesC (a ++ b) = onesC a ++ onesC b
  | [], b => rfl
  | x :: a, b => by
    show oneC x ++ onesC (a ++ b) = (oneC x ++ onesC a) ++ onesC b
    rw [onesC_app a b, List.append_assoc]
theorem onesC_one (x : Who) : onesC [x] = oneC x := by simp [onesC]
theorem onesC_cell : ∀ l : List Who, ∀ u ∈ onesC l, u.oneCell' = true
  | [], u, hu => by simp [onesC] at hu
  | x :: l, u, hu => by
    rcases List.mem_append.1 hu with h | h
    · simp [oneC] at h; rcases h with rfl | rfl | rfl <;> rfl
    · exact onesC_cell l u h
theorem onesC_at : ∀ (l : List Who) (k : Nat) (hk : k < l.length), (onesC l)[k * 3]? = some (.int .i64 l[k].1) ∧ (onesC l)[k * 3 + 1]? = some (.int .i64 l[k].2.1) ∧ (onesC l)[k * 3 + 2]? = some (.int .i64 l[k].2.2)
  | x :: l, 0, _ => ⟨rfl, rfl, rfl⟩
  | x :: l, k + 1, hk => by
    obtain ⟨h0, h1, h2⟩ := onesC_at l k (by simpa using hk)
    have e : ∀ j, (onesC (x :: l))[j + 3]? = (onesC l)[j]? := fun j => by
      show (oneC x ++ onesC l)[j + 3]? = _
      rw [List.getElem?_append_right (by simp [oneC])]; simp [oneC]
    refine ⟨?_, ?_, ?_⟩
    · rw [show (k + 1) * 3 = k * 3 + 3 by omega, e]; exact h0
    · rw [show (k + 1) * 3 + 1 = k * 3 + 1 + 3 by omega, e]; exact h1
    · rw [show (k + 1) * 3 + 2 = k * 3 + 2 + 3 by omega, e]; exact h2
abbrev OR (w : World) (b : Nat) (v : Value) (l : List Who) : Prop := w.ownsRow b 84 3 v l.length (onesC l)
theorem OR.at_ {w w' : World} {b cap : Nat} {sp : Option Addr} {l : List Who} (h : OR w b (.slice sp l.length cap) l) (hb : Below w.heap.size w w') {k : Nat} (hk : k < l.length) :
    ∃ g, sp = some ⟨g, 0, none⟩ ∧ g < w.heap.size ∧ w'.cell? ⟨g, k * 3, none⟩ = some (.int .i64 l[k].1) ∧ w'.cell? ⟨g, k * 3 + 1, none⟩ = some (.int .i64 l[k].2.1) ∧ w'.cell? ⟨g, k * 3 + 2, none⟩ = some (.int .i64 l[k].2.2) := by
  rcases h.2 with ⟨hv, h0⟩ | ⟨g, cap', cur, hv, _, hg, _⟩
  · omega
  · simp at hv
    obtain ⟨rfl, rfl⟩ := hv
    have hl := heap_lt hg
    have e : ∀ o, w'.cell? ⟨g, o, none⟩ = w.cell? ⟨g, o, none⟩ := fun o => hb.cell (p := ⟨g, o, none⟩) hl
    obtain ⟨h0, h1, h2⟩ := onesC_at l k hk
    exact ⟨g, rfl, hl, by rw [e, h.cellAt _ (by omega)]; exact h0, by rw [e, h.cellAt _ (by omega)]; exact h1, by rw [e, h.cellAt _ (by omega)]; exact h2⟩
theorem OR.mono {w : World} {b b' : Nat} {v : Value} {l : List Who} (h : OR w b v l) (hb : b' ≤ b) : OR w b' v l := row_mono h hb
theorem OR.below {w w' : World} {b : Nat} {v : Value} {l : List Who} (h : OR w b v l) (hb : Below w.heap.size w w') : OR w' b v l := row_same h (fun k hk => hb.block k (h.lt k hk).2)
theorem OR.snoc {w : World} {b : Nat} {v : Value} {l : List Who} {x : Who} (h : w.ownsRow b 84 3 v (l.length + 1) (onesC l ++ oneC x)) : OR w b v (l ++ [x]) := by
  unfold OR
  rw [List.length_append, onesC_app, onesC_one]; exact h
theorem cell_three (W : World) (a b c : Value) (t : TypeId) : ∀ j u, ([a, b, c] : List Value)[j]? = some u → (W.alloc (.cells #[a, b, c] t)).cell? ((⟨W.heap.size, 0, none⟩ : Addr).add j) = some u := by
  intro j u hu
  have hh := heap_new W (.cells #[a, b, c] t)
  match j, hu with
  | 0, hu => simp at hu; subst hu; exact (cell_of_row _ _ _ _ _ _ hh).trans rfl
  | 1, hu => simp at hu; subst hu; exact (cell_of_row _ _ _ _ _ _ hh).trans rfl
  | 2, hu => simp at hu; subst hu; exact (cell_of_row _ _ _ _ _ _ hh).trans rfl
  | j + 3, hu => simp at hu
theorem rid_any (n : Int) (w : World) : Calls Try.prog 52 #[.int .i64 n] w fun e w' => e = .returned (.bool (okN n)) ∧ w' = w := by
  by_cases h1 : 1 ≤ n <;> by_cases h2 : n ≤ 2305843009213693951 <;>
  · go_enter Try.func52, Try.ntmps52
    go_wp2
    go_ret
    exact ⟨by simp [okN, h1, h2], rfl⟩
/-- The row without a thread's first one. -/
def dropF : List Who → Int → List Who
  | [], _ => []
  | x :: l, t => if x.1 = t then l else x :: dropF l t
theorem dropF_no : ∀ {l : List Who} {t : Int}, waitsA l t = false → dropF l t = l
  | [], _, _ => rfl
  | x :: l, t, h => by
    unfold waitsA at h
    rw [List.any_cons] at h
    simp only [Bool.or_eq_false_iff] at h
    unfold dropF
    rw [if_neg (by simpa using h.1), dropF_no h.2]
theorem waitsA_snoc (l : List Who) (x : Who) (t : Int) : waitsA (l ++ [x]) t = (waitsA l t || x.1 == t) := by
  unfold waitsA; simp
theorem dropF_snoc : ∀ (l : List Who) (x : Who) (t : Int), dropF (l ++ [x]) t = if (x.1 == t && !waitsA l t) = true then dropF l t else dropF l t ++ [x]
  | [], x, t => by
    show dropF [x] t = _
    unfold dropF
    by_cases h : x.1 = t
    · rw [if_pos h]; simp [h, waitsA]
    · rw [if_neg h]; simp [h, dropF]
  | y :: l, x, t => by
    show dropF (y :: (l ++ [x])) t = _
    unfold dropF
    by_cases h : y.1 = t
    · have hw : waitsA (y :: l) t = true := by unfold waitsA; simp [h]
      rw [if_pos h, if_pos h, hw]; simp
    · rw [if_neg h, if_neg h, dropF_snoc l x t]
      have hw : waitsA (y :: l) t = waitsA l t := by unfold waitsA; simp [h]
      rw [hw]
      split <;> rfl
theorem dropF_len : ∀ (l : List Who) (t : Int), (dropF l t).length ≤ l.length
  | [], _ => Nat.le_refl _
  | x :: l, t => by
    unfold dropF
    split
    · simp
    · have := dropF_len l t; simp; omega
set_option maxRecDepth 100000 in
set_option maxHeartbeats 4000000 in
theorem rdrop_any (w : World) (b : Nat) (v : Value) (l : List Who) (t : Int) (h : OR w b v l) (hl : l.length < 1000000) :
    Calls Try.prog 53 #[v, .int .i64 t] w fun e w' => ∃ v', e = .returned v' ∧ OR w' w.heap.size v' (dropF l t) ∧ Below w.heap.size w w' := by
  obtain ⟨i0, hi, hz0, hz1, hz2⟩ := info_parts oneInfo
  obtain ⟨sp, cap, rfl⟩ := row_form h
  have HR := Lib.hid h
  have hr0 : (w.alloc (.cells #[] 84)).ownsRow w.heap.size 84 3 (.slice (some ⟨w.heap.size, 0, none⟩) 0 0) 0 [] := World.ownsRow_lit (base := w.heap.size) (e := 84) (size := 3) w #[] 0 (Nat.le_refl _) (by decide) rfl
  have hb0 : Below w.heap.size w (w.alloc (.cells #[] 84)) := (Below.refl _ _).alloc (Nat.le_refl _) _
  have HR0 := Lib.hid hr0
  have HB0 := Lib.hid hb0
  clear h hr0 hb0
  go_enter Try.func53, Try.ntmps53
  go_wp2_with fail
  go_loopw [5, 6, 12] (fun v g y wr => ∃ k : Nat, y = .int .i64 k ∧ k ≤ l.length ∧ g = .bool (waitsA (l.take k) t) ∧ OR wr w.heap.size v (dropF (l.take k) t) ∧ Below w.heap.size w wr) (fun _ _ y _ => (l.length - (RowKit.intOf y).toNat))
  case atStart => exact ⟨0, rfl, Nat.zero_le _, rfl, HR0.out, HB0.out⟩
  case round =>
    clear HR0 HB0
    obtain ⟨k, rfl, hk, rfl, hrw, hbw⟩ := hrel
    obtain ⟨sp7, cap7, rfl⟩ := row_form hrw
    have hbz := hbw.size
    have hln := dropF_len (l.take k) t
    rw [List.length_take] at hln
    by_cases hkl : k < l.length
    · have hki : (k : Int) < (l.length : Int) := by omega
      obtain ⟨g2, rfl, hg2, c0, c1, c2⟩ := HR.out.at_ hbw hkl
      have HSN := Lib.hid (dropF_snoc (l.take k) l[k] t)
      have HWN := Lib.hid (waitsA_snoc (l.take k) l[k] t)
      rw [← List.take_succ_eq_append_getElem hkl] at HSN HWN
      obtain ⟨x, hx⟩ : ∃ x, l[k] = x := ⟨_, rfl⟩
      simp only [hx] at c0 c1 c2 HSN HWN
      obtain ⟨x1, x2, x3⟩ := x
      simp only at c0 c1 c2 HSN HWN
      clear hx
      obtain ⟨D, hD⟩ : ∃ D, dropF (l.take k) t = D := ⟨_, rfl⟩
      obtain ⟨gb, hgb⟩ : ∃ gb, waitsA (l.take k) t = gb := ⟨_, rfl⟩
      rw [hD] at hrw HSN hln ⊢
      rw [hgb] at HSN HWN ⊢
      clear hD hgb
      by_cases hc : (x1 == t && !gb) = true
      · rw [if_pos hc] at HSN
        have h1 : (x1 == t) = true := by simp at hc; simp [hc.1]
        have h2 : gb = false := by simp at hc; exact hc.2
        subst h2
        have HRW := Lib.hid hrw
        have HBW := Lib.hid hbw
        clear hrw hbw hc
        go_wp2_with fail
        go_roundw
        case rel => exact ⟨k + 1, by go_num, by omega, by rw [HWN.out, h1]; rfl, by rw [HSN.out]; exact HRW.out.alloc _, HBW.out.alloc (by omega) _⟩
        case measure => simp [RowKit.intOf]; omega
      · rw [if_neg hc] at HSN
        obtain ⟨W1, hW1⟩ : ∃ W1, wr.alloc (.cells #[.int .i64 x1, .int .i64 x2, .int .i64 x3] 84) = W1 := ⟨_, rfl⟩
        have b1 : Below wr.heap.size wr W1 := by rw [← hW1]; exact (Below.refl _ _).alloc (Nat.le_refl _) _
        have hO1 : W1.heap[wr.heap.size]? = some (.cells #[.int .i64 x1, .int .i64 x2, .int .i64 x3] 84 (0, 0)) := by rw [← hW1]; exact heap_new _ _
        have hrw1 := OR.below hrw b1
        have hz1' := b1.size
        have HRA := Lib.hid (hrw1.alloc (.cells #[.int .i64 x1, .int .i64 x2, .int .i64 x3] 84))
        have HNw : Hid (∀ j u, ([.int .i64 x1, .int .i64 x2, .int .i64 x3] : List Value)[j]? = some u → (W1.alloc (.cells #[.int .i64 x1, .int .i64 x2, .int .i64 x3] 84)).cell? ((⟨W1.heap.size, 0, none⟩ : Addr).add j) = some u) := cell_three _ _ _ _ _
        have HOn : Hid (∀ u ∈ ([.int .i64 x1, .int .i64 x2, .int .i64 x3] : List Value), u.oneCell' = true) := fun u hu => onesC_cell [(x1, x2, x3)] u (by rw [onesC_one]; exact hu)
        have d0 : W1.cell? ⟨wr.heap.size, 0, none⟩ = some (.int .i64 x1) := by rw [cell_of_row _ _ _ _ _ _ hO1]; rfl
        have d1 : W1.cell? ⟨wr.heap.size, 1, none⟩ = some (.int .i64 x2) := by rw [cell_of_row _ _ _ _ _ _ hO1]; rfl
        have d2 : W1.cell? ⟨wr.heap.size, 2, none⟩ = some (.int .i64 x3) := by rw [cell_of_row _ _ _ _ _ _ hO1]; rfl
        have HRW := Lib.hid hrw1
        have HBW := Lib.hid (hbw.trans (b1.mono hbw.size))
        clear hrw hbw hrw1 b1 hO1
        have hcc : ((x1 == t) = false) ∨ ((x1 == t) = true ∧ gb = true) := by
          cases h1 : (x1 == t) with
          | false => exact .inl rfl
          | true => right; refine ⟨rfl, ?_⟩; rw [h1] at hc; simpa using hc
        clear hc
        rcases hcc with h1 | ⟨h1, rfl⟩
        all_goals
          go_wp2_with (at_builtin; refine wpList_append_own_at _ rfl _ _ 27 rfl w.heap.size 84 i0 (.agg #[.int .i64 0, .int .i64 0, .int .i64 0]) 3 24 (by kernel_rfl) hi hz0 hz1 hz2 rfl (by decide) _ _ _ rfl HRA.out ⟨W1.heap.size, 0, none⟩ 1 1 [.int .i64 x1, .int .i64 x2, .int .i64 x3] rfl rfl HNw.out HOn.out (by show _ ≤ 2 ^ 63 - 1; omega) (by omega) (by simp; omega) ?_; intro v' w7 hown7 hgrow7 hnil7 hat7; clear hnil7 hat7; have HO7 := Lib.hid hown7; have HG7 := Lib.hid hgrow7; clear hown7 hgrow7)
          go_roundw
          case rel =>
            refine ⟨k + 1, by go_num, by omega, by rw [HWN.out, h1]; simp, ?_, ?_⟩
            · rw [HSN.out]; exact OR.snoc HO7.out
            · exact Below.grown (HBW.out.alloc (by omega) _) HG7.out (by simp; omega) (fun k hk => (HRW.out.lt k hk).1)
          case measure => simp [RowKit.intOf]; omega
    · obtain rfl : k = l.length := by omega
      have hki : ¬ (l.length : Int) < (l.length : Int) := by omega
      rw [List.take_length] at hrw
      rw [List.take_length]
      have HRW := Lib.hid hrw
      have HBW := Lib.hid hbw
      clear hrw hbw hln
      go_wp2_with fail
      go_ret
      exact ⟨_, rfl, HRW.out, HBW.out⟩
end Go.Proofs.Ythknnmllibdggaa
