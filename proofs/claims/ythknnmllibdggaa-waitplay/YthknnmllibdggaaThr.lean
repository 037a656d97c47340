/- What threads of package wait answers: the threads of a queue, in order. -/
import Derived.Test.YthknnmllibdggaaAllW
import Derived.Test.YthknnmllibdggaaMonoT
import Derived.Maps.AppendAt
namespace Go.Proofs.Ythknnmllibdggaa
open Go.RowKit Go.Sort
attribute [local go_sem] Oper.semAt_some
theorem intInfo : (Try.prog.info? 3).map (fun i => (i.zero, i.size, i.bytes)) = some (some (.int .i64 0), 1, 8) := by kernel_rfl
theorem block_kept {W W' : World} {k : Nat} {c : Array Value} {t : TypeId} {f : Nat × Nat} {row : Option Nat} (h : W.heap[k]? = some (.cells c t f)) (hg : W.grownBy W' row) (hr : ∀ r, row = some r → ∃ o : Obj, W.heap[r]? = some o ∧ o.isCells = false) : W'.heap[k]? = some (.cells c t f) :=
  (hg.block k (heap_lt h) (fun e => by
    obtain ⟨o, ho, hc⟩ := hr k e.symm
    rw [h] at ho; cases ho; cases hc)).trans h
theorem putObj_ne (W : World) (l : Nat) (o : Obj) {k : Nat} (h : k ≠ l) : (W.putObj l o).heap[k]? = W.heap[k]? := by
  show (W.heap.setIfInBounds l o)[k]? = _
  rw [Array.getElem?_setIfInBounds_ne (Ne.symm h)]
theorem qf_cells {w : World} {tq ti : TypeId} {Q : Nat} {l : List It} (h : QAt w tq ti Q l) {k : Nat} (hk : qf Q l k) : ∃ c t f, w.heap[k]? = some (.cells c t f) := by
  rcases hk with rfl | hk
  · exact ⟨_, _, _, h.blk⟩
  · obtain ⟨x, hx, rfl⟩ := List.mem_map.1 hk
    obtain ⟨a, b, hh⟩ := chn_at h.ch x hx
    exact ⟨_, _, _, hh⟩
theorem row_ne {w : World} {base n B : Nat} {v : Value} {xs : List Value} {e t : TypeId} {sz : Nat} {c : Array Value} {f : Nat × Nat} (hr : w.ownsRow base e sz v n xs) (hB : w.heap[B]? = some (.cells c t f)) (ht : t ≠ e) : v.ownBlock ≠ some B := fun h => by
  rcases hr.2 with ⟨rfl, _⟩ | ⟨g, cap', cur, rfl, _, hg, _⟩
  · cases h
  · obtain rfl : g = B := by simpa [Value.ownBlock] using h
    rw [hB] at hg
    simp at hg
    exact ht hg.2.1
theorem qf_typed {w : World} {tq ti : TypeId} {Q : Nat} {l : List It} (h : QAt w tq ti Q l) {k : Nat} (hk : qf Q l k) : ∃ c t f, w.heap[k]? = some (.cells c t f) ∧ (t = tq ∨ t = ti) := by
  rcases hk with rfl | hk
  · exact ⟨_, _, _, h.blk, .inl rfl⟩
  · obtain ⟨x, hx, rfl⟩ := List.mem_map.1 hk
    obtain ⟨a, b, hh⟩ := chn_at h.ch x hx
    exact ⟨_, _, _, hh, .inr rfl⟩
/-- A row of one number, newly made. -/
def I1V (c : Int) (v : Value) (W : World) : Prop := ∃ g, v = .slice (some ⟨g, 0, none⟩) 1 1 ∧ W.cell? ⟨g, 0, none⟩ = some (.int .i64 c) ∧ g < W.heap.size
theorem I1V.below {c : Int} {v : Value} {W W' : World} (h : I1V c v W) (hb : Below W.heap.size W W') : I1V c v W' := by
  obtain ⟨g, h1, h2, h3⟩ := h
  exact ⟨g, h1, (hb.cell (p := ⟨g, 0, none⟩) h3).trans h2, Nat.lt_of_lt_of_le h3 hb.size⟩
theorem kpq_own {β : Type} {Bq Q n₀ : Nat} {l : List It} {W0 : World} (hc : ∀ k, k = Bq ∨ qf Q l k → ∃ c t f, W0.heap[k]? = some (.cells c t f)) : OwnFrom n₀ (fun (_ : β) W => KpQ Bq Q l W0 W) := by
  intro s A B row hs hg hr k hk
  obtain ⟨c, t, f, hcell⟩ := hc k hk
  have hA : A.heap[k]? = some (.cells c t f) := (hs k hk).trans hcell
  exact (block_kept hA hg (fun r e => (hr r e).2)).trans hcell.symm
theorem grown_below {w w' : World} (h : Below w.heap.size w w') (row : Option Nat) : w.grownBy w' row := ⟨h.os, h.tape, h.output, h.size, fun k hk _ => h.block k hk⟩
theorem keeps_below {w w' : World} (h : Below w.heap.size w w') : KeepsOthers w w' := KeepsOthers.of_grownBy (grown_below h none) (fun j o e => by cases e)
/-- A variable that holds a row, behind 'v = append(v, ..)'. -/
theorem app_boxed {W X w4 : World} {base bl sz k k' : Nat} {T E : TypeId} {v v' : Value} {xs ys : List Value} (hv : Boxed W bl T v) (hb : Below W.heap.size W X) (hrow : X.ownsRow base E sz v k xs) (hg : X.grownBy w4 v.ownBlock) (hown : w4.ownsRow base E sz v' k' ys) (hTE : T ≠ E) :
    Boxed w4 bl T v ∧ Boxed (w4.setCell ⟨bl, 0, none⟩ v') bl T v' ∧ (w4.setCell ⟨bl, 0, none⟩ v').ownsRow base E sz v' k' ys ∧ KeepsOthers W (w4.setCell ⟨bl, 0, none⟩ v') ∧ (∀ n₀, n₀ ≤ base → n₀ ≤ bl → n₀ ≤ W.heap.size → Below n₀ W (w4.setCell ⟨bl, 0, none⟩ v')) ∧
      ∀ k c t f, W.heap[k]? = some (.cells c t f) → t ≠ E → k ≠ bl → (w4.setCell ⟨bl, 0, none⟩ v').heap[k]? = W.heap[k]? := by
  have hvX : Boxed X bl T v := (hb.block bl hv.lt).trans hv
  have hv4 : Boxed w4 bl T v := hvX.kept hg (hvX.not_row hTE hrow)
  refine ⟨hv4, hv4.set v', hown.kept (grownBy_setCell' w4 bl v') (.inr (hv4.not_row hTE hown).symm), ?_, ?_, ?_⟩
  · refine ((keeps_below hb).trans (KeepsOthers.of_grownBy hg fun j o ej hj => ?_)).trans (KeepsOthers.setCell _ _ _)
    rcases hrow.2 with ⟨rfl, _⟩ | ⟨g, cap, cur, rfl, _, hgb, _⟩
    · simp [Value.ownBlock] at ej
    · obtain rfl : g = j := by simpa [Value.ownBlock] using ej
      rw [hgb] at hj; cases hj; rfl
  · intro n₀ h1 h2 h3
    have hz := hb.size
    exact ((hb.mono h3).trans ⟨hg.os, hg.tape, hg.output, hg.size, fun k hk => hg.block k (by omega) (fun e => by have := (hrow.lt k e.symm).1; omega)⟩).setCell (p := ⟨bl, 0, none⟩) h2 v'
  · intro k c t f hk ht hkb
    have hlt := heap_lt hk
    have hkX : X.heap[k]? = some (.cells c t f) := (hb.block k hlt).trans hk
    rw [heap_ne _ _ _ hkb, hg.block k (Nat.lt_of_lt_of_le hlt hb.size) (fun e => row_ne hrow hkX ht e.symm), hkX, hk]
/-- The item x is of the thread t. -/
def Thr (w : World) (x : It) (t : Int) : Prop := ∃ B c0 c1 c3 c4, x.v = pv B ∧ w.heap[B]? = some (.cells #[c0, c1, .int .i64 t, c3, c4] 75 (0, 0))
set_option maxRecDepth 100000 in
set_option maxHeartbeats 2000000 in
theorem threads_any (w : World) (Q : Nat) (l : List It) (th : It → Int) (hq : QAW w Q l) (hn : l.length < 1000000) (ht : ∀ x ∈ l, Thr w x (th x)) :
    Calls Try.prog 45 #[pv Q] w fun e w' => ∃ v, e = .returned v ∧ w'.ownsRow w.heap.size 3 1 v l.length (ivs (l.map th)) ∧ Below w.heap.size w w' := by
  obtain ⟨i0, hi, hz0, hz1, hz2⟩ := info_parts intInfo
  have HS := Lib.hid (sizeW w Q l hq)
  obtain ⟨W1, hmk, hrow1, hg1⟩ := run_make_own (P := Try.prog) w w.heap.size 37 3 i0 (.int .i64 0) 1 (by kernel_rfl) hi hz0 hz1 .i64 .i64 l.length (by rw [hz2]; omega) (by unfold maxLen; omega) (Nat.le_refl _)
  have HR1 := Lib.hid hrow1
  have HG1 := Lib.hid hg1
  have HQ := Lib.hid hq
  clear hq hrow1 hg1
  refine (callsIn_wide (n := 3)).1 ?_
  have h1 : Fence.wide.fn 45 := trivial
  have h2 : Fence.wide.fn 57 := trivial
  have h3 : Fence.wide.fn 47 := trivial
  have h4 : Fence.wide.fn 26 := trivial
  have hro : Fence.wide.round = none := rfl
  refine callsIn_of_wp_marks Try.func45 rfl h1 ?_ hro
  simp only [Try.ntmps45, List.size_toArray, List.length_cons, List.length_nil, Nat.reduceAdd, Nat.reduceSub, Array.replicate_succ, Array.replicate_zero, List.push_toArray, List.append_toArray, List.nil_append, List.cons_append]
  gi_wp2_with (first
    | (gi_at_call 57; refine (callsIn_wide.2 HS.out).mono ?_; rintro e w' ⟨rfl, hw'⟩; rw [hw']; clear hw' w')
    | (gi_at_call 26; refine (callsIn_wide.2 (allW_any _ _)).mono ?_; rintro e w' ⟨rfl, rfl⟩))
  have hB1 : Below w.heap.size w W1 := (Below.refl _ _).grown HG1.out (Nat.le_refl _) (fun k e => by cases e)
  obtain ⟨W2, hW2⟩ : ∃ W2, W1.alloc (.cells #[.slice (some ⟨w.heap.size, 0, none⟩) 0 l.length] 37) = W2 := ⟨_, rfl⟩
  obtain ⟨W3, hW3⟩ : ∃ W3, W2.alloc (.cells #[.pointer (some ⟨Q, 0, none⟩)] 65) = W3 := ⟨_, rfl⟩
  rw [hW2, hW3]
  have sz1 := hB1.size
  have sz2 : W2.heap.size = W1.heap.size + 1 := by rw [← hW2]; simp
  have sz3 : W3.heap.size = W1.heap.size + 2 := by rw [← hW3]; simp; omega
  have hb12 : Below W1.heap.size W1 W2 := by rw [← hW2]; exact (Below.refl _ _).alloc (Nat.le_refl _) _
  have hb23 : Below W2.heap.size W2 W3 := by rw [← hW3]; exact (Below.refl _ _).alloc (Nat.le_refl _) _
  have hB3 : Below w.heap.size w W3 := (hB1.trans (hb12.mono sz1)).trans (hb23.mono (by omega))
  have hbx : Boxed W3 W1.heap.size 37 (.slice (some ⟨w.heap.size, 0, none⟩) 0 l.length) := (hb23.block _ (by omega)).trans (by rw [← hW2]; exact heap_new _ _)
  have hbq : Boxed W3 (W1.heap.size + 1) 65 (pv Q) := by rw [← hW3, ← sz2]; exact heap_new _ _
  have hr3 : W3.ownsRow w.heap.size 3 1 (.slice (some ⟨w.heap.size, 0, none⟩) 0 l.length) 0 [] := row_same (row_same HR1.out (fun k hk => hb12.block k (HR1.out.lt k hk).2)) (fun k hk => hb23.block k (by have := (HR1.out.lt k hk).2; omega))
  have hq3 : QAW W3 Q l := HQ.out.same (fun k hk => hB3.block k (HQ.out.lt hk))
  have hvs : ∀ x ∈ l, ∃ B, x.v = pv B := fun x hx => by obtain ⟨B, _, _, _, _, h, _⟩ := ht x hx; exact ⟨B, h⟩
  have hlow : ∀ k, k = W1.heap.size + 1 ∨ qf Q l k → k < W3.heap.size := fun k hk => by
    rcases hk with rfl | hk
    · omega
    · have := HQ.out.lt hk; omega
  have hty : ∀ k, k = W1.heap.size + 1 ∨ qf Q l k → ∃ c t f, W3.heap[k]? = some (.cells c t f) ∧ t ≠ 3 ∧ t ≠ 37 := fun k hk => by
    rcases hk with rfl | hk
    · exact ⟨_, _, _, hbq, by decide, by decide⟩
    · obtain ⟨c, t, f, h1, h2⟩ := qf_typed hq3 hk
      rcases h2 with rfl | rfl
      · exact ⟨_, _, _, h1, by decide, by decide⟩
      · exact ⟨_, _, _, h1, by decide, by decide⟩
  clear hW2 hW3 hmk
  refine wpIn_rangeFunc_ownH hro (by decide) (gf := 47) (lb := #[.pointer (some ⟨W1.heap.size + 1, 0, none⟩)]) rfl h3 (enters_of Try.func47 (by kernel_rfl) rfl)
    (allW_stops 2 (by decide) (W1.heap.size + 1) Q l W3 hvs hbq hq3) (fun h1 h2 k hk => (h2 k hk).trans (h1 k hk)) (fun W lq o o' hl h0 _ _ k hk => by
      have := hlow k hk
      exact putObj_ne W lq o' (by omega)) (Below.refl _ _) (fun _ => rfl)
    (fun pre W => (∃ v, Boxed W W1.heap.size 37 v ∧ W.ownsRow w.heap.size 3 1 v pre.length (ivs (pre.map fun x => th x.1)) ∧ True) ∧ Below w.heap.size w W ∧ KpQ (W1.heap.size + 1) Q l W3 W)
    (fun c pre W => False)
    (OwnFrom.and (fun x A B row hs hg hr => holdsRow_own w.heap.size W1.heap.size 37 3 1 (fun (pre : List (Im l)) => pre.length) (fun pre => ivs (pre.map fun x => th x.1)) (fun _ _ => True) x A B row hs hg (fun r e => (hr r e).2))
      (OwnFrom.and (ownFrom_below (Nat.le_refl _) (by omega)) (kpq_own (fun k hk => by
        rcases hk with rfl | hk
        · exact ⟨_, _, _, hbq⟩
        · exact qf_cells hq3 hk))))
    (fun c => fun s A B row hs hg hr => hs)
    ⟨⟨_, hbx, hr3, trivial⟩, hB3, fun _ _ => rfl⟩
    (fun x a' W => ∃ B, x.1.v = pv B ∧ a' = { tmps := #[pv Q, undef, .slice none 0 0, .pointer (some ⟨W1.heap.size, 0, none⟩), pv B, pv Q, .int .i64 l.length, .slice (some ⟨w.heap.size, 0, none⟩) 0 l.length, pv Q, .func (.func 47) #[] #[.pointer (some ⟨W1.heap.size + 1, 0, none⟩)], pv B, undef, undef, undef, undef, undef, undef, undef, undef], defers := [] })
    (fun x a' _ X Y row hs hg hr => hs)
    ?assign ?body ?done ?stop
  case assign =>
    rintro lp pre x W K hI hK
    obtain ⟨B, hB⟩ := hvs x.1 x.2
    simp only [encI, hB]
    gi_wp2
    exact hK _ _ ((KeepsOthers.refl _).from _) (fun _ _ => rfl) hI ⟨B, hB, rfl⟩
  case body =>
    rintro lp pre x a' W hl hr ⟨⟨v, hv, hrow, _⟩, hBW, hKW⟩ ⟨B, hxB, rfl⟩ hlt
    obtain ⟨B', d0, d1, d3, d4, hxB', hwt⟩ := ht x.1 x.2
    obtain rfl : B = B' := by rw [hxB] at hxB'; simpa using hxB'
    have hwW : W.heap[B]? = some (.cells #[d0, d1, .int .i64 (th x.1), d3, d4] 75 (0, 0)) := (hBW.block B (heap_lt hwt)).trans hwt
    obtain ⟨sp, cap, rfl⟩ := row_form hrow
    have cB : ∀ X, Below W.heap.size W X → X.cell? ⟨B, 2, none⟩ = some (.int .i64 (th x.1)) := fun X hX => (hX.cell (p := ⟨B, 2, none⟩) (heap_lt hwW)).trans (by simp [World.cell?, hwW])
    have cL : ∀ X, Below W.heap.size W X → X.cell? ⟨W1.heap.size, 0, none⟩ = some (.slice sp pre.length cap) := fun X hX => (hX.cell (p := ⟨W1.heap.size, 0, none⟩) hv.lt).trans hv.cell
    obtain ⟨tx, htx⟩ : ∃ tx, th x.1 = tx := ⟨_, rfl⟩
    rw [htx] at cB
    have HV := Lib.hid hv
    have HR := Lib.hid hrow
    have HBW := Lib.hid hBW
    have HKW := Lib.hid hKW
    have HTX := Lib.hid htx
    have HLT := Lib.hid hlt
    clear hv hrow hBW hKW hwt hwW hxB hxB' htx hlt
    gi_wp2_with fail
    refine wpIn_region_monoT 6 6 (fun kq v X => match kq with | 11 => v = .slice sp pre.length cap | 12 => v = pv B | 13 => v = pv B | 14 => v = .pointer (some ⟨B, 2, none⟩) | 15 => v = .int .i64 tx | 16 => I1V tx v X | _ => True) (by kernel_rfl) (by kernel_rfl) (by kernel_rfl) (by kernel_rfl) (by kernel_rfl) (by simp) (by kernel_rfl) ?_ ?_ ?_
    · intro kq v W W' h hb
      revert h
      try dsimp only
      split
      · intro h; exact h
      · intro h; exact h
      · intro h; exact h
      · intro h; exact h
      · intro h; exact h
      · intro h; exact I1V.below h hb
      · intro h; trivial
    · intro a' X hB hs hk i o d ho hd hG
      match i, ho with
      | 0, ho =>
        obtain rfl : _ = o := Option.some.inj ho
        obtain rfl : 11 = d := Option.some.inj hd
        have g3 : a'.eval (.tmp 3) = .pointer (some ⟨W1.heap.size, 0, none⟩) := hk 3 (by kernel_rfl)
        obtain ⟨ev, hev⟩ : ∃ ev, a'.eval = ev := ⟨_, rfl⟩
        rw [hev] at g3 ⊢
        clear hev hG hk
        have c1 := cB X hB
        have c2 := cL X hB
        exact .inr ⟨rfl, .inl ⟨.slice sp pre.length cap, X, by clear hs; go_simp, Below.refl _ _, rfl⟩⟩
      | 1, ho =>
        obtain rfl : _ = o := Option.some.inj ho
        obtain rfl : 12 = d := Option.some.inj hd
        have g4 : a'.eval (.tmp 4) = pv B := hk 4 (by kernel_rfl)
        obtain ⟨ev, hev⟩ : ∃ ev, a'.eval = ev := ⟨_, rfl⟩
        rw [hev] at g4 ⊢
        clear hev hG hk
        have c1 := cB X hB
        have c2 := cL X hB
        exact .inr ⟨rfl, .inl ⟨pv B, X, by clear hs; go_simp, Below.refl _ _, rfl⟩⟩
      | 2, ho =>
        obtain rfl : _ = o := Option.some.inj ho
        obtain rfl : 13 = d := Option.some.inj hd
        have g12 : a'.eval (.tmp 12) = pv B := hG ⟨1, .data⟩ (by simp) rfl 12 rfl
        obtain ⟨ev, hev⟩ : ∃ ev, a'.eval = ev := ⟨_, rfl⟩
        rw [hev] at g12 ⊢
        clear hev hG hk
        have c1 := cB X hB
        have c2 := cL X hB
        exact .inr ⟨rfl, .inl ⟨pv B, X, by clear hs; go_simp, Below.refl _ _, rfl⟩⟩
      | 3, ho =>
        obtain rfl : _ = o := Option.some.inj ho
        obtain rfl : 14 = d := Option.some.inj hd
        have g13 : a'.eval (.tmp 13) = pv B := hG ⟨2, .data⟩ (by simp) rfl 13 rfl
        obtain ⟨ev, hev⟩ : ∃ ev, a'.eval = ev := ⟨_, rfl⟩
        rw [hev] at g13 ⊢
        clear hev hG hk
        have c1 := cB X hB
        have c2 := cL X hB
        exact .inr ⟨rfl, .inl ⟨.pointer (some ⟨B, 2, none⟩), X, by clear hs; go_simp, Below.refl _ _, rfl⟩⟩
      | 4, ho =>
        obtain rfl : _ = o := Option.some.inj ho
        obtain rfl : 15 = d := Option.some.inj hd
        have g14 : a'.eval (.tmp 14) = .pointer (some ⟨B, 2, none⟩) := hG ⟨3, .data⟩ (by simp) rfl 14 rfl
        obtain ⟨ev, hev⟩ : ∃ ev, a'.eval = ev := ⟨_, rfl⟩
        rw [hev] at g14 ⊢
        clear hev hG hk
        have c1 := cB X hB
        have c2 := cL X hB
        exact .inr ⟨rfl, .inl ⟨.int .i64 tx, X, by clear hs; go_simp, Below.refl _ _, rfl⟩⟩
      | 5, ho =>
        obtain rfl : _ = o := Option.some.inj ho
        obtain rfl : 16 = d := Option.some.inj hd
        have g15 : a'.eval (.tmp 15) = .int .i64 tx := hG ⟨4, .data⟩ (by simp) rfl 15 rfl
        obtain ⟨ev, hev⟩ : ∃ ev, a'.eval = ev := ⟨_, rfl⟩
        rw [hev] at g15 ⊢
        clear hev hG hk
        have hr : (execOp ev { dst := some 16, op := .buildSlice 37 1 #[(0, .tmp 15)], type := 37, pos := "waiter.go:60", after := #[⟨4, .data⟩], guard := none }).run Try.prog X = .ok (.value (.slice (some ⟨X.heap.size, 0, none⟩) 1 1)) (X.alloc (.cells #[.int .i64 tx] 3)) := by clear hs; go_simp
        exact .inr ⟨rfl, .inl ⟨_, _, hr, (Below.refl _ _).alloc (Nat.le_refl _) _, ⟨X.heap.size, rfl, by simp [go_sem], by simp⟩⟩⟩
      | j + 6, ho => simp at ho
    · intro a' X hB hs hdf hk hG
      obtain ⟨tm, df⟩ := a'
      obtain rfl : df = [] := hdf
      have e0 : tm.getD 0 undef = pv Q := hk 0 (by kernel_rfl)
      have e1 : tm.getD 1 undef = undef := hk 1 (by kernel_rfl)
      have e2 : tm.getD 2 undef = .slice none 0 0 := hk 2 (by kernel_rfl)
      have e3 : tm.getD 3 undef = .pointer (some ⟨W1.heap.size, 0, none⟩) := hk 3 (by kernel_rfl)
      have e4 : tm.getD 4 undef = pv B := hk 4 (by kernel_rfl)
      have e5 : tm.getD 5 undef = pv Q := hk 5 (by kernel_rfl)
      have e6 : tm.getD 6 undef = .int .i64 l.length := hk 6 (by kernel_rfl)
      have e7 : tm.getD 7 undef = .slice (some ⟨w.heap.size, 0, none⟩) 0 l.length := hk 7 (by kernel_rfl)
      have e8 : tm.getD 8 undef = pv Q := hk 8 (by kernel_rfl)
      have e9 : tm.getD 9 undef = .func (.func 47) #[] #[.pointer (some ⟨W1.heap.size + 1, 0, none⟩)] := hk 9 (by kernel_rfl)
      have e10 : tm.getD 10 undef = pv B := hk 10 (by kernel_rfl)
      have e17 : tm.getD 17 undef = undef := hk 17 (by kernel_rfl)
      have e18 : tm.getD 18 undef = undef := hk 18 (by kernel_rfl)
      have g11 : (tm.getD 11 undef) = .slice sp pre.length cap := hG 0 11 (by decide) rfl
      have g12 : (tm.getD 12 undef) = pv B := hG 1 12 (by decide) rfl
      have g13 : (tm.getD 13 undef) = pv B := hG 2 13 (by decide) rfl
      have g14 : (tm.getD 14 undef) = .pointer (some ⟨B, 2, none⟩) := hG 3 14 (by decide) rfl
      have g15 : (tm.getD 15 undef) = .int .i64 tx := hG 4 15 (by decide) rfl
      have g16 : I1V tx (tm.getD 16 undef) X := hG 5 16 (by decide) rfl
      have htm := arr_of tm ((pv Q : Value) :: (undef : Value) :: (.slice none 0 0 : Value) :: (.pointer (some ⟨W1.heap.size, 0, none⟩) : Value) :: (pv B : Value) :: (pv Q : Value) :: (.int .i64 l.length : Value) :: (.slice (some ⟨w.heap.size, 0, none⟩) 0 l.length : Value) :: (pv Q : Value) :: (.func (.func 47) #[] #[.pointer (some ⟨W1.heap.size + 1, 0, none⟩)] : Value) :: (pv B : Value) :: (tm.getD 11 undef : Value) :: (tm.getD 12 undef : Value) :: (tm.getD 13 undef : Value) :: (tm.getD 14 undef : Value) :: (tm.getD 15 undef : Value) :: (tm.getD 16 undef : Value) :: (undef : Value) :: (undef : Value) :: []) hs (by show (tm.getD 0 undef :: tm.getD 1 undef :: tm.getD 2 undef :: tm.getD 3 undef :: tm.getD 4 undef :: tm.getD 5 undef :: tm.getD 6 undef :: tm.getD 7 undef :: tm.getD 8 undef :: tm.getD 9 undef :: tm.getD 10 undef :: tm.getD 11 undef :: tm.getD 12 undef :: tm.getD 13 undef :: tm.getD 14 undef :: tm.getD 15 undef :: tm.getD 16 undef :: tm.getD 17 undef :: tm.getD 18 undef :: []) = _; rw [e0, e1, e2, e3, e4, e5, e6, e7, e8, e9, e10, e17, e18]; try rfl)
      clear hs hk hG e0 e1 e2 e3 e4 e5 e6 e7 e8 e9 e10 e17 e18
      generalize tm.getD 11 undef = t11 at htm g11
      generalize tm.getD 12 undef = t12 at htm g12
      generalize tm.getD 13 undef = t13 at htm g13
      generalize tm.getD 14 undef = t14 at htm g14
      generalize tm.getD 15 undef = t15 at htm g15
      generalize tm.getD 16 undef = t16 at htm g16
      subst htm
      subst g11
      subst g12
      subst g13
      subst g14
      subst g15
      simp only [List.drop_succ_cons, List.drop_zero]
      obtain ⟨g6, rfl, c6, l6⟩ := g16
      have hRX : X.ownsRow w.heap.size 3 1 (.slice sp pre.length cap) pre.length (ivs (pre.map fun x => th x.1)) := row_same HR.out (fun k hk => hB.block k (HR.out.lt k hk).2)
      have HRX := Lib.hid hRX
      have HN : Hid (∀ j u, ([.int .i64 tx] : List Value)[j]? = some u → X.cell? ((⟨g6, 0, none⟩ : Addr).add j) = some u) := fun j u hu => by
        match j, hu with
        | 0, hu => simp at hu; subst hu; exact c6
        | j + 1, hu => simp at hu
      have HO : Hid (∀ u ∈ ([.int .i64 tx] : List Value), u.oneCell' = true) := fun u hu => by simp at hu; rcases hu with rfl; rfl
      have hpl : pre.length + 1 < 1000001 := by have := HLT.out; omega
      have hbX : w.heap.size ≤ X.heap.size := by have := HBW.out.size; have := hB.size; omega
      clear hRX
      gi_wp2_with (gi_at_builtin; refine wpListIn_append_own _ rfl _ _ 37 rfl w.heap.size 3 i0 (.int .i64 0) 1 8 (by kernel_rfl) hi hz0 hz1 hz2 rfl (by decide) _ _ _ rfl HRX.out ⟨g6, 0, none⟩ 1 1 [.int .i64 tx] rfl rfl HN.out HO.out (by unfold maxLen; omega) (by omega) hbX ?_; intro v' w4 hown4 hgrow4 hx4; refine Hid.out ?_)
      refine Lib.hid ?_
      obtain ⟨hv4, hv5, hr5, hk5, hb5, hc5⟩ := app_boxed HV.out hB HRX.out hgrow4 hown4 (by decide)
      obtain ⟨g', cap', rfl⟩ := ownsRow_succ hown4
      have y0 := hv4.cell
      have y1 := hv4.frozen
      clear hown4 hgrow4 hx4 hv4 HRX HN HO
      gi_wp2_with fail
      refine ⟨hk5.from _, fun k hk => ?_, ⟨_, hv5, ?_, trivial⟩, HBW.out.trans (hb5 _ (Nat.le_refl _) sz1 HBW.out.size), fun k hk => ?_⟩
      · obtain ⟨c, t, f, h1, h2, h3⟩ := hty k hk
        exact hc5 k c t f ((HKW.out k hk).trans h1) h2 (fun e => h3 (by
          have h4 : W.heap[k]? = _ := (HKW.out k hk).trans h1
          rw [e, show W.heap[W1.heap.size]? = _ from HV.out] at h4
          simp at h4
          exact h4.2.1.symm))
      · rw [List.length_append, List.map_append, show ivs (pre.map (fun x => th x.1) ++ [x].map (fun x => th x.1)) = ivs (pre.map fun x => th x.1) ++ [.int .i64 tx] from by unfold ivs; rw [List.map_append, ← HTX.out]; rfl]
        exact hr5
      · obtain ⟨c, t, f, h1, h2, h3⟩ := hty k hk
        rw [hc5 k c t f ((HKW.out k hk).trans h1) h2 (fun e => h3 (by
          have h4 : W.heap[k]? = _ := (HKW.out k hk).trans h1
          rw [e, show W.heap[W1.heap.size]? = _ from HV.out] at h4
          simp at h4
          exact h4.2.1.symm))]
        exact HKW.out k hk
  case done =>
    rintro D zs W hD hzs ⟨⟨v, hv, hrow, _⟩, hBW, _⟩ hK
    have hzl : zs.length = l.length := by have := congrArg List.length hzs; rwa [List.length_map] at this
    have hzm : (zs.map fun x => th x.1) = l.map th := by have := congrArg (List.map th) hzs; rwa [List.map_map] at this
    rw [hzl, hzm] at hrow
    obtain ⟨sp, cap, rfl⟩ := row_form hrow
    have y0 := hv.cell
    have HR := Lib.hid hrow
    have HB := Lib.hid hBW
    have HV := Lib.hid hv
    clear hrow hBW hv hzs
    gi_wp2_with fail
    refine ⟨by simp, .inl ⟨_, _, rfl, run_takeDeferred hK, ?_⟩⟩
    refine ⟨.slice sp l.length cap, ?_, _, rfl, ownsRow_putObj HR.out _ hK rfl, ?_⟩
    · simp [results, Try.results45, go_sem]
    · exact HB.out.trans (belowK_b (w := w) (Nat.le_refl _) W D _ _ (by omega) hK rfl rfl)
  case stop =>
    rintro D c ys W hD hK h hp
    exact h.elim
set_option maxRecDepth 100000 in
set_option maxHeartbeats 2000000 in
theorem threads_nil (w : World) : Calls Try.prog 45 #[np] w fun e w' => ∃ v, e = .returned v ∧ w'.ownsRow w.heap.size 3 1 v 0 [] ∧ Below w.heap.size w w' := by
  obtain ⟨i0, hi, hz0, hz1, hz2⟩ := info_parts intInfo
  have HS := Lib.hid (sizeW_nil w)
  obtain ⟨W1, hmk, hrow1, hg1⟩ := run_make_own (P := Try.prog) w w.heap.size 37 3 i0 (.int .i64 0) 1 (by kernel_rfl) hi hz0 hz1 .i64 .i64 0 (by rw [hz2]; omega) (by unfold maxLen; omega) (Nat.le_refl _)
  have hmk' : (Instr.makeSlice 37 (.int .i64 0) (.int .i64 0)).run Try.prog w = .ok (.slice (some ⟨w.heap.size, 0, none⟩) 0 0) W1 := hmk
  have HR1 := Lib.hid hrow1
  have HG1 := Lib.hid hg1
  clear hrow1 hg1 hmk
  refine (callsIn_wide (n := 3)).1 ?_
  have h1 : Fence.wide.fn 45 := trivial
  have h2 : Fence.wide.fn 57 := trivial
  have h3 : Fence.wide.fn 47 := trivial
  have h4 : Fence.wide.fn 26 := trivial
  have hro : Fence.wide.round = none := rfl
  refine callsIn_of_wp_marks Try.func45 rfl h1 ?_ hro
  simp only [Try.ntmps45, List.size_toArray, List.length_cons, List.length_nil, Nat.reduceAdd, Nat.reduceSub, Array.replicate_succ, Array.replicate_zero, List.push_toArray, List.append_toArray, List.nil_append, List.cons_append]
  gi_wp2_with (first
    | (gi_at_call 57; refine (callsIn_wide.2 HS.out).mono ?_; rintro e w' ⟨rfl, hw'⟩; rw [hw']; clear hw' w')
    | (gi_at_call 26; refine (callsIn_wide.2 (allW_any _ _)).mono ?_; rintro e w' ⟨rfl, rfl⟩))
  have hB1 : Below w.heap.size w W1 := (Below.refl _ _).grown HG1.out (Nat.le_refl _) (fun k e => by cases e)
  obtain ⟨W2, hW2⟩ : ∃ W2, W1.alloc (.cells #[.slice (some ⟨w.heap.size, 0, none⟩) 0 0] 37) = W2 := ⟨_, rfl⟩
  obtain ⟨W3, hW3⟩ : ∃ W3, W2.alloc (.cells #[.pointer none] 65) = W3 := ⟨_, rfl⟩
  rw [hW2, hW3]
  have sz1 := hB1.size
  have sz2 : W2.heap.size = W1.heap.size + 1 := by rw [← hW2]; simp
  have sz3 : W3.heap.size = W1.heap.size + 2 := by rw [← hW3]; simp; omega
  have hb12 : Below W1.heap.size W1 W2 := by rw [← hW2]; exact (Below.refl _ _).alloc (Nat.le_refl _) _
  have hb23 : Below W2.heap.size W2 W3 := by rw [← hW3]; exact (Below.refl _ _).alloc (Nat.le_refl _) _
  have hB3 : Below w.heap.size w W3 := (hB1.trans (hb12.mono sz1)).trans (hb23.mono (by omega))
  have hbx : Boxed W3 W1.heap.size 37 (.slice (some ⟨w.heap.size, 0, none⟩) 0 0) := (hb23.block _ (by omega)).trans (by rw [← hW2]; exact heap_new _ _)
  have hbq : Boxed W3 (W1.heap.size + 1) 65 np := by rw [← hW3, ← sz2]; exact heap_new _ _
  have hr3 : W3.ownsRow w.heap.size 3 1 (.slice (some ⟨w.heap.size, 0, none⟩) 0 0) 0 [] := row_same (row_same HR1.out (fun k hk => hb12.block k (HR1.out.lt k hk).2)) (fun k hk => hb23.block k (by have := (HR1.out.lt k hk).2; omega))
  clear hW2 hW3 hmk'
  refine wpIn_rangeFunc_ownH hro (by decide) (gf := 47) (lb := #[.pointer (some ⟨W1.heap.size + 1, 0, none⟩)]) rfl h3 (enters_of Try.func47 (by kernel_rfl) rfl)
    (allW_stops_nil 2 (W1.heap.size + 1) W3 hbq) (fun _ _ => trivial) (fun _ _ _ _ _ _ _ _ => trivial) (Below.refl _ _) (fun _ => rfl)
    (fun pre W => (∃ v, Boxed W W1.heap.size 37 v ∧ W.ownsRow w.heap.size 3 1 v 0 [] ∧ True) ∧ Below w.heap.size w W)
    (fun c pre W => False)
    (OwnFrom.and (fun x A B row hs hg hr => holdsRow_own w.heap.size W1.heap.size 37 3 1 (fun (_ : List (Im [])) => 0) (fun _ => []) (fun _ _ => True) x A B row hs hg (fun r e => (hr r e).2)) (ownFrom_below (Nat.le_refl _) (by omega)))
    (fun c => fun s A B row hs hg hr => hs)
    ⟨⟨_, hbx, hr3, trivial⟩, hB3⟩
    (fun x a' W => False)
    (fun x a' _ X Y row hs hg hr => hs)
    ?assign ?body ?done ?stop
  case assign =>
    rintro lp pre x W K hI hK
    exact absurd x.2 (by simp)
  case body =>
    rintro lp pre x a' W hl hr hI hA
    exact hA.elim
  case done =>
    rintro D zs W hD hzs ⟨⟨v, hv, hrow, _⟩, hBW⟩ hK
    obtain ⟨sp, cap, rfl⟩ := row_form hrow
    have y0 := hv.cell
    have HR := Lib.hid hrow
    have HB := Lib.hid hBW
    clear hrow hBW hv hzs
    gi_wp2_with fail
    refine ⟨by simp, .inl ⟨_, _, rfl, run_takeDeferred hK, ?_⟩⟩
    refine ⟨.slice sp 0 cap, ?_, _, rfl, ownsRow_putObj HR.out _ hK rfl, ?_⟩
    · simp [results, Try.results45, go_sem]
    · exact HB.out.trans (belowK_b (w := w) (Nat.le_refl _) W D _ _ (by omega) hK rfl rfl)
  case stop =>
    rintro D c ys W hD hK h hp
    exact h.elim
end Go.Proofs.Ythknnmllibdggaa
