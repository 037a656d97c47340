/- What Copy of the reference answers; both kinds of rooms side by side. -/
import Derived.Test.YthknnmllibdggaaRef6
namespace Go.Proofs.Ythknnmllibdggaa
open Go.RowKit Go.Sort
theorem exec_app {o : Oper} {ev : Operand → Value} {x y : Operand} {t : TypeId} {w w' : World} {v' vs vx : Value} (ho : o.op = .call { callee := .builtin .append, args := #[x, y], argTypes := #[t, t] }) (hx : ev x = vs) (hy : ev y = vx) (hr : (Builtin.append_ #[t, t] o.type #[vs, vx]).run Try.prog w = .ok v' w') : (execOp ev o).run Try.prog w = .ok (.value v') w' := by
  unfold execOp
  simp only [ho, resolve, invoke, builtin, Sem.run_bind, Sem.run_pure, Result.andThen_ok, List.map_toArray, List.map_cons, List.map_nil, hx, hy, hr]
theorem app_fresh {X : World} {g B b : Nat} {u : Value} {l : List Who} (hg : X.heap[g]? = some (.cells #[] 84 (0, 0))) (hB : B ≤ g) (hu : OR X b u l) (hl : l.length < 1000000) (ty : TypeId) :
    ∃ v' X', (Builtin.append_ #[27, 27] ty #[.slice (some ⟨g, 0, none⟩) 0 0, u]).run Try.prog X = .ok v' X' ∧ OR X' B v' l ∧ Below X.heap.size X X' := by
  obtain ⟨i0, hi, hz0, hz1, hz2⟩ := info_parts oneInfo
  have hT : Try.prog.underlying 27 = some (.slice 84) := by kernel_rfl
  have hgl := heap_lt hg
  have hown : OR X B (.slice (some ⟨g, 0, none⟩) 0 0) [] := ⟨rfl, .inr ⟨g, 0, #[], rfl, hB, hg, Nat.le_refl _, by unfold maxLen; omega, rfl, rfl⟩⟩
  rcases hu.2 with ⟨rfl, h0⟩ | ⟨h, cap, cur, rfl, h2, h3, h4⟩
  · have hl0 : l = [] := List.length_eq_zero_iff.1 h0
    subst hl0
    exact ⟨_, X, run_append_owned_none (P := Try.prog) X B 27 ty 84 i0 3 hT hi _ 0 [] hown, hown, Below.refl _ _⟩
  · have hn : ∀ j w, (onesC l)[j]? = some w → X.cell? ((⟨h, 0, none⟩ : Addr).add j) = some w := fun j w hj => by
      have hjl : j < l.length * 3 := by rw [← onesC_len]; exact (List.getElem?_eq_some_iff.1 hj).1
      have := hu.cellAt j hjl
      rw [show (⟨h, 0, none⟩ : Addr).add j = ⟨h, j, none⟩ from by simp [Addr.add]; exact Eq.symm, this, hj]
    obtain ⟨v', w', hr, ho', hgw, _, _⟩ := run_append_own_at (P := Try.prog) X B 27 ty 84 i0 (.agg #[.int .i64 0, .int .i64 0, .int .i64 0]) 3 24 hT hi hz0 hz1 hz2 rfl (by decide) _ 0 [] hown ⟨h, 0, none⟩ l.length cap (onesC l) (onesC_len _) hn (onesC_cell _) (by unfold maxLen; omega) (by omega) (by omega)
    rw [Nat.zero_add, List.nil_append] at ho'
    refine ⟨v', w', hr, ho', ?_⟩
    have hsame : w'.heap[g]? = X.heap[g]? := by
      by_cases e : l = []
      · subst e
        have h5 := run_append_room (P := Try.prog) X 27 ty 84 i0 hT hi g 0 0 #[] hg ⟨h, 0, none⟩ 0 cap [] (by simp) (fun j w hj => by simp at hj) (fun u hu => by simp at hu) (Nat.le_refl _) (by simp)
        have h6 := hr.symm.trans h5
        simp only [Result.ok.injEq] at h6
        rw [h6.2, setRow_heap X g #[] _ 84 _ hg, hg]; simp
      · have hp : 0 < l.length := List.length_pos_iff.2 e
        have h5 := run_append_grow (P := Try.prog) X 27 ty 84 i0 (.agg #[.int .i64 0, .int .i64 0, .int .i64 0]) hT hi hz0 ⟨g, 0, none⟩ 0 0 [] (by simp) (fun j w hj => by simp at hj) ⟨h, 0, none⟩ l.length cap (onesC l) (by rw [hz1]; exact onesC_len _) hn (by omega) (by omega) (growslice_fits (by omega) (by rw [hz2]; omega))
        rw [hr] at h5
        simp only [Result.ok.injEq] at h5
        rw [h5.2]
        exact Below.heap_alloc X.drew _ g hgl
    refine ⟨hgw.os, hgw.tape, hgw.output, hgw.size, fun k hk => ?_⟩
    by_cases e : k = g
    · rw [e]; exact hsame
    · exact hgw.block k hk (fun h => e (by simpa [Value.ownBlock] using h))
/-- A row of none, newly made. -/
def E0 (B : Nat) (v : Value) (X : World) : Prop := ∃ g, v = .slice (some ⟨g, 0, none⟩) 0 0 ∧ B ≤ g ∧ X.heap[g]? = some (.cells #[] 84 (0, 0))
theorem E0.below {B : Nat} {v : Value} {X X' : World} (h : E0 B v X) (hb : Below X.heap.size X X') : E0 B v X' := by
  obtain ⟨g, h1, h2, h3⟩ := h
  exact ⟨g, h1, h2, (hb.block g (heap_lt h3)).trans h3⟩
def ORV (B : Nat) (l : List Who) (v : Value) (X : World) : Prop := OR X B v l
theorem ORV.below {B : Nat} {l : List Who} {v : Value} {X X' : World} (h : ORV B l v X) (hb : Below X.heap.size X X') : ORV B l v X' := OR.below h hb
def PRV (B : Nat) (ra rl : List Who) (v : Value) (X : World) : Prop := ∃ a b, v = .agg #[a, b] ∧ OR X B a ra ∧ OR X B b rl
theorem PRV.below {B : Nat} {ra rl : List Who} {v : Value} {X X' : World} (h : PRV B ra rl v X) (hb : Below X.heap.size X X') : PRV B ra rl v X' := by
  obtain ⟨a, b, h1, h2, h3⟩ := h
  exact ⟨a, b, h1, OR.below h2 hb, OR.below h3 hb⟩
def BXV (B : Nat) (ra rl : List Who) (v : Value) (X : World) : Prop := ∃ q a b, v = pv q ∧ B ≤ q ∧ X.heap[q]? = some (.cells #[a, b] 29 (0, 0)) ∧ OR X B a ra ∧ OR X B b rl
theorem BXV.below {B : Nat} {ra rl : List Who} {v : Value} {X X' : World} (h : BXV B ra rl v X) (hb : Below X.heap.size X X') : BXV B ra rl v X' := by
  obtain ⟨q, a, b, h1, h2, h3, h4, h5⟩ := h
  exact ⟨q, a, b, h1, h2, (hb.block q (heap_lt h3)).trans h3, OR.below h4 hb, OR.below h5 hb⟩
set_option maxRecDepth 100000 in
set_option maxHeartbeats 4000000 in
theorem rCopy_any (w : World) (qb : Nat) (G : Nat → Prop) (ra rl : List Who) (N : Nat) (h : RFx w qb G ra rl N) (hN : N < 800000) :
    Calls Try.prog 11 #[pv qb] w fun e w' => ∃ qb' G', e = .returned (pv qb') ∧ RFx w' qb' G' ra rl N ∧ Below w.heap.size w w' ∧ (∀ k, G' k → w.heap.size ≤ k) ∧ ∀ k, G' k → k < w'.heap.size := by
  have HH := Lib.hid h
  have hl1 := h.lenA
  have hl2 := h.lenL
  obtain ⟨v1, v2, hq, ho1, ho2, _, _⟩ := h.rows
  obtain ⟨sp1, cp1, rfl⟩ := row_form ho1
  obtain ⟨sp2, cp2, rfl⟩ := row_form ho2
  have cW : ∀ X, Below w.heap.size w X → X.cell? ⟨qb, 0, none⟩ = some (.slice sp1 ra.length cp1) ∧ X.cell? ⟨qb, 1, none⟩ = some (.slice sp2 rl.length cp2) := fun X hX =>
    ⟨(hX.cell (p := ⟨qb, 0, none⟩) (heap_lt hq)).trans (by rw [cell_of_row _ _ _ _ _ _ hq]; rfl), (hX.cell (p := ⟨qb, 1, none⟩) (heap_lt hq)).trans (by rw [cell_of_row _ _ _ _ _ _ hq]; rfl)⟩
  have HO1 := Lib.hid ho1
  have HO2 := Lib.hid ho2
  clear hq ho1 ho2 h
  go_enter Try.func11, Try.ntmps11
  go_wp2_with fail
  refine wp_region_monoT 6 14 (fun kq v X => match kq with | 3 => E0 w.heap.size (v) X | 4 => v = pv qb | 5 => v = .pointer (some ⟨qb, 0, none⟩) | 6 => v = .pointer (some ⟨qb, 0, none⟩) | 7 => v = .slice sp1 ra.length cp1 | 8 => ORV w.heap.size ra (v) X | 9 => E0 w.heap.size (v) X | 10 => v = pv qb | 11 => v = .pointer (some ⟨qb, 0, none⟩) | 12 => v = .pointer (some ⟨qb, 1, none⟩) | 13 => v = .slice sp2 rl.length cp2 | 14 => ORV w.heap.size rl (v) X | 15 => PRV w.heap.size ra rl (v) X | 16 => BXV w.heap.size ra rl (v) X | _ => True) (by kernel_rfl) (by kernel_rfl) (by kernel_rfl) (by kernel_rfl) (by simp) (by kernel_rfl) ?_ ?_ ?_
  · intro kq v W W' h hb
    revert h
    try dsimp only
    split
    · intro h; exact h.below hb
    · intro h; exact h
    · intro h; exact h
    · intro h; exact h
    · intro h; exact h
    · intro h; exact h.below hb
    · intro h; exact h.below hb
    · intro h; exact h
    · intro h; exact h
    · intro h; exact h
    · intro h; exact h
    · intro h; exact h.below hb
    · intro h; exact h.below hb
    · intro h; exact h.below hb
    · intro h; trivial
  · intro a' X hB hs hk i o d ho hd hG
    match i, ho with
    | 0, ho =>
      obtain rfl : _ = o := Option.some.inj ho
      obtain rfl : 3 = d := Option.some.inj hd
      obtain ⟨ev, hev⟩ : ∃ ev, a'.eval = ev := ⟨_, rfl⟩
      rw [hev]
      clear hev hG hk
      have hr : (execOp ev { dst := some 3, op := .buildSlice 27 0 #[], type := 27, pos := "ref.go:139", after := #[], guard := none }).run Try.prog X = .ok (.value (.slice (some ⟨X.heap.size, 0, none⟩) 0 0)) (X.alloc (.cells #[] 84)) := by clear hs; go_simp
      exact .inr ⟨rfl, .inl ⟨_, _, hr, (Below.refl _ _).alloc (Nat.le_refl _) _, ⟨X.heap.size, rfl, hB.size, heap_new _ _⟩⟩⟩
    | 1, ho =>
      obtain rfl : _ = o := Option.some.inj ho
      obtain rfl : 4 = d := Option.some.inj hd
      have g0 : a'.eval (.tmp 0) = pv qb := hk 0 (by kernel_rfl)
      obtain ⟨ev, hev⟩ : ∃ ev, a'.eval = ev := ⟨_, rfl⟩
      rw [hev] at g0 ⊢
      clear hev hG hk
      obtain ⟨c1, c2⟩ := cW X hB
      exact .inr ⟨rfl, .inl ⟨pv qb, X, by clear hs; go_simp, Below.refl _ _, rfl⟩⟩
    | 2, ho =>
      obtain rfl : _ = o := Option.some.inj ho
      obtain rfl : 5 = d := Option.some.inj hd
      have g4 : a'.eval (.tmp 4) = pv qb := hG ⟨1, .data⟩ (by simp) rfl 4 rfl
      obtain ⟨ev, hev⟩ : ∃ ev, a'.eval = ev := ⟨_, rfl⟩
      rw [hev] at g4 ⊢
      clear hev hG hk
      obtain ⟨c1, c2⟩ := cW X hB
      exact .inr ⟨rfl, .inl ⟨.pointer (some ⟨qb, 0, none⟩), X, by clear hs; go_simp, Below.refl _ _, rfl⟩⟩
    | 3, ho =>
      obtain rfl : _ = o := Option.some.inj ho
      obtain rfl : 6 = d := Option.some.inj hd
      have g5 : a'.eval (.tmp 5) = .pointer (some ⟨qb, 0, none⟩) := hG ⟨2, .data⟩ (by simp) rfl 5 rfl
      obtain ⟨ev, hev⟩ : ∃ ev, a'.eval = ev := ⟨_, rfl⟩
      rw [hev] at g5 ⊢
      clear hev hG hk
      obtain ⟨c1, c2⟩ := cW X hB
      exact .inr ⟨rfl, .inl ⟨.pointer (some ⟨qb, 0, none⟩), X, by clear hs; go_simp, Below.refl _ _, rfl⟩⟩
    | 4, ho =>
      obtain rfl : _ = o := Option.some.inj ho
      obtain rfl : 7 = d := Option.some.inj hd
      have g6 : a'.eval (.tmp 6) = .pointer (some ⟨qb, 0, none⟩) := hG ⟨3, .data⟩ (by simp) rfl 6 rfl
      obtain ⟨ev, hev⟩ : ∃ ev, a'.eval = ev := ⟨_, rfl⟩
      rw [hev] at g6 ⊢
      clear hev hG hk
      obtain ⟨c1, c2⟩ := cW X hB
      exact .inr ⟨rfl, .inl ⟨.slice sp1 ra.length cp1, X, by clear hs; go_simp, Below.refl _ _, rfl⟩⟩
    | 5, ho =>
      obtain rfl : _ = o := Option.some.inj ho
      obtain rfl : 8 = d := Option.some.inj hd
      have g3 : E0 w.heap.size (a'.eval (.tmp 3)) X := hG ⟨0, .data⟩ (by simp) rfl 3 rfl
      have g7 : a'.eval (.tmp 7) = .slice sp1 ra.length cp1 := hG ⟨4, .data⟩ (by simp) rfl 7 rfl
      obtain ⟨ev, hev⟩ : ∃ ev, a'.eval = ev := ⟨_, rfl⟩
      rw [hev] at g3 g7 ⊢
      clear hev hG hk
      obtain ⟨gg, hv, hgb, hgg⟩ := g3
      obtain ⟨v', X', hr, ho, hb⟩ := app_fresh hgg hgb (HO1.out.below hB) (by omega) 27
      exact .inr ⟨rfl, .inl ⟨v', X', exec_app rfl hv g7 hr, hb, ho⟩⟩
    | 6, ho =>
      obtain rfl : _ = o := Option.some.inj ho
      obtain rfl : 9 = d := Option.some.inj hd
      obtain ⟨ev, hev⟩ : ∃ ev, a'.eval = ev := ⟨_, rfl⟩
      rw [hev]
      clear hev hG hk
      have hr : (execOp ev { dst := some 9, op := .buildSlice 27 0 #[], type := 27, pos := "ref.go:139", after := #[], guard := none }).run Try.prog X = .ok (.value (.slice (some ⟨X.heap.size, 0, none⟩) 0 0)) (X.alloc (.cells #[] 84)) := by clear hs; go_simp
      exact .inr ⟨rfl, .inl ⟨_, _, hr, (Below.refl _ _).alloc (Nat.le_refl _) _, ⟨X.heap.size, rfl, hB.size, heap_new _ _⟩⟩⟩
    | 7, ho =>
      obtain rfl : _ = o := Option.some.inj ho
      obtain rfl : 10 = d := Option.some.inj hd
      have g0 : a'.eval (.tmp 0) = pv qb := hk 0 (by kernel_rfl)
      obtain ⟨ev, hev⟩ : ∃ ev, a'.eval = ev := ⟨_, rfl⟩
      rw [hev] at g0 ⊢
      clear hev hG hk
      obtain ⟨c1, c2⟩ := cW X hB
      exact .inr ⟨rfl, .inl ⟨pv qb, X, by clear hs; go_simp, Below.refl _ _, rfl⟩⟩
    | 8, ho =>
      obtain rfl : _ = o := Option.some.inj ho
      obtain rfl : 11 = d := Option.some.inj hd
      have g10 : a'.eval (.tmp 10) = pv qb := hG ⟨7, .data⟩ (by simp) rfl 10 rfl
      obtain ⟨ev, hev⟩ : ∃ ev, a'.eval = ev := ⟨_, rfl⟩
      rw [hev] at g10 ⊢
      clear hev hG hk
      obtain ⟨c1, c2⟩ := cW X hB
      exact .inr ⟨rfl, .inl ⟨.pointer (some ⟨qb, 0, none⟩), X, by clear hs; go_simp, Below.refl _ _, rfl⟩⟩
    | 9, ho =>
      obtain rfl : _ = o := Option.some.inj ho
      obtain rfl : 12 = d := Option.some.inj hd
      have g11 : a'.eval (.tmp 11) = .pointer (some ⟨qb, 0, none⟩) := hG ⟨8, .data⟩ (by simp) rfl 11 rfl
      obtain ⟨ev, hev⟩ : ∃ ev, a'.eval = ev := ⟨_, rfl⟩
      rw [hev] at g11 ⊢
      clear hev hG hk
      obtain ⟨c1, c2⟩ := cW X hB
      exact .inr ⟨rfl, .inl ⟨.pointer (some ⟨qb, 1, none⟩), X, by clear hs; go_simp, Below.refl _ _, rfl⟩⟩
    | 10, ho =>
      obtain rfl : _ = o := Option.some.inj ho
      obtain rfl : 13 = d := Option.some.inj hd
      have g12 : a'.eval (.tmp 12) = .pointer (some ⟨qb, 1, none⟩) := hG ⟨9, .data⟩ (by simp) rfl 12 rfl
      obtain ⟨ev, hev⟩ : ∃ ev, a'.eval = ev := ⟨_, rfl⟩
      rw [hev] at g12 ⊢
      clear hev hG hk
      obtain ⟨c1, c2⟩ := cW X hB
      exact .inr ⟨rfl, .inl ⟨.slice sp2 rl.length cp2, X, by clear hs; go_simp, Below.refl _ _, rfl⟩⟩
    | 11, ho =>
      obtain rfl : _ = o := Option.some.inj ho
      obtain rfl : 14 = d := Option.some.inj hd
      have g9 : E0 w.heap.size (a'.eval (.tmp 9)) X := hG ⟨6, .data⟩ (by simp) rfl 9 rfl
      have g13 : a'.eval (.tmp 13) = .slice sp2 rl.length cp2 := hG ⟨10, .data⟩ (by simp) rfl 13 rfl
      obtain ⟨ev, hev⟩ : ∃ ev, a'.eval = ev := ⟨_, rfl⟩
      rw [hev] at g9 g13 ⊢
      clear hev hG hk
      obtain ⟨gg, hv, hgb, hgg⟩ := g9
      obtain ⟨v', X', hr, ho, hb⟩ := app_fresh hgg hgb (HO2.out.below hB) (by omega) 27
      exact .inr ⟨rfl, .inl ⟨v', X', exec_app rfl hv g13 hr, hb, ho⟩⟩
    | 12, ho =>
      obtain rfl : _ = o := Option.some.inj ho
      obtain rfl : 15 = d := Option.some.inj hd
      have g8 : ORV w.heap.size ra (a'.eval (.tmp 8)) X := hG ⟨5, .data⟩ (by simp) rfl 8 rfl
      have g14 : ORV w.heap.size rl (a'.eval (.tmp 14)) X := hG ⟨11, .data⟩ (by simp) rfl 14 rfl
      obtain ⟨ev, hev⟩ : ∃ ev, a'.eval = ev := ⟨_, rfl⟩
      rw [hev] at g8 g14 ⊢
      clear hev hG hk
      exact .inr ⟨rfl, .inl ⟨.agg #[ev (.tmp 8), ev (.tmp 14)], X, by clear hs; obtain ⟨s1, c1, e1⟩ := row_form g8; obtain ⟨s2, c2, e2⟩ := row_form g14; rw [e1, e2]; go_simp, Below.refl _ _, ⟨_, _, rfl, g8, g14⟩⟩⟩
    | 13, ho =>
      obtain rfl : _ = o := Option.some.inj ho
      obtain rfl : 16 = d := Option.some.inj hd
      have g15 : PRV w.heap.size ra rl (a'.eval (.tmp 15)) X := hG ⟨12, .data⟩ (by simp) rfl 15 rfl
      obtain ⟨ev, hev⟩ : ∃ ev, a'.eval = ev := ⟨_, rfl⟩
      rw [hev] at g15 ⊢
      clear hev hG hk
      obtain ⟨a, b, hv, ha, hb⟩ := g15
      obtain ⟨s1, c1, rfl⟩ := row_form ha
      obtain ⟨s2, c2, rfl⟩ := row_form hb
      have hr : (execOp ev { dst := some 16, op := .box 29 (.tmp 15), type := 26, pos := "ref.go:139", after := #[⟨12, .data⟩], guard := none }).run Try.prog X = .ok (.value (pv X.heap.size)) (X.alloc (.cells #[.slice s1 ra.length c1, .slice s2 rl.length c2] 29)) := by clear hs; go_simp
      exact .inr ⟨rfl, .inl ⟨_, _, hr, (Below.refl _ _).alloc (Nat.le_refl _) _, ⟨X.heap.size, _, _, rfl, hB.size, heap_new _ _, OR.below ha ((Below.refl _ _).alloc (Nat.le_refl _) _), OR.below hb ((Below.refl _ _).alloc (Nat.le_refl _) _)⟩⟩⟩
    | j + 14, ho => simp at ho
  · intro a' X hB hs hdf hk hG
    obtain ⟨tm, df⟩ := a'
    obtain rfl : df = [] := hdf
    have e0 : tm.getD 0 undef = pv qb := hk 0 (by kernel_rfl)
    have e1 : tm.getD 1 undef = undef := hk 1 (by kernel_rfl)
    have e2 : tm.getD 2 undef = .pointer none := hk 2 (by kernel_rfl)
    have g3 : E0 w.heap.size ((tm.getD 3 undef)) X := hG 0 3 (by decide) rfl
    have g4 : (tm.getD 4 undef) = pv qb := hG 1 4 (by decide) rfl
    have g5 : (tm.getD 5 undef) = .pointer (some ⟨qb, 0, none⟩) := hG 2 5 (by decide) rfl
    have g6 : (tm.getD 6 undef) = .pointer (some ⟨qb, 0, none⟩) := hG 3 6 (by decide) rfl
    have g7 : (tm.getD 7 undef) = .slice sp1 ra.length cp1 := hG 4 7 (by decide) rfl
    have g8 : ORV w.heap.size ra ((tm.getD 8 undef)) X := hG 5 8 (by decide) rfl
    have g9 : E0 w.heap.size ((tm.getD 9 undef)) X := hG 6 9 (by decide) rfl
    have g10 : (tm.getD 10 undef) = pv qb := hG 7 10 (by decide) rfl
    have g11 : (tm.getD 11 undef) = .pointer (some ⟨qb, 0, none⟩) := hG 8 11 (by decide) rfl
    have g12 : (tm.getD 12 undef) = .pointer (some ⟨qb, 1, none⟩) := hG 9 12 (by decide) rfl
    have g13 : (tm.getD 13 undef) = .slice sp2 rl.length cp2 := hG 10 13 (by decide) rfl
    have g14 : ORV w.heap.size rl ((tm.getD 14 undef)) X := hG 11 14 (by decide) rfl
    have g15 : PRV w.heap.size ra rl ((tm.getD 15 undef)) X := hG 12 15 (by decide) rfl
    have g16 : BXV w.heap.size ra rl ((tm.getD 16 undef)) X := hG 13 16 (by decide) rfl
    have htm := arr_of tm ((pv qb : Value) :: (undef : Value) :: (.pointer none : Value) :: (tm.getD 3 undef : Value) :: (tm.getD 4 undef : Value) :: (tm.getD 5 undef : Value) :: (tm.getD 6 undef : Value) :: (tm.getD 7 undef : Value) :: (tm.getD 8 undef : Value) :: (tm.getD 9 undef : Value) :: (tm.getD 10 undef : Value) :: (tm.getD 11 undef : Value) :: (tm.getD 12 undef : Value) :: (tm.getD 13 undef : Value) :: (tm.getD 14 undef : Value) :: (tm.getD 15 undef : Value) :: (tm.getD 16 undef : Value) :: []) hs (by show (tm.getD 0 undef :: tm.getD 1 undef :: tm.getD 2 undef :: tm.getD 3 undef :: tm.getD 4 undef :: tm.getD 5 undef :: tm.getD 6 undef :: tm.getD 7 undef :: tm.getD 8 undef :: tm.getD 9 undef :: tm.getD 10 undef :: tm.getD 11 undef :: tm.getD 12 undef :: tm.getD 13 undef :: tm.getD 14 undef :: tm.getD 15 undef :: tm.getD 16 undef :: []) = _; rw [e0, e1, e2]; try rfl)
    clear hs hk hG e0 e1 e2
    generalize tm.getD 3 undef = t3 at htm g3
    generalize tm.getD 4 undef = t4 at htm g4
    generalize tm.getD 5 undef = t5 at htm g5
    generalize tm.getD 6 undef = t6 at htm g6
    generalize tm.getD 7 undef = t7 at htm g7
    generalize tm.getD 8 undef = t8 at htm g8
    generalize tm.getD 9 undef = t9 at htm g9
    generalize tm.getD 10 undef = t10 at htm g10
    generalize tm.getD 11 undef = t11 at htm g11
    generalize tm.getD 12 undef = t12 at htm g12
    generalize tm.getD 13 undef = t13 at htm g13
    generalize tm.getD 14 undef = t14 at htm g14
    generalize tm.getD 15 undef = t15 at htm g15
    generalize tm.getD 16 undef = t16 at htm g16
    subst htm
    subst g4
    subst g5
    subst g6
    subst g7
    subst g10
    subst g11
    subst g12
    subst g13
    simp only [List.drop_succ_cons, List.drop_zero]
    obtain ⟨q, a, b, rfl, hqb, hqq, ha, hb⟩ := g16
    have HQQ := Lib.hid hqq
    have HA := Lib.hid ha
    have HBB := Lib.hid hb
    have HB := Lib.hid hB
    clear hqq ha hb hB g3 g8 g9 g14 g15
    go_wp2_with fail
    go_ret
    refine ⟨q, fun k => k = q ∨ a.ownBlock = some k ∨ b.ownBlock = some k, rfl, ⟨⟨a, b, HQQ.out, HA.out.mono (Nat.zero_le _), HBB.out.mono (Nat.zero_le _), fun k hk => .inr (.inl hk), fun k hk => .inr (.inr hk)⟩, .inl rfl, HH.out.nd, hl1, hl2⟩, HB.out, fun k hk => ?_, fun k hk => ?_⟩
    · rcases hk with rfl | hk | hk
      · exact hqb
      · exact (HA.out.lt k hk).1
      · exact (HBB.out.lt k hk).1
    · rcases hk with rfl | hk | hk
      · exact heap_lt HQQ.out
      · exact (HA.out.lt k hk).2
      · exact (HBB.out.lt k hk).2
end Go.Proofs.Ythknnmllibdggaa
