/- What Decode of package dir answers, for all bytes. -/
import Derived.Test.YthifejdphflfpaaDoorEnts
import Derived.Test.YthifejdphflfpaaDoorOrdB
import Derived.Maps.OwnIn
namespace Go.Proofs.YthifejdphflfpaaDoor
open Go.RowKit Go.Sort
attribute [local go_sem] Oper.semAt_some
def AllW (pre : List (Nm × Bool)) : Prop := ∀ x ∈ pre, x.2 = true
/-- The entries of bytes, if all are whole. -/
def parS (s : ByteArray) : Option (List Nm) := if s.size ≤ 4096 ∧ (allEn s).all (·.2) = true then some ((allEn s).map (·.1)) else none
def decE (s : ByteArray) : Int := match parS s with | some l => if rightL l = true then 0 else 2 | none => 2
def decL (s : ByteArray) : List Nm := match parS s with | some l => if rightL l = true then l else [] | none => []
theorem boxed_cell {W : World} {B : Nat} {t : TypeId} {v : Value} (h : Boxed W B t v) : W.cell? ⟨B, 0, none⟩ = some v := by
  have h' : W.heap[B]? = some (.cells #[v] t (0, 0)) := h
  simp [World.cell?, h']
theorem rowOf_boxed {W : World} {B : Nat} {t : TypeId} {v : Value} (h : Boxed W B t v) : rowOf W B = v.ownBlock := by
  unfold rowOf; rw [boxed_cell h]
set_option maxRecDepth 100000 in
set_option maxHeartbeats 1000000 in
theorem Decode_long (s : ByteArray) (w : World) (hs : 4096 < s.size) :
    Calls Tryd.prog 16 #[.string s] w fun e w' => e = .returned (.tuple #[.slice none 0 0, .int .i64 2]) ∧ Below w.heap.size w w' := by
  have hs1 : (4096 : Int) < (s.size : Int) := by omega
  go_enter Tryd.func16, Tryd.ntmps16
  go_upto_region 2 with fail
  obtain ⟨W0, hW0⟩ : ∃ W0, ((w.alloc (.cells #[.slice none 0 0] 22)).alloc (.cells #[.int .i64 0] 26)) = W0 := ⟨_, rfl⟩
  have hB0 : Below w.heap.size w W0 := by rw [← hW0]; go_grown
  have r2 : W0.cell? ⟨w.heap.size, 0, none⟩ = some (.slice none 0 0) := by rw [← hW0]; simp [go_sem]
  have rf2 : W0.frozen? ⟨w.heap.size, 0, none⟩ = false := by rw [← hW0]; simp [go_sem]
  have r3 : W0.cell? ⟨w.heap.size + 1, 0, none⟩ = some (.int .i64 0) := by rw [← hW0]; simp [go_sem]
  have rf3 : W0.frozen? ⟨w.heap.size + 1, 0, none⟩ = false := by rw [← hW0]; simp [go_sem]
  rw [hW0]
  clear hW0
  go_wp2
  have h0 : (W0.setCell ⟨w.heap.size, 0, none⟩ (.slice none 0 0)).cell? ⟨w.heap.size, 0, none⟩ = some (.slice none 0 0) := World.cell?_setCell_same' _ _ _ (by rw [r2]; rfl)
  refine bodyPost_ret (v := .tuple #[.slice none 0 0, .int .i64 2]) (by simp [results, Tryd.results16, go_sem, h0, r3]) rfl ⟨rfl, ?_⟩
  exact (hB0.setCell (p := ⟨w.heap.size, 0, none⟩) (by simp) _).setCell (p := ⟨w.heap.size + 1, 0, none⟩) (by simp) _
set_option maxRecDepth 100000 in
set_option maxHeartbeats 2000000 in
theorem Decode_any (s : ByteArray) (w : World) (hs : s.size ≤ 4096) :
    Calls Tryd.prog 16 #[.string s] w fun e w' => ∃ v, e = .returned (.tuple #[v, .int .i64 (decE s)]) ∧ OwnP w.heap.size (decL s) v w' ∧ Below w.heap.size w w' := by
  have hs1 : ¬ (4096 : Int) < (s.size : Int) := by omega
  obtain ⟨i0, hi, hz0, hz1, hz2⟩ := info_parts' nameInfo
  refine (callsIn_wide (n := 5)).1 ?_
  have f1 : Fence.wide.fn 16 := trivial
  have f2 : Fence.wide.fn 35 := trivial
  have f3 : Fence.wide.fn 49 := trivial
  have f4 : Fence.wide.fn 12 := trivial
  have hro : Fence.wide.round = none := rfl
  refine callsIn_of_wp_marks Tryd.func16 rfl f1 ?_ hro
  simp only [Tryd.ntmps16, List.size_toArray, List.length_cons, List.length_nil, Nat.reduceAdd, Nat.reduceSub, Array.replicate_succ, Array.replicate_zero, List.push_toArray, List.append_toArray, List.nil_append, List.cons_append]
  gi_wp2_with (gi_at_call 35; refine (callsIn_wide.2 (entries_any s _)).mono ?_; rintro e w' ⟨rfl, rfl⟩)
  obtain ⟨W0, hW0⟩ : ∃ W0, ((((w.alloc (.cells #[.slice none 0 0] 22)).alloc (.cells #[.int .i64 0] 26)).alloc (.cells #[.slice none 0 0] 22)).alloc (.cells #[.string s] 9)) = W0 := ⟨_, rfl⟩
  have hB0 : Below w.heap.size w W0 := by rw [← hW0]; go_grown
  have hsz : W0.heap.size = w.heap.size + 4 := by rw [← hW0]; simp
  have r2 : W0.cell? ⟨w.heap.size, 0, none⟩ = some (.slice none 0 0) := by rw [← hW0]; simp [go_sem]
  have rf2 : W0.frozen? ⟨w.heap.size, 0, none⟩ = false := by rw [← hW0]; simp [go_sem]
  have r3 : W0.cell? ⟨w.heap.size + 1, 0, none⟩ = some (.int .i64 0) := by rw [← hW0]; simp [go_sem]
  have rf3 : W0.frozen? ⟨w.heap.size + 1, 0, none⟩ = false := by rw [← hW0]; simp [go_sem]
  have t0 : W0.cell? ⟨w.heap.size + 3, 0, none⟩ = some (.string s) := by rw [← hW0]; simp [go_sem]
  have bl : Boxed W0 (w.heap.size + 2) 22 (.slice none 0 0) := by
    have e : ((w.alloc (.cells #[.slice none 0 0] 22)).alloc (.cells #[.int .i64 0] 26)).heap.size = w.heap.size + 2 := by simp
    rw [← hW0, ← e]; exact (Boxed.new _ 22 (.slice none 0 0)).alloc _
  rw [hW0]
  clear hW0
  have hrow0 : ∀ k, rowOf W0 (w.heap.size + 2) = some k → k < W0.heap.size := fun k e => by rw [rowOf_boxed bl] at e; simp [Value.ownBlock] at e
  refine wpIn_rangeFunc_ownH hro (by decide) (gf := 49) (lb := #[.pointer (some ⟨w.heap.size + 3, 0, none⟩)]) rfl f3 (enters_of Tryd.func49 (by kernel_rfl) rfl)
    (entries_stops 4 (by decide) (w.heap.size + 3) w.heap.size (w.heap.size + 2) s W0 hs (by omega) t0 (by omega) hrow0) kpe_t (kpe_b (by omega) (by omega)) (Below.refl _ _) (fun _ => rfl)
    (fun pre W => (∃ v, Boxed W (w.heap.size + 2) 22 v ∧ W.ownsRow (w.heap.size + 4) 25 3 v pre.length (flat (pre.map (·.1))) ∧ True) ∧ (AllW pre ∧ W.cell? ⟨w.heap.size, 0, none⟩ = some (.slice none 0 0) ∧ W.cell? ⟨w.heap.size + 1, 0, none⟩ = some (.int .i64 0) ∧ W.frozen? ⟨w.heap.size, 0, none⟩ = false ∧ W.frozen? ⟨w.heap.size + 1, 0, none⟩ = false) ∧ Below w.heap.size w W ∧ W0.heap.size ≤ W.heap.size)
    (fun c pre W => (c = .ret ∧ ¬ AllW pre ∧ W.cell? ⟨w.heap.size, 0, none⟩ = some (.slice none 0 0) ∧ W.cell? ⟨w.heap.size + 1, 0, none⟩ = some (.int .i64 2)) ∧ Below w.heap.size w W)
    (OwnFrom.and (Own.from (holdsRow_own (w.heap.size + 4) (w.heap.size + 2) 22 25 3 _ _ _) _) (OwnFrom.and (Own.from (fun s A B row hs hg hr => ⟨hs.1, cell_kept hs.2.1 hg hr, cell_kept hs.2.2.1 hg hr, (frozen_kept hs.2.1 hg hr).trans hs.2.2.2.1, (frozen_kept hs.2.2.1 hg hr).trans hs.2.2.2.2⟩) _) (OwnFrom.and (ownFrom_below (Nat.le_refl _) (by omega)) (fun s A B row hs hg _ => Nat.le_trans hs hg.size))))
    (fun c => OwnFrom.and (Own.from (fun s A B row hs hg hr => ⟨hs.1, hs.2.1, cell_kept hs.2.2.1 hg hr, cell_kept hs.2.2.2 hg hr⟩) _) (ownFrom_below (Nat.le_refl _) (by omega)))
    ⟨⟨_, bl, World.ownsRow_nil _ _ _ _, trivial⟩, ⟨(fun x hx => by cases hx), r2, r3, rf2, rf3⟩, hB0, Nat.le_refl _⟩
    (fun x a' W => ∃ Bx, w.heap.size + 4 ≤ Bx ∧ W.cell? ⟨Bx, 0, none⟩ = some (.string x.1.nm) ∧ W.cell? ⟨Bx, 1, none⟩ = some (.int .i64 x.1.kd) ∧ W.cell? ⟨Bx, 2, none⟩ = some (.int .i64 x.1.id) ∧ a' = { tmps := #[.string s, undef, .pointer (some ⟨w.heap.size, 0, none⟩), .pointer (some ⟨w.heap.size + 1, 0, none⟩), .pointer (some ⟨w.heap.size + 1 + 1, 0, none⟩), .pointer (some ⟨Bx, 0, none⟩), .bool x.2, .string s, .int .i64 s.size, .bool false, .string s, .func (.func 49) #[] #[.pointer (some ⟨w.heap.size + 1 + 1 + 1, 0, none⟩)], .agg #[.string x.1.nm, .int .i64 x.1.kd, .int .i64 x.1.id], .bool x.2, undef, undef, undef, undef, undef, undef, undef, undef, undef, undef], defers := [] })
    (fun x a' _ X Y row hs hg hr => by obtain ⟨Bx, h1, h2, h3, h4, h5⟩ := hs; exact ⟨Bx, h1, cell_kept h2 hg (fun r e => (hr r e).2), cell_kept h3 hg (fun r e => (hr r e).2), cell_kept h4 hg (fun r e => (hr r e).2), h5⟩)
    ?assign ?body ?done ?stop
  case assign =>
    rintro l pre ⟨m, b⟩ W K ⟨⟨v, hv, hown, _⟩, ⟨hall, g2, g3, gf2, gf3⟩, hB, hz⟩ hK
    simp only [encY, nmV]
    gi_wp2
    have hbA : Below W.heap.size W (W.alloc (.cells #[.string m.nm, .int .i64 m.kd, .int .i64 m.id] 25)) := (Below.refl _ _).alloc (Nat.le_refl _) _
    refine hK _ _ ((KeepsOthers.alloc _ _).from _) (kpe_below hbA (by omega) (by omega)) ⟨⟨v, hv.alloc _, hown.alloc _, trivial⟩, ⟨hall, (hbA.cell (p := ⟨w.heap.size, 0, none⟩) (by simp; omega)).trans g2, (hbA.cell (p := ⟨w.heap.size + 1, 0, none⟩) (by simp; omega)).trans g3, (hbA.frozen (p := ⟨w.heap.size, 0, none⟩) (by simp; omega)).trans gf2, (hbA.frozen (p := ⟨w.heap.size + 1, 0, none⟩) (by simp; omega)).trans gf3⟩, hB.trans (hbA.mono hB.size), Nat.le_trans hz hbA.size⟩ ⟨W.heap.size, by omega, by simp [go_sem], by simp [go_sem], by simp [go_sem], rfl⟩
  case body =>
    rintro l pre ⟨m, b⟩ a' W hl hr ⟨⟨v, hv, hown, _⟩, ⟨hall, g2, g3, gf2, gf3⟩, hB, hz⟩ ⟨Bx, hBx, c0, c1, c2, rfl⟩ hlt
    dsimp only at c0 c1 c2 ⊢
    cases b
    · gi_wp2
      have hBS : Below w.heap.size w ((W.setCell ⟨w.heap.size, 0, none⟩ (.slice none 0 0)).setCell ⟨w.heap.size + 1, 0, none⟩ (.int .i64 2)) := (hB.setCell (p := ⟨w.heap.size, 0, none⟩) (by simp) _).setCell (p := ⟨w.heap.size + 1, 0, none⟩) (by simp) _
      refine ⟨((KeepsOthers.setCell _ _ _).trans (KeepsOthers.setCell _ _ _)).from _, ⟨rfl, fun h => ?_, ?_, ?_⟩, hBS⟩
      · have := h (m, false) (by simp)
        cases this
      · have h0 : (W.setCell ⟨w.heap.size, 0, none⟩ (.slice none 0 0)).cell? ⟨w.heap.size, 0, none⟩ = some (.slice none 0 0) := World.cell?_setCell_same' _ _ _ (by rw [g2]; rfl)
        simp [go_sem, h0]
      · exact World.cell?_setCell_same' _ _ _ (by simp [go_sem, g3])
    · have rc := boxed_cell hv
      have rfz := hv.frozen
      have hownA := hown.alloc (.cells #[.string m.nm, .int .i64 m.kd, .int .i64 m.id] 25)
      have hnews : Hid (∀ j u, (nmC m)[j]? = some u → (W.alloc (.cells #[.string m.nm, .int .i64 m.kd, .int .i64 m.id] 25)).cell? ((⟨W.heap.size, 0, none⟩ : Addr).add j) = some u) := fun j u hu => by
        rw [addr_plus]
        exact (NmAt.new W m).nth j u hu
      have hone : Hid (∀ u ∈ nmC m, u.oneCell' = true) := fun u hu => flat_one [m] u (by simpa [flat] using hu)
      have hlen : pre.length + 1 ≤ maxLen := by unfold maxLen; omega
      have hlen32 : (pre.length + 1) * 32 ≤ 140737488355328 := by omega
      have hzA : w.heap.size + 4 ≤ (W.alloc (.cells #[.string m.nm, .int .i64 m.kd, .int .i64 m.id] 25)).heap.size := by simp; omega
      gi_wp2_with (gi_at_builtin; refine wpListIn_append_own_at _ rfl _ _ 22 rfl (w.heap.size + 4) 25 i0 (.agg #[.string ⟨#[]⟩, .int .i64 0, .int .i64 0]) 3 32 Tryd.underlying22 hi hz0 hz1 hz2 rfl (by decide) _ _ _ rfl hownA ⟨W.heap.size, 0, none⟩ 1 1 (nmC m) rfl rfl hnews.out hone.out hlen hlen32 hzA ?_; intro v' w3 hown' hgrow3 hnil3 hat3; refine Hid.out ?_)
      refine Lib.hid ?_
      obtain ⟨g', cap', rfl⟩ : ∃ g cap, v' = .slice (some ⟨g, 0, none⟩) (pre.length + 1) cap := by
        rcases hown'.2 with ⟨_, h0⟩ | ⟨g, cap, _, h, _⟩
        · omega
        · exact ⟨g, cap, h⟩
      have hap := hv.appended (by decide) (row_mono hown (show w.heap.size ≤ w.heap.size + 4 by omega)) (by omega) (by omega) (row_mono hown' (show w.heap.size ≤ w.heap.size + 4 by omega)) hgrow3
      have hv3 := hap.1
      have rc3 := boxed_cell hv3
      have rf3' := hv3.frozen
      have HAp := Lib.hid hap
      have HOwn := Lib.hid hown'
      have HG3 := Lib.hid hgrow3
      have HAt : Hid ((Value.slice (some ⟨g', 0, none⟩) (pre.length + 1) cap').ownBlock = v.ownBlock ∨ (Value.slice (some ⟨g', 0, none⟩) (pre.length + 1) cap').ownBlock = some (W.alloc (.cells #[.string m.nm, .int .i64 m.kd, .int .i64 m.id] 25)).heap.size) := hat3
      have HV3 := Lib.hid hv3
      clear hap hown' hgrow3 hnil3 hat3 hv3 rc rfz hownA hnews hone
      gi_wp2
      have hb3 : Below (w.heap.size + 4) W w3 := Below.grown ((Below.refl _ W).alloc (by omega) _) HG3.out hzA (fun j e => (hown.lt j e).1)
      have hset : Below (w.heap.size + 2) w3 (w3.setCell ⟨w.heap.size + 2, 0, none⟩ (.slice (some ⟨g', 0, none⟩) (pre.length + 1) cap')) := (Below.refl _ _).setCell (p := ⟨w.heap.size + 2, 0, none⟩) (Nat.le_refl _) _
      have hbW : Below (w.heap.size + 2) W (w3.setCell ⟨w.heap.size + 2, 0, none⟩ (.slice (some ⟨g', 0, none⟩) (pre.length + 1) cap')) := (hb3.mono (by omega)).trans hset
      refine ⟨HAp.out.2.2.2.1.from _, ⟨HAp.out.2.2.2.2, ?_, ?_, ?_⟩, ⟨⟨_, HAp.out.2.1, ?_, trivial⟩, ⟨?_, ?_, ?_, ?_, ?_⟩, hB.trans HAp.out.2.2.2.2, ?_⟩⟩
      · intro k cs t fz hk hne hrw
        rw [rowOf_boxed hv] at hrw
        have hlt := (Array.getElem?_eq_some_iff.1 hk).1
        exact (heap_ne w3 ⟨w.heap.size + 2, 0, none⟩ _ hne).trans ((HG3.out.block k (by simp; omega) (fun e => hrw e.symm)).trans ((Below.heap_alloc _ _ _ hlt).trans hk))
      · intro k e
        rw [rowOf_boxed HAp.out.2.1] at e
        rw [rowOf_boxed hv]
        rcases HAt.out with h | h
        · left; rw [← h]; exact e
        · right; rw [h] at e; have := Option.some.inj e; simp at this; omega
      · intro _ k e
        rw [rowOf_boxed HAp.out.2.1] at e
        exact Nat.lt_of_lt_of_le (HOwn.out.lt k e).2 hset.size
      · rw [List.length_append, List.map_append, flat_append]
        have := row_same HOwn.out (w' := w3.setCell ⟨w.heap.size + 2, 0, none⟩ (.slice (some ⟨g', 0, none⟩) (pre.length + 1) cap')) (fun k hk => heap_ne w3 ⟨w.heap.size + 2, 0, none⟩ _ (by have := (HOwn.out.lt k hk).1; show k ≠ w.heap.size + 2; omega))
        rw [show flat (List.map (fun x => x.1) [(m, true)]) = nmC m from by simp [flat]]
        exact this
      · intro x hx
        rcases List.mem_append.1 hx with hx | hx
        · exact hall x hx
        · simp at hx; subst hx; rfl
      · exact (hbW.cell (p := ⟨w.heap.size, 0, none⟩) (by show w.heap.size < w.heap.size + 2; omega)).trans g2
      · exact (hbW.cell (p := ⟨w.heap.size + 1, 0, none⟩) (by show w.heap.size + 1 < w.heap.size + 2; omega)).trans g3
      · exact (hbW.frozen (p := ⟨w.heap.size, 0, none⟩) (by show w.heap.size < w.heap.size + 2; omega)).trans gf2
      · exact (hbW.frozen (p := ⟨w.heap.size + 1, 0, none⟩) (by show w.heap.size + 1 < w.heap.size + 2; omega)).trans gf3
      · exact Nat.le_trans hz hbW.size
  case done =>
    rintro D zs W hD rfl ⟨⟨v, hv, hown, _⟩, ⟨hall, g2, g3, gf2, gf3⟩, hB, hz⟩ hK
    have hDl : D < W.heap.size := (Array.getElem?_eq_some_iff.1 hK).1
    have hpar : parS s = some ((allEn s).map (·.1)) := by
      unfold parS; rw [if_pos]
      exact ⟨hs, List.all_eq_true.2 hall⟩
    have hDE : decE s = if rightL ((allEn s).map (·.1)) = true then 0 else 2 := by unfold decE; rw [hpar]
    have hDL : decL s = if rightL ((allEn s).map (·.1)) = true then (allEn s).map (·.1) else [] := by unfold decL; rw [hpar]
    have hlen : (allEn s).length = ((allEn s).map (·.1)).length := by simp
    rw [hlen] at hown
    have hll : ((allEn s).map (·.1)).length ≤ 4096 := by rw [← hlen]; exact Nat.le_trans (entF_len _ _) hs
    clear hlen hpar
    generalize (allEn s).map (·.1) = L at *
    obtain ⟨pv, cv, rfl, -, hR⟩ := own_rat hown
    have rc := boxed_cell hv
    have HRt := Lib.hid (Right_any pv cv L W (by unfold maxLen; omega) hR.row)
    have HOwn : Hid (OwnP (w.heap.size + 4) L (.slice pv L.length cv) W) := hown
    clear hown hR
    cases hr : rightL L
    · rw [hr] at HRt
      have HE : Hid (decE s = 2) := by simp only [Hid]; rw [hDE, if_neg (by simp [hr])]
      have HL : Hid (decL s = []) := by simp only [Hid]; rw [hDL, if_neg (by simp [hr])]
      clear hDE hDL
      gi_wp2_with (gi_at_call 12; refine (callsIn_wide.2 HRt.out).mono ?_; rintro e w5 ⟨rfl, hb1⟩; have x0 := (hb1.cell (p := ⟨w.heap.size, 0, none⟩) (by show w.heap.size < W.heap.size; omega)).trans g2; have x1 := (hb1.cell (p := ⟨w.heap.size + 1, 0, none⟩) (by show w.heap.size + 1 < W.heap.size; omega)).trans g3; have xf0 := (hb1.frozen (p := ⟨w.heap.size, 0, none⟩) (by show w.heap.size < W.heap.size; omega)).trans gf2; have xf1 := (hb1.frozen (p := ⟨w.heap.size + 1, 0, none⟩) (by show w.heap.size + 1 < W.heap.size; omega)).trans gf3)
      have hb1' : Below W.heap.size W w5 := hb1
      have hK5 : w5.heap[D]? = some (.deferred (some [])) := (hb1'.block D hDl).trans hK
      obtain ⟨W7, hW7⟩ : ∃ W7, W7 = (w5.setCell ⟨w.heap.size, 0, none⟩ (.slice none 0 0)).setCell ⟨w.heap.size + 1, 0, none⟩ (.int .i64 2) := ⟨_, rfl⟩
      have hK7 : W7.heap[D]? = some (.deferred (some [])) := by
        rw [hW7]
        exact (KeepsOthers.setCell _ _ _).same D _ ((KeepsOthers.setCell _ _ _).same D _ hK5 rfl) rfl
      have y0 := (hb1'.cell (p := ⟨w.heap.size, 0, none⟩) (by show w.heap.size < W.heap.size; omega)).trans g2
      have y1 := (hb1'.cell (p := ⟨w.heap.size + 1, 0, none⟩) (by show w.heap.size + 1 < W.heap.size; omega)).trans g3
      have z0 : W7.cell? ⟨w.heap.size, 0, none⟩ = some (.slice none 0 0) := by
        have h0 : (w5.setCell ⟨w.heap.size, 0, none⟩ (.slice none 0 0)).cell? ⟨w.heap.size, 0, none⟩ = some (.slice none 0 0) := World.cell?_setCell_same' _ _ _ (by rw [y0]; rfl)
        rw [hW7]; simp [go_sem, h0]
      have z1 : W7.cell? ⟨w.heap.size + 1, 0, none⟩ = some (.int .i64 2) := by rw [hW7]; exact World.cell?_setCell_same' _ _ _ (by simp [go_sem, y1])
      have hB7 : Below w.heap.size w W7 := by
        rw [hW7]; exact ((hB.trans (hb1'.mono hB.size)).setCell (p := ⟨w.heap.size, 0, none⟩) (by simp) _).setCell (p := ⟨w.heap.size + 1, 0, none⟩) (by simp) _

      rw [← hW7]
      clear hW7
      have k0 := cell_kept z0 (grownBy_putObj' W7 D (.deferred none)) (fun r e => by cases e; exact ⟨_, hK7, rfl⟩)
      have k1 := cell_kept z1 (grownBy_putObj' W7 D (.deferred none)) (fun r e => by cases e; exact ⟨_, hK7, rfl⟩)
      refine ⟨by simp, .inl ⟨_, _, rfl, run_takeDeferred hK7, ?_⟩⟩
      refine ⟨.tuple #[.slice none 0 0, .int .i64 2], ?_, ⟨_, by rw [HE.out], ?_, hB7.trans (belowK_b (w := w) (Nat.le_refl _) W7 D _ _ (by omega) hK7 rfl rfl)⟩⟩
      · simp [results, Tryd.results16, go_sem, k0, k1]
      · rw [HL.out]
        exact OwnP.nil _ _
    · rw [hr] at HRt
      have HE : Hid (decE s = 0) := by simp only [Hid]; rw [hDE, if_pos hr]
      have HL : Hid (decL s = L) := by simp only [Hid]; rw [hDL, if_pos hr]
      clear hDE hDL
      gi_wp2_with (gi_at_call 12; refine (callsIn_wide.2 HRt.out).mono ?_; rintro e w5 ⟨rfl, hb1⟩; have x0 := (hb1.cell (p := ⟨w.heap.size, 0, none⟩) (by show w.heap.size < W.heap.size; omega)).trans g2; have x1 := (hb1.cell (p := ⟨w.heap.size + 1, 0, none⟩) (by show w.heap.size + 1 < W.heap.size; omega)).trans g3; have xf0 := (hb1.frozen (p := ⟨w.heap.size, 0, none⟩) (by show w.heap.size < W.heap.size; omega)).trans gf2; have xf1 := (hb1.frozen (p := ⟨w.heap.size + 1, 0, none⟩) (by show w.heap.size + 1 < W.heap.size; omega)).trans gf3; have xl := boxed_cell (show Boxed w5 (w.heap.size + 2) 22 _ from (hb1.block (w.heap.size + 2) (by omega)).trans hv))
      have hb1' : Below W.heap.size W w5 := hb1
      have hK5 : w5.heap[D]? = some (.deferred (some [])) := (hb1'.block D hDl).trans hK
      obtain ⟨W7, hW7⟩ : ∃ W7, W7 = (w5.setCell ⟨w.heap.size, 0, none⟩ (.slice pv L.length cv)).setCell ⟨w.heap.size + 1, 0, none⟩ (.int .i64 0) := ⟨_, rfl⟩
      have hK7 : W7.heap[D]? = some (.deferred (some [])) := by
        rw [hW7]
        exact (KeepsOthers.setCell _ _ _).same D _ ((KeepsOthers.setCell _ _ _).same D _ hK5 rfl) rfl
      have y0 := (hb1'.cell (p := ⟨w.heap.size, 0, none⟩) (by show w.heap.size < W.heap.size; omega)).trans g2
      have y1 := (hb1'.cell (p := ⟨w.heap.size + 1, 0, none⟩) (by show w.heap.size + 1 < W.heap.size; omega)).trans g3
      have z0 : W7.cell? ⟨w.heap.size, 0, none⟩ = some (.slice pv L.length cv) := by
        have h0 : (w5.setCell ⟨w.heap.size, 0, none⟩ (.slice pv L.length cv)).cell? ⟨w.heap.size, 0, none⟩ = some (.slice pv L.length cv) := World.cell?_setCell_same' _ _ _ (by rw [y0]; rfl)
        rw [hW7]; simp [go_sem, h0]
      have z1 : W7.cell? ⟨w.heap.size + 1, 0, none⟩ = some (.int .i64 0) := by rw [hW7]; exact World.cell?_setCell_same' _ _ _ (by simp [go_sem, y1])
      have hB7 : Below w.heap.size w W7 := by
        rw [hW7]; exact ((hB.trans (hb1'.mono hB.size)).setCell (p := ⟨w.heap.size, 0, none⟩) (by simp) _).setCell (p := ⟨w.heap.size + 1, 0, none⟩) (by simp) _
      have hO7 : OwnP (w.heap.size + 4) L (.slice pv L.length cv) W7 := by
        have h5 : OwnP (w.heap.size + 4) L (.slice pv L.length cv) w5 := OwnP.mono HOwn.out hb1'
        rw [hW7]
        refine h5.same fun k hk => ?_
        have := (World.ownsRow.lt h5 k hk).1
        exact (heap_ne _ ⟨w.heap.size + 1, 0, none⟩ _ (show k ≠ w.heap.size + 1 by omega)).trans (heap_ne _ ⟨w.heap.size, 0, none⟩ _ (show k ≠ w.heap.size by omega))
      rw [← hW7]
      clear hW7
      have k0 := cell_kept z0 (grownBy_putObj' W7 D (.deferred none)) (fun r e => by cases e; exact ⟨_, hK7, rfl⟩)
      have k1 := cell_kept z1 (grownBy_putObj' W7 D (.deferred none)) (fun r e => by cases e; exact ⟨_, hK7, rfl⟩)
      refine ⟨by simp, .inl ⟨_, _, rfl, run_takeDeferred hK7, ?_⟩⟩
      refine ⟨.tuple #[.slice pv L.length cv, .int .i64 0], ?_, ⟨_, by rw [HE.out], ?_, hB7.trans (belowK_b (w := w) (Nat.le_refl _) W7 D _ _ (by omega) hK7 rfl rfl)⟩⟩
      · simp [results, Tryd.results16, go_sem, k0, k1]
      · rw [HL.out]
        refine OwnP.le (OwnP.same hO7 fun k hk => World.putObj_heap_other (fun e => ?_)) (by omega)
        subst e
        rcases hO7.2 with ⟨hv0, _⟩ | ⟨g, c, cur, hv0, _, hgb, _⟩
        · rw [hv0] at hk; simp [Value.ownBlock] at hk
        · rw [hv0] at hk
          have := Option.some.inj (show some g = some k from hk)
          subst this
          rw [hK7] at hgb; cases hgb
  case stop =>
    rintro D c pre W hD hpre ⟨⟨rfl, hin, h2, h3⟩, hB⟩ hK
    have hpar : parS s = none := by
      unfold parS; rw [if_neg]
      rintro ⟨_, h⟩
      exact hin fun x hx => List.all_eq_true.1 h x (hpre.subset hx)
    have hDE : decE s = 2 := by unfold decE; rw [hpar]
    have hDL : decL s = [] := by unfold decL; rw [hpar]
    gi_wp2
    refine ⟨by simp, .inl ⟨_, _, rfl, run_takeDeferred hK, ?_⟩⟩
    have k0 := cell_kept h2 (grownBy_putObj' _ D (.deferred none)) (fun r e => by cases e; exact ⟨_, hK, rfl⟩)
    have k1 := cell_kept h3 (grownBy_putObj' _ D (.deferred none)) (fun r e => by cases e; exact ⟨_, hK, rfl⟩)
    refine ⟨.tuple #[.slice none 0 0, .int .i64 2], ?_, ⟨_, by rw [hDE], by rw [hDL]; exact OwnP.nil _ _, hB.trans (belowK_b (w := w) (Nat.le_refl _) W D _ _ (by omega) hK rfl rfl)⟩⟩
    simp [results, Tryd.results16, go_sem, k0, k1]
end Go.Proofs.YthifejdphflfpaaDoor
