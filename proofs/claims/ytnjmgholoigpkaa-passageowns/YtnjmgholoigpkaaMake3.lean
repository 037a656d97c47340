/- What Make of package label answers, of any entries. -/
import Derived.Test.YtnjmgholoigpkaaMake
import Derived.Test.YtnjmgholoigpkaaMake2
/- What Compact of package slices does with any row of entries that is the call's own. -/
namespace Go.Proofs.Ytnjmgholoigpkaa
open Go.RowKit Go.Sort

/-- A row of entries that may be written. -/
def RG (W : World) (g : Nat) (cur : List (Int × Int)) : Prop := ∀ j, (h : j < cur.length) → (W.cell? ⟨g, j * 2, none⟩ = some (.int .i64 cur[j].1) ∧ W.cell? ⟨g, j * 2 + 1, none⟩ = some (.int .i64 cur[j].2)) ∧ W.frozen? ⟨g, j * 2, none⟩ = false ∧ W.frozen? ⟨g, j * 2 + 1, none⟩ = false
theorem RG.drewN {W : World} {g : Nat} {cur : List (Int × Int)} (h : RG W g cur) (n : Nat) : RG (W.drewN n) g cur := h
theorem RG.set {W : World} {g : Nat} {cur : List (Int × Int)} (h : RG W g cur) (k : Nat) (hk : k < cur.length) (x : Int × Int) : RG ((W.setCell ⟨g, k * 2, none⟩ (.int .i64 x.1)).setCell ⟨g, k * 2 + 1, none⟩ (.int .i64 x.2)) g (cur.set k x) := by
  intro j hj
  have hj' : j < cur.length := by simpa using hj
  obtain ⟨⟨c0, c1⟩, f0, f1⟩ := h j hj'
  have hf : ∀ a, ((W.setCell ⟨g, k * 2, none⟩ (.int .i64 x.1)).setCell ⟨g, k * 2 + 1, none⟩ (.int .i64 x.2)).frozen? a = W.frozen? a := fun a => by rw [World.frozen?_setCell, World.frozen?_setCell]
  refine ⟨?_, by rw [hf]; exact f0, by rw [hf]; exact f1⟩
  by_cases e : j = k
  · subst e
    rw [List.getElem_set_self]
    refine ⟨?_, ?_⟩
    · rw [World.cell?_setCell_other _ _ _ _ (by simp)]; exact World.cell?_setCell_same' _ _ _ (by rw [c0]; rfl)
    · exact World.cell?_setCell_same' _ _ _ (by rw [World.cell?_setCell_other _ _ _ _ (by simp), c1]; rfl)
  · rw [List.getElem_set_ne (fun h => e h.symm)]
    have n1 : k * 2 ≠ j * 2 := by omega
    have n2 : k * 2 ≠ j * 2 + 1 := by omega
    have n3 : k * 2 + 1 ≠ j * 2 := by omega
    have n4 : k * 2 + 1 ≠ j * 2 + 1 := by omega
    refine ⟨?_, ?_⟩
    · rw [World.cell?_setCell_other _ _ _ _ (by simp <;> omega), World.cell?_setCell_other _ _ _ _ (by simp <;> omega)]; exact c0
    · rw [World.cell?_setCell_other _ _ _ _ (by simp <;> omega), World.cell?_setCell_other _ _ _ _ (by simp <;> omega)]; exact c1
theorem RG.cats {W : World} {g : Nat} {cur : List (Int × Int)} (h : RG W g cur) (hg : g < W.heap.size) : CatsAt W (some ⟨g, 0, none⟩) cur := fun j hj => ⟨g, 0, rfl, hg, by simpa using (h j hj).1.1, by simpa using (h j hj).1.2⟩
theorem RG.below {W W' : World} {g B : Nat} {cur : List (Int × Int)} (h : RG W g cur) (hb : Below B W W') (hg : g < B) : RG W' g cur := fun j hj =>
  ⟨⟨(hb.cell (p := ⟨g, j * 2, none⟩) hg).trans (h j hj).1.1, (hb.cell (p := ⟨g, j * 2 + 1, none⟩) hg).trans (h j hj).1.2⟩, (hb.frozen (p := ⟨g, j * 2, none⟩) hg).trans (h j hj).2.1, (hb.frozen (p := ⟨g, j * 2 + 1, none⟩) hg).trans (h j hj).2.2⟩

/- Neighbours that are alike, left out. -/
def zat (zs : List (Int × Int)) (k : Nat) : Int × Int := zs.getD k (0, 0)
theorem zat_get (zs : List (Int × Int)) (k : Nat) (h : k < zs.length) : zat zs k = zs[k] := by simp [zat, h]
def ddT (zs : List (Int × Int)) : Nat → List (Int × Int)
  | 0 => []
  | k + 1 => if k ≠ 0 ∧ zat zs k = zat zs (k - 1) then ddT zs k else ddT zs k ++ [zat zs k]
theorem ddT_len (zs : List (Int × Int)) (k : Nat) : (ddT zs k).length ≤ k := by
  induction k with
  | zero => simp [ddT]
  | succ k ih =>
    simp only [ddT]
    split
    · omega
    · simp; omega
theorem ddT_take (zs : List (Int × Int)) (k : Nat) (hk : k ≤ zs.length) (h : ∀ j, j < k → j ≠ 0 → zat zs j ≠ zat zs (j - 1)) : ddT zs k = zs.take k := by
  induction k with
  | zero => simp [ddT]
  | succ k ih =>
    simp only [ddT]
    rw [if_neg (fun hh => h k (by omega) hh.1 hh.2), ih (by omega) (fun j hj => h j (by omega)), List.take_succ_eq_append_getElem (by omega), zat_get zs k (by omega)]
def curT (zs : List (Int × Int)) (m : Nat) : List (Int × Int) := ddT zs m ++ zs.drop (ddT zs m).length
theorem curT_len (zs : List (Int × Int)) (m : Nat) (hm : m ≤ zs.length) : (curT zs m).length = zs.length := by
  have := ddT_len zs m
  unfold curT; simp; omega
theorem curT_high (zs : List (Int × Int)) (m j : Nat) (hm : m ≤ zs.length) (hj : (ddT zs m).length ≤ j) (hl : j < zs.length) : (curT zs m)[j]'(by rw [curT_len zs m hm]; exact hl) = zs[j] := by
  unfold curT
  rw [List.getElem_append_right hj, List.getElem_drop]
  congr 1; omega
theorem curT_skip (zs : List (Int × Int)) (m : Nat) (h0 : m ≠ 0) (h : zat zs m = zat zs (m - 1)) : curT zs (m + 1) = curT zs m ∧ (ddT zs (m + 1)).length = (ddT zs m).length := by
  have e : ddT zs (m + 1) = ddT zs m := by simp only [ddT]; rw [if_pos ⟨h0, h⟩]
  unfold curT; rw [e]; exact ⟨rfl, rfl⟩
theorem curT_keep (zs : List (Int × Int)) (m : Nat) (hm : m < zs.length) (h : zat zs m ≠ zat zs (m - 1)) : curT zs (m + 1) = (curT zs m).set (ddT zs m).length (zat zs m) ∧ (ddT zs (m + 1)).length = (ddT zs m).length + 1 := by
  have e : ddT zs (m + 1) = ddT zs m ++ [zat zs m] := by simp only [ddT]; rw [if_neg (fun hh => h hh.2)]
  have hl := ddT_len zs m
  unfold curT; rw [e]
  refine ⟨?_, by simp⟩
  rw [List.set_append_right _ _ (Nat.le_refl _), Nat.sub_self, List.drop_eq_getElem_cons (show (ddT zs m).length < zs.length by omega), List.set_cons_zero]
  simp

theorem run_clear30 (w : World) (ty : TypeId) (b o n c : Nat) (hn : 0 < n) (hc : ∀ j, j < n * 2 → (w.cell? ⟨b, o + j, none⟩).isSome = true) (hf : ∀ j, j < n * 2 → w.frozen? ⟨b, o + j, none⟩ = false) :
    (Builtin.clear_ #[22] ty #[.slice (some ⟨b, o, none⟩) n c]).run Try.prog w = .ok (.tuple #[]) (w.setCells b o (List.replicate (n * 2) (.int .i64 0))) := by
  have hzc : (Builtin.zeroCells #[.int .i64 0, .int .i64 0] n).toList = List.replicate (n * 2) (Value.int .i64 0) := by
    apply List.ext_getElem
    · simp [Builtin.zeroCells]
    · intro i h1 h2
      simp only [Builtin.zeroCells, Array.getElem_toList, Array.getElem_map, Array.getElem_range, List.getElem_replicate]
      rcases Nat.mod_two_eq_zero_or_one i with h | h <;> simp [h]
  have hst := run_storeCells_cells (P := Try.prog) b o (List.replicate (n * 2) (Value.int .i64 0)) 0 w (by simpa using hc) (by simpa using hf) (by intro v hv'; rw [List.eq_of_mem_replicate hv']; rfl)
  simp only [Nat.add_zero] at hst
  obtain ⟨m, rfl⟩ : ∃ m, n = m + 1 := ⟨n - 1, by omega⟩
  simp [Builtin.clear_, run_underlying Try.underlying22, Value.cells, hzc, hst]

theorem below_cells {B b : Nat} {a : World} (hb : B ≤ b) (vs : List Value) : ∀ (o : Nat) (w : World), Below B a w → Below B a (w.setCells b o vs) := by
  induction vs with
  | nil => intro o w h; exact h
  | cons v r ih => intro o w h; exact ih (o + 1) _ (h.setCell (p := ⟨b, o, none⟩) hb v)
theorem rg_cell {W : World} {g : Nat} {cur : List (Int × Int)} (h : RG W g cur) {j : Nat} (hj : j < cur.length * 2) : (W.cell? ⟨g, j, none⟩).isSome = true ∧ W.frozen? ⟨g, j, none⟩ = false := by
  obtain ⟨⟨c0, c1⟩, f0, f1⟩ := h (j / 2) (by omega)
  rcases Nat.mod_two_eq_zero_or_one j with e | e
  · rw [show j / 2 * 2 = j from by omega] at c0 f0
    exact ⟨by rw [c0]; rfl, f0⟩
  · rw [show j / 2 * 2 + 1 = j from by omega] at c1 f1
    exact ⟨by rw [c1]; rfl, f1⟩
theorem rg_some {W : World} {g : Nat} {cur : List (Int × Int)} (h : RG W g cur) {j : Nat} (hj : j < cur.length * 2) : (W.cell? ⟨g, j, none⟩).isSome = true := (rg_cell h hj).1
theorem rg_frozen {W : World} {g : Nat} {cur : List (Int × Int)} (h : RG W g cur) {j : Nat} (hj : j < cur.length * 2) : W.frozen? ⟨g, j, none⟩ = false := (rg_cell h hj).2

set_option maxRecDepth 100000 in
set_option maxHeartbeats 4000000 in
theorem Compact_any (g cap : Nat) (zs : List (Int × Int)) (w : World) (hg : g < w.heap.size) (hm : zs.length ≤ 8796093021952) (hcap : zs.length ≤ cap) (hR : RG w g zs) :
    Calls Try.prog 76 #[.slice (some ⟨g, 0, none⟩) zs.length cap] w fun e w' => e = .returned (.slice (some ⟨g, 0, none⟩) (ddT zs zs.length).length cap) ∧ CatsAt w' (some ⟨g, 0, none⟩) (ddT zs zs.length) ∧ Below g w w' := by
  have hgE := guardE
  by_cases h2 : zs.length < 2
  · have h2' : (zs.length : Int) < 2 := by omega
    have e : ddT zs zs.length = zs := by
      have := ddT_take zs zs.length (Nat.le_refl _) (fun j hj h0 => by omega)
      rw [this]; simp
    have HE : Hid (ddT zs zs.length = zs) := e
    clear e
    go_enter Try.func76, Try.ntmps76
    go_wp2
    go_ret
    rw [HE.out]
    exact ⟨rfl, hR.cats hg, Below.refl _ _⟩
  · have h2' : ¬ (zs.length : Int) < 2 := by omega
    go_enter Try.func76, Try.ntmps76
    go_wp2
    go_loopw [3] (fun i wr => ∃ (k n : Nat), 1 ≤ k ∧ k ≤ zs.length ∧ i = .int .i64 k ∧ wr = w.drewN n ∧ ∀ j, j < k → j ≠ 0 → zat zs j ≠ zat zs (j - 1)) (fun i _ => zs.length - (intOf i).toNat)
    case atStart => exact ⟨1, 0, by omega, by omega, rfl, rfl, fun j hj h0 => by omega⟩
    case round =>
      obtain ⟨k, n, hk1, hk, rfl, rfl, hall⟩ := hrel
      have HA := Lib.hid hall
      clear hall
      by_cases hlt : k < zs.length
      · obtain ⟨m, rfl⟩ : ∃ m, k = m + 1 := ⟨k - 1, by omega⟩
        obtain ⟨⟨c0, c1⟩, f0, f1⟩ := hR (m + 1) hlt
        obtain ⟨⟨c2, c3⟩, f2, f3⟩ := hR m (by omega)
        have HR := Lib.hid hR
        clear hR
        have hwm : IntKind.i64.wrap (m : Int) = (m : Int) := IntWalk.i64_in _ (by omega)
        have hmi : (m : Int) < (zs.length : Int) := by omega
        have hmi1 : (m : Int) + 1 < (zs.length : Int) := by omega
        have hmi2 : (0 : Int) ≤ (m : Int) + 1 := by omega
        by_cases h3 : zs[m + 1].1 = zs[m].1
        · by_cases h4 : zs[m + 1].2 = zs[m].2
          · have HEq : Hid (zat zs (m + 1) = zat zs m) := by simp only [Hid]; rw [zat_get zs _ hlt, zat_get zs m (by omega)]; exact Prod.ext h3 h4
            go_wp2
            go_quiet (fail)
            go_wp2
            have hT0 : ddT zs (m + 1) = zs.take (m + 1) := ddT_take zs (m + 1) (by omega) HA.out
            have hsk := curT_skip zs (m + 1) (by omega) HEq.out
            have hc0 : curT zs (m + 1) = zs := by unfold curT; rw [hT0, List.length_take, Nat.min_eq_left (by omega), List.take_append_drop]
            have hl0 : (ddT zs (m + 1)).length = m + 1 := by rw [hT0, List.length_take]; omega
            have hRc : RG w g (curT zs (m + 1 + 1)) := by rw [hsk.1, hc0]; exact HR.out
            have hLc : (ddT zs (m + 1 + 1)).length = m + 1 := by rw [hsk.2, hl0]
            clear hT0 hsk hc0 hl0 c0 c1 c2 c3 f0 f1 f2 f3 HA HEq h3 h4 HR
            go_loopw [3, 5] (fun r i wr => ∃ (q L : Nat), m + 1 + (q + 1) ≤ zs.length ∧ i = .int .i64 ((q + 1 : Nat) : Int) ∧ r = .int .i64 L ∧ (ddT zs (m + 1 + (q + 1))).length = L ∧ L < m + 1 + (q + 1) ∧ RG wr g (curT zs (m + 1 + (q + 1))) ∧ Below g w wr ∧ g < wr.heap.size) (fun _ i _ => zs.length - (intOf i).toNat)
            case atStart => exact ⟨0, m + 1, by omega, rfl, by go_num, hLc, by omega, hRc.drewN _, bdn (Below.refl _ _) _, hg⟩
            case round =>
              obtain ⟨q, L, hq, rfl, rfl, hL, hLm, hRc, hbw, hgw⟩ := hrel
              have hcl := curT_len zs (m + 1 + (q + 1)) hq
              by_cases hlt2 : m + 1 + (q + 1) < zs.length
              · have e1 := curT_high zs (m + 1 + (q + 1)) (m + 1 + (q + 1)) hq (by omega) hlt2
                have e0 := curT_high zs (m + 1 + (q + 1)) (m + 1 + q) hq (by omega) (by omega)
                obtain ⟨⟨c0, c1⟩, _, _⟩ := hRc (m + 1 + (q + 1)) (by omega)
                obtain ⟨⟨c2, c3⟩, _, _⟩ := hRc (m + 1 + q) (by omega)
                obtain ⟨o1, o2, c4, c5, f4, f5⟩ : ∃ o1 o2, wr.cell? ⟨g, L * 2, none⟩ = some (.int .i64 o1) ∧ wr.cell? ⟨g, L * 2 + 1, none⟩ = some (.int .i64 o2) ∧ wr.frozen? ⟨g, L * 2, none⟩ = false ∧ wr.frozen? ⟨g, L * 2 + 1, none⟩ = false := ⟨_, _, (hRc L (by omega)).1.1, (hRc L (by omega)).1.2, (hRc L (by omega)).2⟩
                rw [e1] at c0 c1
                rw [e0] at c2 c3
                rw [show (m + 1 + (q + 1)) * 2 = (m + 1) * 2 + (q + 1) * 2 from by omega] at c0 c1
                rw [show (m + 1 + q) * 2 = (m + 1) * 2 + q * 2 from by omega] at c2 c3
                have HRc := Lib.hid hRc
                have HL := Lib.hid hL
                have z1 : zat zs (m + 1 + (q + 1)) = zs[m + 1 + (q + 1)] := zat_get zs _ hlt2
                have z0 : zat zs (m + 1 + (q + 1) - 1) = zs[m + 1 + q] := zat_get zs _ (by omega)
                have HZ : Hid (zat zs (m + 1 + (q + 1)) = zs[m + 1 + (q + 1)] ∧ zat zs (m + 1 + (q + 1) - 1) = zs[m + 1 + q]) := ⟨z1, z0⟩
                obtain ⟨u, hu⟩ : ∃ u, u = zs[m + 1 + (q + 1)] := ⟨_, rfl⟩
                obtain ⟨v, hv⟩ : ∃ v, v = zs[m + 1 + q] := ⟨_, rfl⟩
                rw [← hu] at c0 c1 HZ
                rw [← hv] at c2 c3 HZ
                clear hRc hL e1 e0 z1 z0 hu hv hcl
                have hwm2 : IntKind.i64.wrap (q : Int) = (q : Int) := IntWalk.i64_in _ (by omega)
                have hnn : (zs.length - (m + 1) : Nat) = zs.length - (m + 1) := rfl
                have hqi1 : (q : Int) + 1 < (zs.length : Int) - ((m : Int) + 1) := by omega
                have hqi0 : (q : Int) < (zs.length : Int) - ((m : Int) + 1) := by omega
                have hq0 : (0 : Int) ≤ (q : Int) + 1 := by omega
                have hLi : (L : Int) < (zs.length : Int) := by omega
                by_cases h3 : u.1 = v.1
                · by_cases h4 : u.2 = v.2
                  · have huv : u = v := Prod.ext h3 h4
                    have HK := Lib.hid (curT_skip zs (m + 1 + (q + 1)) (by omega) (by rw [HZ.out.1, HZ.out.2, huv]))
                    go_wp2
                    go_quiet (fail)
                    go_wp2
                    go_roundw
                    case rel =>
                      refine ⟨_, _, _, _, _, _, _, _, _, _, _, _, _, _, _, _, _, _, _, _, _, _, _, _, _, _, _, ?_, rfl⟩
                      exact ⟨q + 1, L, by omega, by go_num, rfl, by rw [show m + 1 + (q + 1 + 1) = m + 1 + (q + 1) + 1 from rfl, HK.out.2]; exact HL.out, by omega, by rw [show m + 1 + (q + 1 + 1) = m + 1 + (q + 1) + 1 from rfl, HK.out.1]; exact HRc.out.drewN _, bdn hbw _, hgw⟩
                    case measure => simp [intOf]; omega
                  · have HK := Lib.hid (curT_keep zs (m + 1 + (q + 1)) hlt2 (by rw [HZ.out.1, HZ.out.2]; exact fun e => h4 (congrArg Prod.snd e)))
                    go_wp2
                    go_quiet (fail)
                    go_wp2
                    go_roundw
                    case rel =>
                      refine ⟨_, _, _, _, _, _, _, _, _, _, _, _, _, _, _, _, _, _, _, _, _, _, _, _, _, _, _, ?_, rfl⟩
                      have hst := (HRc.out.drewN nq).set L (by rw [curT_len zs _ hq]; omega) u
                      rw [h3] at hst
                      refine ⟨q + 1, L + 1, by omega, by go_num, by go_num, by rw [show m + 1 + (q + 1 + 1) = m + 1 + (q + 1) + 1 from rfl, HK.out.2, HL.out], by omega, ?_, ((bdn hbw nq).setCell (p := ⟨g, L * 2, none⟩) (Nat.le_refl _) _).setCell (p := ⟨g, L * 2 + 1, none⟩) (Nat.le_refl _) _, by simpa using hgw⟩
                      rw [show m + 1 + (q + 1 + 1) = m + 1 + (q + 1) + 1 from rfl, HK.out.1, HL.out, HZ.out.1]
                      exact hst
                    case measure => simp [intOf]; omega
                · have HK := Lib.hid (curT_keep zs (m + 1 + (q + 1)) hlt2 (by rw [HZ.out.1, HZ.out.2]; exact fun e => h3 (congrArg Prod.fst e)))
                  go_wp2
                  go_quiet (fail)
                  go_wp2
                  go_roundw
                  case rel =>
                    refine ⟨_, _, _, _, _, _, _, _, _, _, _, _, _, _, _, _, _, _, _, _, _, _, _, _, _, _, _, ?_, rfl⟩
                    refine ⟨q + 1, L + 1, by omega, by go_num, by go_num, by rw [show m + 1 + (q + 1 + 1) = m + 1 + (q + 1) + 1 from rfl, HK.out.2, HL.out], by omega, ?_, ((bdn hbw nq).setCell (p := ⟨g, L * 2, none⟩) (Nat.le_refl _) _).setCell (p := ⟨g, L * 2 + 1, none⟩) (Nat.le_refl _) _, by simpa using hgw⟩
                    rw [show m + 1 + (q + 1 + 1) = m + 1 + (q + 1) + 1 from rfl, HK.out.1, HL.out, HZ.out.1]
                    exact (HRc.out.drewN nq).set L (by rw [curT_len zs _ hq]; omega) u
                  case measure => simp [intOf]; omega
              · have hend : m + 1 + (q + 1) = zs.length := by omega
                have hRC := hRc
                rw [hend] at hRC hL
                have hcl2 : (curT zs zs.length).length = zs.length := curT_len zs _ (Nat.le_refl _)
                have hcl' : ∀ ty, (Builtin.clear_ #[22] ty #[.slice (some ⟨g, L * 2, none⟩) (zs.length - L) (cap - L)]).run Try.prog wr = .ok (.tuple #[]) (wr.setCells g (L * 2) (List.replicate ((zs.length - L) * 2) (.int .i64 0))) := fun ty => run_clear30 wr ty g (L * 2) (zs.length - L) (cap - L) (by omega) (fun j hj => rg_some hRC (by omega)) (fun j hj => rg_frozen hRC (by omega))
                have HC := Lib.hid hRC
                have HL := Lib.hid hL
                clear hRC hRc hL hcl hcl2 hend
                go_wp2
                go_ret
                have hbs := below_cells (Nat.le_refl g) (List.replicate ((zs.length - L) * 2) (.int .i64 0)) (L * 2) wr hbw
                have hbz := below_cells (Nat.zero_le g) (List.replicate ((zs.length - L) * 2) (.int .i64 0)) (L * 2) wr (Below.refl 0 wr)
                refine ⟨by rw [HL.out]; rfl, fun j hj => ⟨g, 0, rfl, Nat.lt_of_lt_of_le hgw hbz.size, ?_, ?_⟩, hbs⟩
                · have hjL : j < L := by rw [HL.out] at hj; exact hj
                  have hcj := (HC.out j (by rw [curT_len zs _ (Nat.le_refl _)]; have := ddT_len zs zs.length; omega)).1.1
                  rw [Nat.zero_add, World.cell?_setCells_out _ _ _ _ _ (fun _ _ => .inl (by simp; omega)), hcj]
                  unfold curT; rw [List.getElem_append_left hj]
                · have hjL : j < L := by rw [HL.out] at hj; exact hj
                  have hcj := (HC.out j (by rw [curT_len zs _ (Nat.le_refl _)]; have := ddT_len zs zs.length; omega)).1.2
                  rw [Nat.zero_add, World.cell?_setCells_out _ _ _ _ _ (fun _ _ => .inl (by simp; omega)), hcj]
                  unfold curT; rw [List.getElem_append_left hj]
          · have HN : Hid (zat zs (m + 1) ≠ zat zs m) := by simp only [Hid]; rw [zat_get zs _ hlt, zat_get zs m (by omega)]; exact fun e => h4 (congrArg Prod.snd e)
            go_wp2
            go_quiet (fail)
            go_wp2
            go_roundw
            case rel => exact ⟨m + 1 + 1, _, by omega, by omega, by go_num, rfl, fun j hj h0 => by
              rcases (show j < m + 1 ∨ j = m + 1 by omega) with h | rfl
              · exact HA.out j h h0
              · exact HN.out⟩
            case measure => simp [intOf]; omega
        · have HN : Hid (zat zs (m + 1) ≠ zat zs m) := by simp only [Hid]; rw [zat_get zs _ hlt, zat_get zs m (by omega)]; exact fun e => h3 (congrArg Prod.fst e)
          go_wp2
          go_quiet (fail)
          go_wp2
          go_roundw
          case rel => exact ⟨m + 1 + 1, _, by omega, by omega, by go_num, rfl, fun j hj h0 => by
            rcases (show j < m + 1 ∨ j = m + 1 by omega) with h | rfl
            · exact HA.out j h h0
            · exact HN.out⟩
          case measure => simp [intOf]; omega
      · obtain rfl : k = zs.length := by omega
        have HE : Hid (ddT zs zs.length = zs) := by
          have := ddT_take zs zs.length (Nat.le_refl _) HA.out
          simp only [Hid]; rw [this]; simp
        go_wp2
        go_ret
        rw [HE.out]
        exact ⟨rfl, (hR.drewN n).cats hg, bdn (Below.refl _ _) n⟩
end Go.Proofs.Ytnjmgholoigpkaa
namespace Go.Proofs.Ytnjmgholoigpkaa
open Go.RowKit Go.Sort Go.Shelf

theorem rg_of_holds {w : World} {g : Nat} {zs : List (Int × Int)} (h : HoldsK encE 2 w g 0 zs.toArray) (hg : g < w.heap.size) : RG w g zs := by
  intro j hj
  obtain ⟨b, off, e, _, c0, c1⟩ := cats_of_holds h hg j hj
  cases e
  have f0 := (h (j * 2) (by simp; omega)).2
  have f1 := (h (j * 2 + 1) (by simp; omega)).2
  rw [Nat.zero_add] at c0 c1 f0 f1
  exact ⟨⟨c0, c1⟩, f0, f1⟩
set_option maxHeartbeats 1000000 in
theorem SortFunc_rg (B g cap : Nat) (xs : List (Int × Int)) (W : World) (hown : W.ownsRow B 50 2 (.slice (some ⟨g, 0, none⟩) xs.length cap) xs.length (flat xs)) (hsz : xs.length < 4611686018427387904) :
    Calls Try.prog 73 #[.slice (some ⟨g, 0, none⟩) xs.length cap, .func (.func 74) #[] #[]] W fun e w' => e = .returned (.tuple #[]) ∧ ∃ zs : List (Int × Int), zs.length = xs.length ∧ zs.Perm xs ∧ SortedC zs ∧ RG w' g zs ∧ Below g W w' ∧ g < w'.heap.size := by
  have eg : ∀ args w, (callFunc 74 args).run Try.prog w = .ok (.enter 74 args) w := enters_of Try.func74 (by kernel_rfl) rfl
  have hg : g < W.heap.size := (hown.lt g rfl).2
  have hH := holds_of_own hown
  have hcon := AnyQ.slices_SortFunc Try.sortE 2 Try.isAgg50 Try.sizeOf50 encE (fun _ => rfl) (fun x v hv => by simp [encE] at hv; rcases hv with rfl | rfl <;> rfl) cfE swoE 74 #[] g 0 cap xs.toArray W eg (cmpLays g 0 xs.toArray.size W) hH hg (by simpa using hsz)
  change Calls Try.prog 73 _ _ _ at hcon
  rw [List.size_toArray] at hcon
  refine hcon.mono ?_
  rintro e w' ⟨rfl, d', n, os, ⟨hs1, hs2, hs3⟩, hso, rfl⟩
  have hl : d'.toList.length = xs.length := by simpa using hs1
  refine ⟨rfl, d'.toList, hl, ?_, ?_, ?_, below_sorted W g n d' os hg, lt_sortWorldK encE 2 W g 0 n d' os hg⟩
  · have e1 : (d'.extract 0 xs.length).toList = d'.toList := by rw [Array.toList_extract]; simp only [← hl, Array.length_toList, List.extract_eq_take_drop, Nat.sub_zero, List.drop_zero]; exact List.take_of_length_le (by simp)
    have e2 : (xs.toArray.extract 0 xs.length).toList = xs := by simp
    rw [e1, e2] at hs3
    exact hs3
  · intro i j hij hj
    have h := hso i j (Nat.zero_le _) hij (by omega)
    rw [ltE, getElem!_pos d' j (by simpa using hj), getElem!_pos d' i (by have : j < d'.size := (by simpa using hj); omega)] at h
    simp only [decide_eq_false_iff_not, Int.not_lt] at h
    simpa using h
  · have := holdsK_sortWorldK encE 2 W g 0 n xs.toArray d' os hg hH hs1
    exact rg_of_holds (zs := d'.toList) (by simpa using this) (lt_sortWorldK encE 2 W g 0 n d' os hg)

def twin : List (Int × Int) → Bool
  | [] => false
  | [_] => false
  | x :: y :: r => x.1 == y.1 || twin (y :: r)
theorem twin_step (ds : List (Int × Int)) (k : Nat) (h : k + 1 < ds.length) : twin (ds.drop k) = (ds[k].1 == ds[k + 1].1 || twin (ds.drop (k + 1))) := by
  rw [List.drop_eq_getElem_cons (show k < ds.length by omega), List.drop_eq_getElem_cons h]; rfl
theorem twin_end (ds : List (Int × Int)) (k : Nat) (h : ds.length ≤ k + 1) : twin (ds.drop k) = false := by
  have hl : (ds.drop k).length ≤ 1 := by rw [List.length_drop]; omega
  match hd : ds.drop k, hl with
  | [], _ => rfl
  | [_], _ => rfl
  | _ :: _ :: _, hl => simp at hl
def mkD (d : Int) (ds : List (Int × Int)) : Int := if twin ds = true then 0 else fitD d (shortS d ds)
def mkL (d : Int) (ds : List (Int × Int)) : List (Int × Int) := if twin ds = true then [] else fitL (shortS d ds)
def mkE (d : Int) (ds : List (Int × Int)) : Int := if twin ds = true then 2 else fitE (shortS d ds)

set_option maxRecDepth 100000 in
set_option maxHeartbeats 2000000 in
theorem Make_gen (d : Int) (b off cap : Nat) (xs : List (Int × Int)) (w : World) (hl : lev d = true) (hcan : (xs.any fun x => !can x) = false) (hm : xs.length ≤ 8796093021952) (hc : CatsAt w (some ⟨b, off, none⟩) xs) :
    Calls Try.prog 48 #[.int .i64 d, .slice (some ⟨b, off, none⟩) xs.length cap] w fun e w' => ∃ v zs, zs.Perm xs ∧ SortedC zs ∧ e = .returned (.tuple #[.agg #[.int .i64 (mkD d (ddT zs zs.length)), v], .int .i64 (mkE d (ddT zs zs.length))]) ∧ Rw w.heap.size w' v (mkL d (ddT zs zs.length)) ∧ Below w.heap.size w w' := by
  have hW : Below w.heap.size w (w.alloc (.cells #[.int .i64 0, .slice none 0 0] 24)) := by go_grown
  have hml : xs.length ≤ maxLen := by unfold maxLen; omega
  have hC := ContainsFunc_can (some ⟨b, off, none⟩) cap xs _ hml (hc.below hW)
  rw [hcan] at hC
  go_enter Try.func48, Try.ntmps48
  go_wp2_with (first
    | (go_at_call 69; refine (isLevel_any _ _).mono ?_; rintro e w' ⟨rfl, rfl⟩)
    | (go_at_call 70; refine hC.mono ?_; rintro e w1 ⟨rfl, hb1⟩; refine Hid.out ?_))
  refine Lib.hid ?_
  have hB1 : Below w.heap.size w w1 := hW.trans (hb1.mono (by simp))
  have hz1 : w.heap.size + 1 ≤ w1.heap.size := by have := hb1.size; simpa using this
  have r0 : w1.cell? ⟨w.heap.size, 0, none⟩ = some (.int .i64 0) := (hb1.cell (p := ⟨w.heap.size, 0, none⟩) (by simp)).trans (by simp [go_sem])
  have r1 : w1.cell? ⟨w.heap.size, 1, none⟩ = some (.slice none 0 0) := (hb1.cell (p := ⟨w.heap.size, 1, none⟩) (by simp)).trans (by simp [go_sem])
  have rf : ∀ o, w1.frozen? ⟨w.heap.size, o, none⟩ = false := fun o => (hb1.frozen (p := ⟨w.heap.size, o, none⟩) (by simp)).trans (by simp [go_sem])
  have hCl := Clone_any b off cap xs w1 (by omega) (hc.below hB1)
  clear hC hcan hc
  go_wp2_with (go_at_call 72; refine hCl.mono ?_; rintro e w2 ⟨v, rfl, hown2, hb2, hnn⟩; refine Hid.out ?_)
  refine Lib.hid ?_
  rcases Joins.ownsRow_forms hown2 with ⟨rfl, _⟩ | ⟨g, cap2, rfl⟩
  · exact (hnn rfl).elim
  have hg := hown2.lt g rfl
  have hcap2 : xs.length ≤ cap2 := by
    rcases hown2.2 with ⟨h, _⟩ | ⟨_, _, _, h, _, _, h3, _⟩
    · cases h
    · cases h; exact h3
  have hS := SortFunc_rg _ g cap2 xs w2 hown2 (by omega)
  clear hCl hnn
  go_wp2_with (go_at_call 73; refine hS.mono ?_; rintro e w3 ⟨rfl, zs, hlen, hperm, hsort, hr3, hb3, hg3⟩; refine Hid.out ?_)
  refine Lib.hid ?_
  have hCo := Compact_any g cap2 zs w3 hg3 (by omega) (by omega) hr3
  rw [hlen] at hCo
  have hdl := ddT_len zs zs.length
  obtain ⟨ds, hds⟩ : ∃ ds, ds = ddT zs zs.length := ⟨_, rfl⟩
  have hds' : ddT zs xs.length = ds := by rw [hds, hlen]
  rw [hds'] at hCo
  rw [← hds] at hdl
  have HP : Hid (zs.Perm xs ∧ SortedC zs ∧ ddT zs zs.length = ds) := ⟨hperm, hsort, hds.symm⟩
  clear hS hperm hsort hds hds' hr3
  go_wp2_with (go_at_call 76; refine hCo.mono ?_; rintro e w4 ⟨rfl, hc4, hb4⟩; refine Hid.out ?_)
  refine Lib.hid ?_
  clear hCo
  have hB4 : Below (w.heap.size + 1) w1 w4 := (hb2.mono (by omega)).trans ((hb3.mono (by omega)).trans (hb4.mono (by omega)))
  have hdm : ds.length ≤ 8796093021952 := by omega
  clear hlen hdl
  go_wp2
  go_loopw [25] (fun i wr => ∃ k : Nat, k ≤ ds.length ∧ i = .int .i64 k ∧ twin ds = twin (ds.drop k) ∧ Below w4.heap.size w4 wr) (fun i _ => ds.length - (intOf i).toNat)
  case atStart => exact ⟨0, Nat.zero_le _, rfl, by simp, Below.refl _ _⟩
  case round =>
    obtain ⟨k, hk, rfl, ht, hb5⟩ := hrel
    have HT := Lib.hid ht
    clear ht
    have hB5 : Below (w.heap.size + 1) w1 wr := hB4.trans (hb5.mono (by have := hB4.size; omega))
    by_cases hlt : k + 1 < ds.length
    · obtain ⟨b1, o1, he1, _, c0, _⟩ := hc4.get hb5 (Below.refl _ _) (Nat.le_refl _) k (by omega)
      obtain ⟨b2, o2, he2, _, c1, _⟩ := hc4.get hb5 (Below.refl _ _) (Nat.le_refl _) (k + 1) hlt
      simp only [Option.some.injEq, Addr.mk.injEq, and_true] at he1 he2
      obtain ⟨rfl, rfl⟩ := he1
      obtain ⟨rfl, rfl⟩ := he2
      rw [Nat.zero_add] at c0 c1
      have hki : (k : Int) < (ds.length : Int) - 1 := by omega
      have hkj : (k : Int) < (ds.length : Int) := by omega
      have hkl : (k : Int) + 1 < (ds.length : Int) := by omega
      have hkz : (0 : Int) ≤ (k : Int) + 1 := by omega
      have HW := Lib.hid (twin_step ds k hlt)
      clear hc4
      by_cases hne : (ds[k].1 == ds[k + 1].1) = true
      · have HD : Hid (mkD d ds = 0 ∧ mkL d ds = [] ∧ mkE d ds = 2) := by
          have htw : twin ds = true := by rw [HT.out, HW.out, hne]; rfl
          simp [Hid, mkD, mkL, mkE, htw]
        have q0 := (hB5.cell (p := ⟨w.heap.size, 0, none⟩) (by simp)).trans r0
        have q1 := (hB5.cell (p := ⟨w.heap.size, 1, none⟩) (by simp)).trans r1
        have qf : ∀ o, wr.frozen? ⟨w.heap.size, o, none⟩ = false := fun o => (hB5.frozen (p := ⟨w.heap.size, o, none⟩) (by simp)).trans (rf o)
        go_wp2
        go_quiet (fail)
        go_wp2
        refine bodyPost_ret (by simp [results, Try.results48, go_sem, q0, q1]; rfl) rfl ⟨.slice none 0 0, zs, HP.out.1, HP.out.2.1, ?_, ?_, ?_⟩
        · rw [HP.out.2.2, HD.out.1, HD.out.2.2]
        · rw [HP.out.2.2, HD.out.2.1]; exact .inl ⟨rfl, rfl⟩
        · exact ((bdn (hB1.trans (hB5.mono (by omega))) _).setCell (p := ⟨w.heap.size, 0, none⟩) (Nat.le_refl _) _).setCell (p := ⟨w.heap.size, 1, none⟩) (Nat.le_refl _) _
      · have hne' : (ds[k].1 == ds[k + 1].1) = false := by simpa using hne
        go_wp2
        go_quiet (fail)
        go_wp2
        go_roundw
        case rel => exact ⟨k + 1, by omega, by go_num, by rw [HT.out, HW.out, hne']; rfl, bdn hb5 _⟩
        case measure => simp [intOf]; omega
    · have hki : ¬ (k : Int) < (ds.length : Int) - 1 := by omega
      have HD : Hid (mkD d ds = fitD d (shortS d ds) ∧ mkL d ds = fitL (shortS d ds) ∧ mkE d ds = fitE (shortS d ds)) := by
        have htw : twin ds = false := by rw [HT.out]; exact twin_end ds k (by omega)
        simp [Hid, mkD, mkL, mkE, htw]
      have hSh := short_any d (some ⟨g, 0, none⟩) cap2 ds wr (by omega) (hc4.below hb5)
      clear hc4
      go_wp2_with (go_at_call 78; refine hSh.mono ?_; rintro e w6 ⟨v6, rfl, hown6, hb6⟩; refine Hid.out ?_)
      refine Lib.hid ?_
      have hF := Fit_any d v6 _ (shortS d ds) w6 hown6
      obtain ⟨p6, cap6, rfl, hc6, hcap6⟩ := own_out hown6
      clear hown6 hc6
      go_wp2_with (go_at_call 77; refine hF.mono ?_; rintro e w7 ⟨v7, rfl, hown7, hb7⟩; refine Hid.out ?_)
      refine Lib.hid ?_
      obtain ⟨p7, cap7, rfl, hc7, hcap7⟩ := own_out hown7
      have hB7 : Below (w.heap.size + 1) w1 w7 := hB5.trans ((hb6.trans (hb7.mono hb6.size)).mono (by have := hB5.size; omega))
      have q0 := (hB7.cell (p := ⟨w.heap.size, 0, none⟩) (by simp)).trans r0
      have q1 := (hB7.cell (p := ⟨w.heap.size, 1, none⟩) (by simp)).trans r1
      have qf : ∀ o, w7.frozen? ⟨w.heap.size, o, none⟩ = false := fun o => (hB7.frozen (p := ⟨w.heap.size, o, none⟩) (by simp)).trans (rf o)
      clear hc7 hF hSh
      go_wp2
      refine bodyPost_ret (by simp [results, Try.results48, go_sem, q0, q1]; rfl) rfl ⟨.slice p7 (fitL (shortS d ds)).length cap7, zs, HP.out.1, HP.out.2.1, ?_, ?_, ?_⟩
      · rw [HP.out.2.2, HD.out.1, HD.out.2.2]
      · rw [HP.out.2.2, HD.out.2.1]
        exact Rw.mono (Rw.set (Rw.set (Rw.own (Joins.ownsRow_le hown7 (show w.heap.size + 1 ≤ wr.heap.size by have := hB5.size; omega)) (Nat.le_refl _)) (by simp) _) (by simp) _) (by omega)
      · exact ((hB1.trans (hB7.mono (by omega))).setCell (p := ⟨w.heap.size, 0, none⟩) (Nat.le_refl _) _).setCell (p := ⟨w.heap.size, 1, none⟩) (Nat.le_refl _) _
theorem Make_nolev (d : Int) (v : Value) (w : World) (hl : lev d = false) :
    Calls Try.prog 48 #[.int .i64 d, v] w fun e w' => e = .returned (.tuple #[.agg #[.int .i64 0, .slice none 0 0], .int .i64 1]) ∧ Below w.heap.size w w' := by
  go_enter Try.func48, Try.ntmps48
  go_wp2_with (first
    | (go_at_call 69; refine (isLevel_any _ _).mono ?_; rintro e w' ⟨rfl, rfl⟩))
  refine bodyPost_ret (by simp [results, Try.results48, go_sem]) rfl ⟨rfl, by go_grown⟩
end Go.Proofs.Ytnjmgholoigpkaa
