/- What Copy of package pages does. -/
import Derived.Test.YtpedinpjdepjdaaUnlikeN
namespace Go.Proofs.Ytpedinpjdepjdaa
open Go.RowKit Go.Lib
/-- The first k leaves are no longer its own. -/
def offK (k : Nat) (ls : List (Nat × Bool)) : List (Nat × Bool) := (ls.take k).map (fun x => (x.1, false)) ++ ls.drop k
def offL (ls : List (Nat × Bool)) : List (Nat × Bool) := ls.map fun x => (x.1, false)
theorem offK_len (k : Nat) (ls : List (Nat × Bool)) : (offK k ls).length = ls.length := by unfold offK; simp; omega
theorem offK_all (ls : List (Nat × Bool)) : offK ls.length ls = offL ls := by unfold offK offL; simp
theorem offK_zero (ls : List (Nat × Bool)) : offK 0 ls = ls := by unfold offK; simp
theorem offK_get (k : Nat) (ls : List (Nat × Bool)) (i : Nat) : (offK k ls)[i]? = if i < k then (ls[i]?).map (fun x => (x.1, false)) else ls[i]? := by
  unfold offK
  by_cases hl : k ≤ ls.length
  · rw [List.getElem?_append]
    have : ((ls.take k).map (fun x => (x.1, false))).length = k := by simp; omega
    rw [this]
    split
    · rename_i h
      rw [List.getElem?_map, List.getElem?_take, if_pos h]
    · rw [List.getElem?_drop]; congr 1; omega
  · rw [List.drop_eq_nil_of_le (by omega), List.append_nil, List.take_of_length_le (by omega), List.getElem?_map]
    split
    · rfl
    · rw [List.getElem?_eq_none (by omega)]; rfl
theorem offK_succ (k : Nat) (ls : List (Nat × Bool)) (x : Nat × Bool) (h : ls[k]? = some x) : (offK k ls).set k (x.1, false) = offK (k + 1) ls := by
  apply List.ext_getElem?
  intro i
  have hk : k < ls.length := (List.getElem?_eq_some_iff.1 h).1
  rw [List.getElem?_set, offK_get, offK_get, offK_len]
  by_cases hi : k = i
  · subst hi; rw [if_pos rfl, if_pos hk, if_pos (by omega), h]; rfl
  · rw [if_neg hi]
    by_cases h2 : i < k
    · rw [if_pos h2, if_pos (by omega)]
    · rw [if_neg h2, if_neg (by omega)]
theorem lfs_set1 : ∀ (ls : List (Nat × Bool)) (i : Nat) (x : Nat × Bool) (b : Bool), ls[i]? = some x → (lfs ls).set (i * 2 + 1) (.bool b) = lfs (ls.set i (x.1, b))
  | [], i, x, b, h => by simp at h
  | y :: l, 0, x, b, h => by simp at h; subst h; rfl
  | y :: l, i + 1, x, b, h => by
    have := lfs_set1 l i x b (by simpa using h)
    rw [show (i + 1) * 2 = i * 2 + 1 + 1 from by omega]
    show (Value.pointer (some ⟨y.1, 0, none⟩)) :: (Value.bool y.2) :: ((lfs l).set (i * 2 + 1) _) = _
    rw [this]; rfl
theorem offL_map (ls : List (Nat × Bool)) : (offL ls).map (·.1) = ls.map (·.1) := by unfold offL; simp
/-- A leaf is no longer its own. -/
theorem BAt.off {w : World} {base Bb k g cap : Nat} {d : List UInt8} {ls : List (Nat × Bool)} (h : BAt w base Bb d ls) (x : Nat × Bool) (hx : ls[k]? = some x)
    (hg : w.heap[Bb]? = some (.cells #[.int .i64 d.length, .slice (some ⟨g, 0, none⟩) ls.length cap] 53 (0, 0))) :
    BAt (w.setCell ⟨g, k * 2 + 1, none⟩ (.bool false)) base Bb d (ls.set k (x.1, false)) ∧ (w.setCell ⟨g, k * 2 + 1, none⟩ (.bool false)).heap[Bb]? = w.heap[Bb]? ∧ base ≤ g ∧ Oth w (w.setCell ⟨g, k * 2 + 1, none⟩ (.bool false)) := by
  obtain ⟨v, hv, hr⟩ := h.blk
  obtain rfl : v = .slice (some ⟨g, 0, none⟩) ls.length cap := by rw [hg] at hv; simpa using hv.symm
  have hgh : ∃ cur, w.heap[g]? = some (.cells cur 56 (0, 0)) := by
    rcases hr.2 with ⟨h', _⟩ | ⟨g', cap', cur, h', _, hg, _⟩
    · simp at h'
    · simp only [Value.slice.injEq, Option.some.injEq, Addr.mk.injEq, and_true, true_and] at h'
      obtain ⟨rfl, rfl⟩ := h'
      exact ⟨cur, hg⟩
  obtain ⟨cur, hgh⟩ := hgh
  have hne : ∀ k o, w.heap[k]? = some o → (∀ c f, o ≠ .cells c 56 f) → k ≠ g := fun k o hk ho e => by
    subst e; rw [hgh] at hk; cases hk; exact ho _ _ rfl
  obtain ⟨s1, _⟩ := hr.stored (k * 2 + 1) (.bool false)
  rw [lfs_set1 ls k x false hx] at s1
  have hB : (w.setCell ⟨g, k * 2 + 1, none⟩ (.bool false)).heap[Bb]? = w.heap[Bb]? := heap_setCell_ne _ _ _ (hne Bb _ hv (fun c f e => by cases e))
  refine ⟨⟨⟨.slice (some ⟨g, 0, none⟩) ls.length cap, hB.trans hv, by rw [List.length_set]; exact s1⟩, ?_, ?_, h.len, by rw [List.length_set]; exact h.cnt, h.bb⟩, hB, (hr.lt g rfl).1, ⟨by simp, fun k o hk ho => (heap_setCell_ne _ _ _ (hne k o hk ho)).trans hk⟩⟩
  · intro i y hi
    rw [List.getElem?_set] at hi
    have hp : ∀ y, ls[i]? = some y → (w.setCell ⟨g, k * 2 + 1, none⟩ (.bool false)).heap[y.1]? = some (.cells (u8s (pad d i)).toArray 70 (0, 0)) := fun y hy => by
      have h1 := (h.pgs i y hy).1
      exact (heap_setCell_ne _ _ _ (hne _ _ h1 (fun c f e => by cases e))).trans h1
    split at hi
    · subst k
      split at hi
      · simp at hi; subst hi; exact ⟨hp x hx, fun e => by cases e⟩
      · simp at hi
    · exact ⟨hp y hi, (h.pgs i y hi).2⟩
  · have : (ls.set k (x.1, false)).map (·.1) = ls.map (·.1) := by
      rw [List.map_set]
      apply List.ext_getElem?
      intro i
      rw [List.getElem?_set]
      split
      · subst k; split
        · rw [List.getElem?_map, hx]; rfl
        · rename_i h1; rw [List.getElem?_eq_none (by simpa using h1)]
      · rfl
    rw [this]; exact h.dis
theorem lfs_one (ls : List (Nat × Bool)) : ∀ u ∈ lfs ls, u.oneCell' = true := by
  intro u hu
  unfold lfs at hu
  obtain ⟨x, _, hx⟩ := List.mem_flatMap.1 hu
  simp at hx
  rcases hx with rfl | rfl <;> rfl
set_option maxRecDepth 100000 in
set_option maxHeartbeats 1000000 in
theorem CloneL_any (base : Nat) (v : Value) (ls : List (Nat × Bool)) (w : World) (hm : ls.length ≤ 64) (hr : w.ownsRow base 56 2 v ls.length (lfs ls)) :
    Calls Try.prog 17 #[v] w fun e w' => ∃ v', e = .returned v' ∧ w'.ownsRow w.heap.size 56 2 v' ls.length (lfs ls) ∧ Below w.heap.size w w' := by
  obtain ⟨i0, hi, hz0, hz1, hz2⟩ := info_parts leafInfo
  rcases hr.2 with ⟨rfl, h0⟩ | ⟨g, cap, cur, rfl, hrest⟩
  · have hnil := fun (w : World) => Lib.run_eql_slice_nil (P := Try.prog) w 51 56 none 0 0 0 0 Try.underlying51
    have hl0 : ls = [] := List.length_eq_zero_iff.1 h0
    subst hl0
    go_enter Try.func17, Try.ntmps17
    go_wp2
    go_ret
    exact ⟨_, rfl, World.ownsRow_nil _ _ _ _, Below.refl _ _⟩
  · have hnil := fun (w : World) => Lib.run_eql_slice_nil (P := Try.prog) w 51 56 (some ⟨g, 0, none⟩) ls.length cap 0 0 Try.underlying51
    have hown : (w.alloc (.cells #[] 56)).ownsRow w.heap.size 56 2 (.slice (some ⟨w.heap.size, 0, none⟩) 0 0) 0 [] := World.ownsRow_lit (base := w.heap.size) (e := 56) (size := 2) w #[] 0 (Nat.le_refl _) (by decide) rfl
    have hW : Below w.heap.size w (w.alloc (.cells #[] 56)) := by go_grown
    have HN : Hid (∀ j u, (lfs ls)[j]? = some u → (w.alloc (.cells #[] 56)).cell? ((⟨g, 0, none⟩ : Addr).add j) = some u) := fun j u hu => by
      have hj : j < ls.length * 2 := by rw [← lfs_len]; exact (List.getElem?_eq_some_iff.1 hu).1
      rw [show (⟨g, 0, none⟩ : Addr).add j = ⟨g, j, none⟩ from by unfold Addr.add; split <;> simp_all]
      exact (hW.cell (p := ⟨g, j, none⟩) (hr.lt g rfl).2).trans ((hr.cellAt j hj).trans hu)
    have h63 : 0 + ls.length ≤ maxLen := by unfold maxLen; omega
    have hby : (0 + ls.length) * 16 ≤ 140737488355328 := by omega
    clear hr hrest
    go_enter Try.func17, Try.ntmps17
    go_wp2_with (at_builtin; refine wpList_append_own _ rfl _ _ 51 rfl w.heap.size 56 i0 (.agg #[.pointer none, .bool false]) 2 16 Try.underlying51 hi hz0 hz1 hz2 rfl (by decide) _ _ _ rfl hown ⟨g, 0, none⟩ ls.length cap (lfs ls) rfl (lfs_len ls) HN.out (lfs_one ls) h63 hby (by simp) ?_; intro v' w3 hown' hgrow3 hnil3)
    go_ret
    rw [Nat.zero_add, List.nil_append] at hown'
    exact ⟨v', rfl, hown', Below.grown hW hgrow3 (by simp) (fun k hk => Nat.le_of_eq (Option.some.inj (show some w.heap.size = some k from hk)))⟩
set_option maxRecDepth 100000 in
set_option maxHeartbeats 1000000 in
theorem Copy_z (base Bb : Nat) (d : List UInt8) (ls : List (Nat × Bool)) (w : World) (h : BAt w base Bb d ls) :
    Calls Try.prog 8 #[.pointer (some ⟨Bb, 0, none⟩)] w fun e w' => ∃ C w1, e = .returned (.pointer (some ⟨C, 0, none⟩)) ∧ BAt w1 base Bb d (offL ls) ∧ w1.heap.size = w.heap.size ∧ Below base w w1 ∧ Below w.heap.size w1 w' ∧ BAt w' w.heap.size C d (offL ls) ∧ Oth w w1 := by
  have HH := Lib.hid h
  have hlen := h.len
  obtain ⟨v, hv, hr⟩ := h.blk
  obtain ⟨sp, cap, rfl⟩ := row_formk hr
  have c1 : w.cell? ⟨Bb, 1, none⟩ = some (.slice sp ls.length cap) := by simp [World.cell?, hv]
  have hll : ls.length ≤ 64 := by have := h.cnt; omega
  have HV := Lib.hid hv
  have HR := Lib.hid hr
  clear h hv hr
  go_enter Try.func8, Try.ntmps8
  go_wp2_with fail
  go_loopw [11] (fun y wr => ∃ k : Nat, y = .int .i64 k ∧ k ≤ ls.length ∧ BAt wr base Bb d (offK k ls) ∧ wr.heap[Bb]? = w.heap[Bb]? ∧ wr.heap.size = w.heap.size ∧ RowKit.Below base w wr ∧ Oth w wr) (fun y _ => (ls.length - (RowKit.intOf y).toNat))
  case atStart => exact ⟨0, rfl, Nat.zero_le _, by rw [offK_zero]; exact HH.out, rfl, rfl, Below.refl _ _, Oth.refl _⟩
  case round =>
    obtain ⟨k, rfl, hk, hA, hbk, hsz, hB, hOt⟩ := hrel
    have HOt := Lib.hid hOt
    clear hOt
    have HA := Lib.hid hA
    have hv2 := hbk.trans HV.out
    have c2 : wr.cell? ⟨Bb, 1, none⟩ = some (.slice sp ls.length cap) := by simp [World.cell?, hv2]
    have c3 : wr.cell? ⟨Bb, 0, none⟩ = some (.int .i64 d.length) := by simp [World.cell?, hv2]
    by_cases hlt : k < ls.length
    · have hki : (k : Int) < (ls.length : Int) := by omega
      obtain ⟨x, hx⟩ : ∃ x, ls[k]? = some x := ⟨_, List.getElem?_eq_getElem hlt⟩
      have hx2 : (offK k ls)[k]? = some x := by rw [offK_get, if_neg (by omega)]; exact hx
      obtain ⟨g, rfl⟩ : ∃ g, sp = some ⟨g, 0, none⟩ := by
        rcases HR.out.2 with ⟨h', _⟩ | ⟨g', cap', cur, h', _⟩
        · simp at h'; omega
        · simp at h'; exact ⟨g', h'.1⟩
      obtain ⟨o1, o2, o3, o4⟩ := hA.off (g := g) (cap := cap) x hx2 (by rw [offK_len]; exact hv2)
      rw [offK_succ k ls x hx] at o1
      have hfr : wr.frozen? ⟨g, k * 2 + 1, none⟩ = false := by
        obtain ⟨v', hv', hr'⟩ := hA.blk
        rw [hv2] at hv'
        obtain rfl : Value.slice (some ⟨g, 0, none⟩) ls.length cap = v' := by simpa using hv'
        rw [offK_len] at hr'
        exact hr'.frozenAt _
      have hcl : ∃ u, wr.cell? ⟨g, k * 2 + 1, none⟩ = some u := by
        obtain ⟨v', hv', hr'⟩ := hA.blk
        rw [hv2] at hv'
        obtain rfl : Value.slice (some ⟨g, 0, none⟩) ls.length cap = v' := by simpa using hv'
        rw [offK_len] at hr'
        rw [hr'.cellAt (k * 2 + 1) (by omega)]
        exact ⟨_, List.getElem?_eq_getElem (by rw [lfs_len, offK_len]; omega)⟩
      obtain ⟨u, hcl⟩ := hcl
      have HO2 := Lib.hid (o2.trans hbk)
      have HO4 := Lib.hid o4
      clear o4
      clear hA hbk hv2 o2 hx2 c3
      go_wp2
      go_roundw
      case rel => exact ⟨k + 1, by go_num, by omega, o1, HO2.out, by simpa using hsz, hB.setCell (p := ⟨g, k * 2 + 1, none⟩) o3 _, HOt.out.trans HO4.out⟩
      case measure => simp [RowKit.intOf]; omega
    · obtain rfl : k = ls.length := by omega
      rw [offK_all] at HA hA
      have hkk : ¬ (ls.length : Int) < (ls.length : Int) := by omega
      have HC : Hid (∀ W', RowKit.Below wr.heap.size wr W' → Calls Try.prog 17 #[.slice sp ls.length cap] W' fun e w' => ∃ v', e = .returned v' ∧ w'.ownsRow W'.heap.size 56 2 v' ls.length (lfs (offL ls)) ∧ RowKit.Below W'.heap.size W' w') := fun W' hb => by
        obtain ⟨v', hv', hr'⟩ := (hA.below hb).blk
        rw [hb.block Bb (Array.getElem?_eq_some_iff.1 hv2).1, hv2] at hv'
        obtain rfl : Value.slice sp ls.length cap = v' := by simpa using hv'
        have hl : (offL ls).length = ls.length := by unfold offL; simp
        have := CloneL_any base _ (offL ls) W' (by omega) hr'
        rw [hl] at this
        exact this
      have hbd : RowKit.Below wr.heap.size wr wr.drew := ⟨rfl, rfl, rfl, Nat.le_refl _, fun _ _ => rfl⟩
      have HC1 := Lib.hid (HC.out wr.drew hbd)
      have hBl : Bb < wr.heap.size := (Array.getElem?_eq_some_iff.1 hv2).1
      have HB := Lib.hid hB
      have HS := Lib.hid hsz
      clear hA hv2 hbk hB hsz
      go_wp2_with fail
      go_region_law (go_simp; go_at_call 17; refine Calls.mono HC1.out ?_; rintro e w4 ⟨v4, rfl, hR4, hb4⟩; obtain ⟨sp4, cap4, rfl⟩ := row_formk hR4; have y0 := (hb4.cell (p := ⟨Bb, 0, none⟩) (by simpa using hBl)).trans c3; have HR4 := Lib.hid hR4; have HB4 := Lib.hid hb4; clear hR4 hb4)
      all_goals go_wp2
      all_goals go_ret
      all_goals
        have hb4 : RowKit.Below w.heap.size wr w4 := by rw [← HS.out]; exact hbd.trans HB4.out
        have hz4 : w.heap.size ≤ w4.heap.size := by have h1 := hb4.size; have h2 := HS.out; omega
        refine ⟨w4.heap.size, wr, rfl, HA.out, HS.out, HB.out, hb4.alloc hz4 _, ?_, HOt.out⟩
        refine ⟨⟨.slice sp4 ls.length cap4, heap_new _ _, ?_⟩, ?_, ?_, hlen, ?_, ?_⟩
        · have := HR4.out.alloc (.cells #[.int .i64 d.length, .slice sp4 ls.length cap4] 53)
          rw [show (offL ls).length = ls.length from by unfold offL; simp]
          rw [← HS.out]; exact this
        · intro i x hi
          have hbb : RowKit.Below wr.heap.size wr (w4.alloc (.cells #[.int .i64 d.length, .slice sp4 ls.length cap4] 53)) := (hbd.trans HB4.out).alloc (hbd.trans HB4.out).size _
          refine ⟨((HA.out.below hbb).pgs i x hi).1, fun e => ?_⟩
          unfold offL at hi
          rw [List.getElem?_map] at hi
          cases hh : ls[i]? with
          | none => rw [hh] at hi; cases hi
          | some y => rw [hh] at hi; simp at hi; subst hi; cases e
        · exact HA.out.dis
        · exact HA.out.cnt
        · exact hz4
theorem Copy_any (base Bb : Nat) (d : List UInt8) (ls : List (Nat × Bool)) (w : World) (h : BAt w base Bb d ls) :
    Calls Try.prog 8 #[.pointer (some ⟨Bb, 0, none⟩)] w fun e w' => ∃ C w1, e = .returned (.pointer (some ⟨C, 0, none⟩)) ∧ BAt w1 base Bb d (offL ls) ∧ w1.heap.size = w.heap.size ∧ Below base w w1 ∧ Below w.heap.size w1 w' ∧ BAt w' w.heap.size C d (offL ls) :=
  (Copy_z base Bb d ls w h).mono fun _ _ ⟨C, w1, h1, h2, h3, h4, h5, h6, _⟩ => ⟨C, w1, h1, h2, h3, h4, h5, h6⟩
end Go.Proofs.Ytpedinpjdepjdaa
