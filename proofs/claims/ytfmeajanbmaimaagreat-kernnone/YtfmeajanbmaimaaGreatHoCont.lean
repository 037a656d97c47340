/- container, entry, has and room of package hold. -/
import Derived.Test.YtfmeajanbmaimaaGreatHoTail
import Derived.OwnWalk
import Derived.Maps.AppendAt
/- What link of package hold does. -/
namespace Go.Proofs.YtfmeajanbmaimaaGreat.Ho
open Go.RowKit Go.Sort
theorem row_ne {w : World} {base n B : Nat} {v : Value} {xs : List Value} {e t : TypeId} {sz : Nat} {c : Array Value} {f : Nat × Nat} (hr : w.ownsRow base e sz v n xs) (hB : w.heap[B]? = some (.cells c t f)) (ht : t ≠ e) : v.ownBlock ≠ some B := fun h => by
  rcases hr.2 with ⟨rfl, _⟩ | ⟨g, cap', cur, rfl, _, hg, _⟩
  · cases h
  · obtain rfl : g = B := by simpa [Value.ownBlock] using h
    rw [hB] at hg
    simp at hg
    exact ht hg.2.1
set_option maxRecDepth 100000 in
set_option maxHeartbeats 1000000 in
theorem add_any (base B n : Nat) (c0 c1 c2 c3 c4 c5 c6 : Value) (iv : Value) (xs : List Value) (x : Int) (w : World) (hB : w.heap[B]? = some (.cells #[c0, c1, c2, c3, c4, c5, c6, iv] 166 (0, 0))) (hr : w.ownsRow base 3 1 iv n xs) (hb : base ≤ w.heap.size) (hn : n < 1000000) :
    Calls Tryz.prog 180 #[.pointer (some ⟨B, 7, none⟩), .int .i64 x] w fun e w' => (∃ v, e = .returned v) ∧ ∃ iv', w'.heap[B]? = some (.cells #[c0, c1, c2, c3, c4, c5, c6, iv'] 166 (0, 0)) ∧ w'.ownsRow base 3 1 iv' (n + 1) (xs ++ [.int .i64 x]) ∧ (∀ k, iv'.ownBlock = some k → iv.ownBlock = some k ∨ w.heap.size ≤ k) ∧ Fm w w' (fun k => k = B ∨ iv.ownBlock = some k) (fun _ => False) := by
  obtain ⟨i0, hi, hz0, hz1, hz2⟩ := info_parts intInfo
  obtain ⟨sp, cap, rfl⟩ := row_form hr
  have c7 : w.cell? ⟨B, 7, none⟩ = some (.slice sp n cap) := by simp [World.cell?, hB]
  have f7 : w.frozen? ⟨B, 7, none⟩ = false := by simp [World.frozen?, hB]
  have hne := row_ne hr hB (by decide)
  have hBl := (Array.getElem?_eq_some_iff.1 hB).1
  have hRA := hr.alloc (.cells #[.int .i64 x] 3)
  have HRA := Lib.hid hRA
  have HNw : Hid (∀ j u, ([.int .i64 x] : List Value)[j]? = some u → (w.alloc (.cells #[.int .i64 x] 3)).cell? ((⟨w.heap.size, 0, none⟩ : Addr).add j) = some u) := fun j u hu => by
    match j, hu with
    | 0, hu => simp at hu; subst hu; show World.cell? _ ⟨w.heap.size, 0, none⟩ = _; rw [cell_of_row _ _ _ _ _ _ (heap_new _ _)]; rfl
    | j + 1, hu => simp at hu
  have HOn : Hid (∀ u ∈ ([.int .i64 x] : List Value), u.oneCell' = true) := fun u hu => by simp at hu; rcases hu with rfl; rfl
  have HB := Lib.hid hB
  have HR := Lib.hid hr
  clear hr hRA hB
  go_enter Tryz.func180, Tryz.ntmps180
  go_wp2_with (at_builtin; refine wpList_append_own_at _ rfl _ _ 34 rfl base 3 i0 (.int .i64 0) 1 8 (by kernel_rfl) hi hz0 hz1 hz2 rfl (by decide) _ _ _ rfl HRA.out ⟨w.heap.size, 0, none⟩ 1 1 [.int .i64 x] rfl rfl HNw.out HOn.out (by show _ ≤ 2 ^ 63 - 1; omega) (by omega) (by simp; omega) ?_; intro v' w4 hown4 hgrow4 hnil4 hat4; clear hnil4; obtain ⟨sp4, cap4, rfl⟩ := row_form hown4; have hB4 := (hgrow4.block B (by simp; omega) (fun e => hne e.symm)).trans ((Below.heap_alloc _ _ _ hBl).trans HB.out); have d7 : w4.cell? ⟨B, 7, none⟩ = some (.slice sp n cap) := (by simp [World.cell?, hB4]); have g7 : w4.frozen? ⟨B, 7, none⟩ = false := (by simp [World.frozen?, hB4]); have HW4 := Lib.hid hown4; have HG4 := Lib.hid hgrow4; have HB4 := Lib.hid hB4; clear hown4 hgrow4 hB4)
  go_end0
  have z4 := HG4.out.size
  simp at z4
  refine ⟨⟨_, rfl⟩, .slice sp4 (n + 1) cap4, ?_, ?_, ?_, ?_⟩
  · rw [heap_setCell_same _ _ _ _ _ _ HB4.out]; rfl
  · exact row_same HW4.out (fun k hk => heap_ne _ _ _ (fun e => by subst e; exact row_ne HW4.out HB4.out (by decide) hk))
  · intro k hk
    rcases hat4 with h | h
    · exact .inl (h ▸ hk)
    · rw [h] at hk; simp at hk; exact .inr (by omega)
  · refine ⟨HG4.out.os, HG4.out.tape, HG4.out.output, by simp; omega, fun k hk hf => ?_, fun k h => h.elim⟩
    rw [heap_ne _ _ _ (fun e => hf (.inl e)), HG4.out.block k (by simp; omega) (fun e => hf (.inr e.symm)), Below.heap_alloc _ _ _ hk]
/-- An object, none of whose blocks has turned. -/
theorem RAt.same {w w' : World} {base : Nat} {r : Rc} (h : RAt w base r) (hs : ∀ k, foot r k → w'.heap[k]? = w.heap[k]?) : RAt w' base r :=
  ⟨(hs r.B (.inl rfl)).trans h.blk, row_same h.cat (fun k hk => hs k (.inr (.inl hk))), row_same h.row (fun k hk => hs k (.inr (.inr hk))), h.low⟩
theorem RAt.lt {w : World} {base : Nat} {r : Rc} (h : RAt w base r) {k : Nat} (hk : foot r k) : base ≤ k ∧ k < w.heap.size := by
  rcases hk with rfl | hk | hk
  · exact ⟨h.low, (Array.getElem?_eq_some_iff.1 h.blk).1⟩
  · exact h.cat.lt k hk
  · exact h.row.lt k hk
/-- The blocks of one object are apart. -/
theorem RAt.catB {w : World} {base : Nat} {r : Rc} (h : RAt w base r) : r.cv.ownBlock ≠ some r.B := row_ne h.cat h.blk (by decide)
theorem RAt.rowB {w : World} {base : Nat} {r : Rc} (h : RAt w base r) : r.iv.ownBlock ≠ some r.B := row_ne h.row h.blk (by decide)
theorem RAt.catRow {w : World} {base : Nat} {r : Rc} (h : RAt w base r) {k : Nat} (h1 : r.cv.ownBlock = some k) (h2 : r.iv.ownBlock = some k) : False := by
  rcases h.cat.2 with ⟨hv, _⟩ | ⟨g, cap, cur, hv, _, hg, _⟩
  · rw [hv] at h1; cases h1
  · rcases h.row.2 with ⟨hv2, _⟩ | ⟨g2, cap2, cur2, hv2, _, hg2, _⟩
    · rw [hv2] at h2; cases h2
    · rw [hv] at h1; rw [hv2] at h2
      obtain rfl : g = k := by simpa [Value.ownBlock] using h1
      obtain rfl : g2 = g := by simpa [Value.ownBlock] using h2
      rw [hg] at hg2; simp at hg2
/-- Box r with the entry s. -/
def linkR (r s : Rc) (iv : Value) : Rc := { r with iv := iv, ob := { r.ob with used := r.ob.used + s.ob.quota, ents := r.ob.ents ++ [s.ob.id] } }
def upR (s : Rc) : Rc := { s with ob := { s.ob with links := s.ob.links + 1 } }
set_option maxRecDepth 100000 in
set_option maxHeartbeats 1000000 in
theorem link_any (base : Nat) (r s : Rc) (w : World) (hr : RAt w base r) (hs : RAt w base s) (hap : ∀ k, foot r k → foot s k → False) (hn : r.ob.ents.length < 1000000) (hu : i64 (r.ob.used + s.ob.quota)) (hl : i64 (s.ob.links + 1)) :
    Calls Tryz.prog 120 #[.pointer (some ⟨r.B, 0, none⟩), .pointer (some ⟨s.B, 0, none⟩)] w fun e w' => (∃ v, e = .returned v) ∧ ∃ iv, RAt w' base (linkR r s iv) ∧ RAt w' base (upR s) ∧ (∀ k, foot (linkR r s iv) k → foot r k ∨ w.heap.size ≤ k) ∧ Fm w w' (fun k => foot r k ∨ foot s k) (fun _ => False) := by
  have hbl := (hr.lt (.inl rfl)).2
  have hblo := (hr.lt (.inl rfl)).1
  have hA := fun q => add_any base r.B r.ob.ents.length _ _ _ _ _ _ _ r.iv (ivs r.ob.ents) s.ob.id (w.drewN q) hr.blk hr.row (by show _ ≤ w.heap.size; omega) hn
  have s0 : ∀ q, (w.drewN q).cell? ⟨s.B, 0, none⟩ = some (.int .i64 s.ob.id) := fun q => show w.cell? _ = _ by simp [World.cell?, hs.blk, cellsR]
  have hne : r.B ≠ s.B := fun e => hap r.B (.inl rfl) (.inl e)
  have HA := Lib.hid hA
  have HR := Lib.hid hr
  have HS := Lib.hid hs
  have HAP := Lib.hid hap
  clear hr hs hap hA
  go_enter Tryz.func120, Tryz.ntmps120
  go_wp2_with fail
  refine wp_region_tail_d 8 (by kernel_rfl) (by kernel_rfl) ?_
  simp only [List.take_succ_cons, List.take_zero, List.drop_succ_cons, List.drop_zero]
  repeat (quiet_step (fail))
  refine wpQuiet_nil ?_
  intro _ hw'
  obtain ⟨nq, hw''⟩ := hw'
  subst hw''
  go_wp2_with (first | (go_at_call 180; refine (HA.out nq).mono ?_; rintro e w2 ⟨⟨v, rfl⟩, iv, hB2, hr2, hiv2, hF2⟩; refine Hid.out ?_))
  refine Lib.hid ?_
  have hs2 : RAt w2 base s := HS.out.same (fun k hk => hF2.same k (HS.out.lt hk).2 (fun h => by
    rcases h with h | h
    · exact HAP.out k (.inl h) hk
    · exact HAP.out k (.inr (.inr h)) hk))
  have q3 : ∀ q, (w2.drewN q).cell? ⟨r.B, 3, none⟩ = some (.int .i64 r.ob.used) := fun q => show w2.cell? _ = _ by simp [World.cell?, hB2]
  have qf : ∀ q, (w2.drewN q).frozen? ⟨r.B, 3, none⟩ = false := fun q => show w2.frozen? _ = _ by simp [World.frozen?, hB2]
  have t2 : ∀ q, (w2.drewN q).cell? ⟨s.B, 2, none⟩ = some (.int .i64 s.ob.quota) := fun q => show w2.cell? _ = _ by simp [World.cell?, hs2.blk, cellsR]
  have t4 : ∀ q, (w2.drewN q).cell? ⟨s.B, 4, none⟩ = some (.int .i64 s.ob.links) := fun q => show w2.cell? _ = _ by simp [World.cell?, hs2.blk, cellsR]
  have tf : ∀ q, (w2.drewN q).frozen? ⟨s.B, 4, none⟩ = false := fun q => show w2.frozen? _ = _ by simp [World.frozen?, hs2.blk]
  have hw1 : wrap64 (r.ob.used + s.ob.quota) = r.ob.used + s.ob.quota := by unfold i64 at hu; unfold wrap64; omega
  have hw2 : wrap64 (s.ob.links + 1) = s.ob.links + 1 := by unfold i64 at hl; unfold wrap64; omega
  have HB2 := Lib.hid hB2
  have HR2 := Lib.hid hr2
  have HS2 := Lib.hid hs2
  have HF2 := Lib.hid hF2
  clear hB2 hr2 hs2 hF2 hu hl
  go_wp2_with fail
  refine wp_region_tail_d 14 (by kernel_rfl) (by kernel_rfl) ?_
  simp only [List.take_succ_cons, List.take_zero, List.drop_succ_cons, List.drop_zero]
  repeat (quiet_step (fail))
  refine wpQuiet_nil ?_
  intro _ hw'
  obtain ⟨n2, hw''⟩ := hw'
  subst hw''
  go_wp2_with fail
  go_end0
  have hX : ∀ k, k ≠ r.B → k ≠ s.B → (((w2.drewN n2).setCell ⟨r.B, 3, none⟩ (.int .i64 (r.ob.used + s.ob.quota))).setCell ⟨s.B, 4, none⟩ (.int .i64 (s.ob.links + 1))).heap[k]? = w2.heap[k]? := fun k h1 h2 => by
    rw [heap_ne _ _ _ h2, heap_ne _ _ _ h1]; rfl
  have hcs : ∀ k, r.cv.ownBlock = some k → w2.heap[k]? = w.heap[k]? := fun k hk => HF2.out.same k (HR.out.lt (.inr (.inl hk))).2 (fun h => by
    rcases h with h | h
    · subst h; exact HR.out.catB hk
    · exact HR.out.catRow hk h)
  have hXr : (((w2.drewN n2).setCell ⟨r.B, 3, none⟩ (.int .i64 (r.ob.used + s.ob.quota))).setCell ⟨s.B, 4, none⟩ (.int .i64 (s.ob.links + 1))).heap[r.B]? = some (.cells (cellsR (linkR r s iv)) 166 (0, 0)) := by
    rw [heap_ne _ _ _ hne, heap_setCell_same (w2.drewN n2) _ _ _ _ _ HB2.out]; rfl
  have hXs : (((w2.drewN n2).setCell ⟨r.B, 3, none⟩ (.int .i64 (r.ob.used + s.ob.quota))).setCell ⟨s.B, 4, none⟩ (.int .i64 (s.ob.links + 1))).heap[s.B]? = some (.cells (cellsR (upR s)) 166 (0, 0)) := by
    have h0 : ((w2.drewN n2).setCell ⟨r.B, 3, none⟩ (.int .i64 (r.ob.used + s.ob.quota))).heap[s.B]? = some (.cells (cellsR s) 166 (0, 0)) := (heap_ne _ _ _ (Ne.symm hne)).trans HS2.out.blk
    rw [heap_setCell_same _ _ _ _ _ _ h0]; rfl
  refine ⟨⟨_, rfl⟩, iv, ⟨hXr, ?_, ?_, HR.out.low⟩, ⟨hXs, ?_, ?_, HS.out.low⟩, ?_, ⟨HF2.out.os, HF2.out.tape, HF2.out.output, by have := HF2.out.size; simpa using this, ?_, fun k h => h.elim⟩⟩
  · refine row_same HR.out.cat (fun k hk => ?_)
    rw [hX k (fun e => by subst e; exact HR.out.catB hk) (fun e => HAP.out k (.inr (.inl hk)) (.inl e)), hcs k hk]
  · show World.ownsRow _ base 3 1 iv (r.ob.ents ++ [s.ob.id]).length (ivs (r.ob.ents ++ [s.ob.id]))
    rw [List.length_append, show ivs (r.ob.ents ++ [s.ob.id]) = ivs r.ob.ents ++ [.int .i64 s.ob.id] from by unfold ivs; rw [List.map_append]; rfl]
    exact row_same HR2.out (fun k hk => hX k (fun e => by subst e; exact row_ne HR2.out HB2.out (by decide) hk) (fun e => by subst e; exact row_ne HR2.out HS2.out.blk (by decide) hk))
  · exact row_same HS2.out.cat (fun k hk => hX k (fun e => HAP.out k (.inl e) (.inr (.inl hk))) (fun e => by subst e; exact HS2.out.catB hk))
  · exact row_same HS2.out.row (fun k hk => hX k (fun e => HAP.out k (.inl e) (.inr (.inr hk))) (fun e => by subst e; exact HS2.out.rowB hk))
  · intro k hk
    rcases hk with h | h | h
    · exact .inl (.inl h)
    · exact .inl (.inr (.inl h))
    · rcases hiv2 k h with h | h
      · exact .inl (.inr (.inr h))
      · exact .inr h
  · intro k hk hf
    rw [hX k (fun e => hf (.inl (.inl e))) (fun e => hf (.inr (.inl e)))]
    exact HF2.out.same k hk (fun h => by
      rcases h with h | h
      · exact hf (.inl (.inl h))
      · exact hf (.inl (.inr (.inr h))))
end Go.Proofs.YtfmeajanbmaimaaGreat.Ho
namespace Go.Proofs.YtfmeajanbmaimaaGreat.Ho
open Go.RowKit Go.Sort
def contE (T : Tab) (i : Int) : Int := match T i with
  | none => 4
  | some r => if r.ob.kind = 1 then 0 else 5
def contP (T : Tab) (i : Int) : Value := if contE T i = 0 then fnd T i else .pointer none
theorem container_any {w : World} {base tb mb : Nat} {D : DataW Unit} {T : Tab} (h : TAt w base tb mb D T) (i : Int) (hi : i64 i) :
    Calls Tryz.prog 96 #[.pointer (some ⟨tb, 0, none⟩), .int .i64 i] w fun e w' => e = .returned (.tuple #[contP T i, .int .i64 (contE T i)]) ∧ w' = w := by
  have H := find_any h i hi
  unfold contP contE
  cases hT : T i with
  | none =>
    have hf : fnd T i = .pointer none := by unfold fnd; rw [hT]; rfl
    rw [hf] at H
    have HH := Lib.hid H
    clear h H
    go_enter Tryz.func96, Tryz.ntmps96
    go_wp2_with (go_at_call 94; refine HH.out.mono ?_; rintro e w1 ⟨rfl, hw1⟩; rw [hw1]; clear hw1 w1)
    go_ret2
    exact ⟨by simp, rfl⟩
  | some r =>
    have hf : fnd T i = .pointer (some ⟨r.B, 0, none⟩) := by unfold fnd; rw [hT]; rfl
    rw [hf] at H
    have HH := Lib.hid H
    have c1 : w.cell? ⟨r.B, 1, none⟩ = some (.int .i64 r.ob.kind) := by simp [World.cell?, (h.obj i r hT).1.blk, cellsR]
    have HF := Lib.hid hf
    clear h H hf
    by_cases hk : r.ob.kind = 1
    · have hk' : (r.ob.kind != 1) = false := by simp [hk]
      go_enter Tryz.func96, Tryz.ntmps96
      go_wp2_with (go_at_call 94; refine HH.out.mono ?_; rintro e w1 ⟨rfl, hw1⟩; rw [hw1]; clear hw1 w1)
      go_ret2
      exact ⟨by simp [HF.out], rfl⟩
    · have hk' : (r.ob.kind != 1) = true := by simpa using hk
      go_enter Tryz.func96, Tryz.ntmps96
      go_wp2_with (go_at_call 94; refine HH.out.mono ?_; rintro e w1 ⟨rfl, hw1⟩; rw [hw1]; clear hw1 w1)
      go_ret2
      exact ⟨by simp, rfl⟩
theorem room_any {w : World} {base : Nat} {r : Rc} (h : RAt w base r) (hu : i64 (r.ob.quota - r.ob.used)) :
    Calls Tryz.prog 119 #[.pointer (some ⟨r.B, 0, none⟩)] w fun e w' => e = .returned (.int .i64 (r.ob.quota - r.ob.used)) ∧ ∃ q, w' = w.drewN q := by
  have c2 : ∀ q, (w.drewN q).cell? ⟨r.B, 2, none⟩ = some (.int .i64 r.ob.quota) := fun q => show w.cell? _ = _ by simp [World.cell?, h.blk, cellsR]
  have c3 : ∀ q, (w.drewN q).cell? ⟨r.B, 3, none⟩ = some (.int .i64 r.ob.used) := fun q => show w.cell? _ = _ by simp [World.cell?, h.blk, cellsR]
  have hw : wrap64 (r.ob.quota - r.ob.used) = r.ob.quota - r.ob.used := by unfold i64 at hu; unfold wrap64; omega
  clear h hu
  go_enter Tryz.func119, Tryz.ntmps119
  go_wp2_with fail
  go_quiet (fail)
  go_wp2
  go_ret
  exact ⟨by show Ending.returned (Value.int .i64 (wrap64 _)) = _; rw [hw], nq, rfl⟩
theorem map_same {w w' : World} {mb n : Nat} {D : DataW Unit} (h : w.ownsMap Tryz.prog 3 ptrE mb n D) (hs : w'.heap[mb]? = w.heap[mb]?) : w'.ownsMap Tryz.prog 3 ptrE mb n D := by
  obtain ⟨es, clock, hb, F, hz, rfl⟩ := h
  exact ⟨es, clock, hs.trans hb, F, hz, rfl⟩
/-- The bound is exact. -/
theorem map_exact {w : World} {mb n : Nat} {D : DataW Unit} (h : w.ownsMap Tryz.prog 3 ptrE mb n D) : MapAt w mb D := by
  obtain ⟨es, clock, hb, F, hz, rfl⟩ := h
  refine ⟨es, clock, hb, F, ?_, rfl⟩
  rw [Maps.size_eq, length_sorted]
  simp
theorem TAt.same {w w' : World} {base tb mb : Nat} {D : DataW Unit} {T : Tab} (h : TAt w base tb mb D T) (hs : ∀ k, tfoot tb mb T k → w'.heap[k]? = w.heap[k]?) : TAt w' base tb mb D T :=
  ⟨(hs tb (.inl rfl)).trans h.blk, map_same h.map (hs mb (.inr (.inl rfl))), h.has, h.at_, fun k r hr => ⟨(h.obj k r hr).1.same (fun j hj => hs j (.inr (.inr ⟨k, r, hr, hj⟩))), (h.obj k r hr).2⟩, h.apart, h.lowt, h.lowm⟩
theorem TAt.lt {w : World} {base tb mb : Nat} {D : DataW Unit} {T : Tab} (h : TAt w base tb mb D T) {k : Nat} (hk : tfoot tb mb T k) : base ≤ k ∧ k < w.heap.size := by
  rcases hk with rfl | rfl | ⟨i, r, hr, hk⟩
  · exact ⟨h.lowt, (Array.getElem?_eq_some_iff.1 h.blk).1⟩
  · exact ⟨h.lowm, h.map.lt⟩
  · exact (h.obj i r hr).1.lt hk
theorem TAt.below {w w' : World} {base tb mb : Nat} {D : DataW Unit} {T : Tab} (h : TAt w base tb mb D T) (hb : Below w.heap.size w w') : TAt w' base tb mb D T :=
  h.same (fun k hk => hb.block k (h.lt hk).2)
/-- The table's blocks and its map are no object's. -/
theorem TAt.tbF {w : World} {base tb mb : Nat} {D : DataW Unit} {T : Tab} (h : TAt w base tb mb D T) {i : Int} {r : Rc} (hr : T i = some r) : ¬ foot r tb := fun hf => by
  have ho := (h.obj i r hr).1
  rcases hf with e | e | e
  · have := ho.blk; rw [← e, h.blk] at this; simp at this
  · exact row_ne ho.cat h.blk (by decide) e
  · exact row_ne ho.row h.blk (by decide) e
theorem row_nem {w : World} {base n B : Nat} {v : Value} {xs : List Value} {e : TypeId} {sz : Nat} {es : Array MapEntry} {cl : Nat} (hr : w.ownsRow base e sz v n xs) (hB : w.heap[B]? = some (.map es cl)) : v.ownBlock ≠ some B := fun h => by
  rcases hr.2 with ⟨rfl, _⟩ | ⟨g, cap', cur, rfl, _, hg, _⟩
  · cases h
  · obtain rfl : g = B := by simpa [Value.ownBlock] using h
    rw [hB] at hg
    simp at hg
theorem RAt.mbF {w : World} {base mb n : Nat} {D : DataW Unit} {r : Rc} (ho : RAt w base r) (hm : w.ownsMap Tryz.prog 3 ptrE mb n D) : ¬ foot r mb := fun hf => by
  obtain ⟨es, clock, hb, F, hz, _⟩ := hm
  rcases hf with e | e | e
  · have := ho.blk; rw [← e, hb] at this; simp at this
  · exact row_nem ho.cat hb e
  · exact row_nem ho.row hb e
theorem TAt.mbt {w : World} {base tb mb : Nat} {D : DataW Unit} {T : Tab} (h : TAt w base tb mb D T) : tb ≠ mb := fun e => by
  obtain ⟨es, clock, hb, F, hz, _⟩ := h.map
  rw [← e, h.blk] at hb
  simp at hb
end Go.Proofs.YtfmeajanbmaimaaGreat.Ho
