/- What Info of package hold tells of an object that is there. -/
import Derived.Test.YtebcnlhgkpaghaaHas
namespace Go.Proofs.Ytebcnlhgkpaghaa
open Go.RowKit Go.Sort
def infoV (r : Rc) (v : Value) : Value := .agg #[.int .i64 r.ob.id, .int .i64 r.ob.kind, .int .i64 r.ob.quota, .int .i64 r.ob.used, .int .i64 r.ob.links, .int .i64 r.ob.df, v]
theorem cats_row {w : World} {base : Nat} {v : Value} {xs : List (Int × Int)} (h : w.ownsRow base 84 2 v xs.length (flat xs)) : ∃ p cap, v = .slice p xs.length cap ∧ CatsAt w p xs := by
  rcases h.2 with ⟨rfl, h0⟩ | ⟨g, cap, cur, rfl, _⟩
  · have := List.length_eq_zero_iff.1 h0
    subst this
    exact ⟨none, 0, rfl, fun j hj => by simp at hj⟩
  · refine ⟨some ⟨g, 0, none⟩, cap, rfl, fun j hj => ⟨g, 0, rfl, (h.lt g rfl).2, ?_, ?_⟩⟩
    · rw [Nat.zero_add, h.cellAt (j * 2) (by omega)]; exact (flat_at xs j hj).1
    · rw [Nat.zero_add, h.cellAt (j * 2 + 1) (by omega)]; exact (flat_at xs j hj).2
set_option maxRecDepth 100000 in
set_option maxHeartbeats 1000000 in
theorem told_any {w : World} {base : Nat} {r : Rc} (h : RAt w base r) (hm : r.ob.cats.length * 16 ≤ 140737488355328) :
    Calls Try.prog 56 #[.pointer (some ⟨r.B, 0, none⟩)] w fun e w' => ∃ sp c, e = .returned (infoV r (.slice sp r.ob.cats.length c)) ∧ w'.ownsRow w.heap.size 84 2 (.slice sp r.ob.cats.length c) r.ob.cats.length (flat r.ob.cats) ∧ Below w.heap.size w w' := by
  obtain ⟨p, cap, hv, hc⟩ := cats_row h.cat
  have hb := h.blk
  have hbl := (h.lt (.inl rfl)).2
  have c0 : w.cell? ⟨r.B, 0, none⟩ = some (.int .i64 r.ob.id) := by simp [World.cell?, hb, cellsR]
  have c1 : w.cell? ⟨r.B, 1, none⟩ = some (.int .i64 r.ob.kind) := by simp [World.cell?, hb, cellsR]
  have c2 : w.cell? ⟨r.B, 2, none⟩ = some (.int .i64 r.ob.quota) := by simp [World.cell?, hb, cellsR]
  have c3 : w.cell? ⟨r.B, 3, none⟩ = some (.int .i64 r.ob.used) := by simp [World.cell?, hb, cellsR]
  have c4 : w.cell? ⟨r.B, 4, none⟩ = some (.int .i64 r.ob.links) := by simp [World.cell?, hb, cellsR]
  have c5 : w.cell? ⟨r.B, 5, none⟩ = some (.int .i64 r.ob.df) := by simp [World.cell?, hb, cellsR]
  have c6 : w.cell? ⟨r.B, 6, none⟩ = some (.slice p r.ob.cats.length cap) := by rw [← hv]; simp [World.cell?, hb, cellsR]
  have HC := Lib.hid (fun W (hW : RowKit.Below w.heap.size w W) => copied_any r.ob.df p cap r.ob.cats W hm (hc.below hW))
  clear hb hv hc h
  have hW : Below w.heap.size w ((w.alloc (.cells #[.int .i64 0, .int .i64 0, .int .i64 0, .int .i64 0, .int .i64 0, .int .i64 0, .slice none 0 0] 50)).alloc (.cells #[.int .i64 r.ob.id, .int .i64 r.ob.kind, .int .i64 r.ob.quota, .int .i64 r.ob.used, .int .i64 r.ob.links, .int .i64 r.ob.df, .slice p r.ob.cats.length cap] 50)) := by go_grown
  have E1 : ((w.alloc (.cells #[.int .i64 0, .int .i64 0, .int .i64 0, .int .i64 0, .int .i64 0, .int .i64 0, .slice none 0 0] 50)).alloc (.cells #[.int .i64 r.ob.id, .int .i64 r.ob.kind, .int .i64 r.ob.quota, .int .i64 r.ob.used, .int .i64 r.ob.links, .int .i64 r.ob.df, .slice p r.ob.cats.length cap] 50)).heap[w.heap.size + 1]? = some (.cells #[.int .i64 r.ob.id, .int .i64 r.ob.kind, .int .i64 r.ob.quota, .int .i64 r.ob.used, .int .i64 r.ob.links, .int .i64 r.ob.df, .slice p r.ob.cats.length cap] 50 (0, 0)) := by
    have := heap_new (w.alloc (.cells #[.int .i64 0, .int .i64 0, .int .i64 0, .int .i64 0, .int .i64 0, .int .i64 0, .slice none 0 0] 50)) (.cells #[.int .i64 r.ob.id, .int .i64 r.ob.kind, .int .i64 r.ob.quota, .int .i64 r.ob.used, .int .i64 r.ob.links, .int .i64 r.ob.df, .slice p r.ob.cats.length cap] 50)
    simpa using this
  have E0 : ((w.alloc (.cells #[.int .i64 0, .int .i64 0, .int .i64 0, .int .i64 0, .int .i64 0, .int .i64 0, .slice none 0 0] 50)).alloc (.cells #[.int .i64 r.ob.id, .int .i64 r.ob.kind, .int .i64 r.ob.quota, .int .i64 r.ob.used, .int .i64 r.ob.links, .int .i64 r.ob.df, .slice p r.ob.cats.length cap] 50)).heap[w.heap.size]? = some (.cells #[.int .i64 0, .int .i64 0, .int .i64 0, .int .i64 0, .int .i64 0, .int .i64 0, .slice none 0 0] 50 (0, 0)) := by
    rw [Below.heap_alloc _ _ _ (by simp)]; exact heap_new _ _
  have HC1 := Lib.hid (HC.out _ hW)
  clear HC
  go_enter Try.func56, Try.ntmps56
  go_wp2_with (first | (go_at_call 47; refine HC1.out.mono ?_; rintro e w2 ⟨sp, c, rfl, hr2, hb2⟩; have hz2 := hb2.size; have e1 : w2.heap[w.heap.size + 1]? = some (.cells #[.int .i64 r.ob.id, .int .i64 r.ob.kind, .int .i64 r.ob.quota, .int .i64 r.ob.used, .int .i64 r.ob.links, .int .i64 r.ob.df, .slice p r.ob.cats.length cap] 50 (0, 0)) := (hb2.block _ (by simp)).trans E1; have e0 : w2.heap[w.heap.size]? = some (.cells #[.int .i64 0, .int .i64 0, .int .i64 0, .int .i64 0, .int .i64 0, .int .i64 0, .slice none 0 0] 50 (0, 0)) := (hb2.block _ (by simp; omega)).trans E0; have t0 : w2.cell? ⟨w.heap.size + 1, 0, none⟩ = some (.int .i64 r.ob.id) := (by simp [World.cell?, e1]); have s0 : w2.cell? ⟨w.heap.size, 0, none⟩ = some (.int .i64 0) := (by simp [World.cell?, e0]); have t1 : w2.cell? ⟨w.heap.size + 1, 1, none⟩ = some (.int .i64 r.ob.kind) := (by simp [World.cell?, e1]); have s1 : w2.cell? ⟨w.heap.size, 1, none⟩ = some (.int .i64 0) := (by simp [World.cell?, e0]); have t2 : w2.cell? ⟨w.heap.size + 1, 2, none⟩ = some (.int .i64 r.ob.quota) := (by simp [World.cell?, e1]); have s2 : w2.cell? ⟨w.heap.size, 2, none⟩ = some (.int .i64 0) := (by simp [World.cell?, e0]); have t3 : w2.cell? ⟨w.heap.size + 1, 3, none⟩ = some (.int .i64 r.ob.used) := (by simp [World.cell?, e1]); have s3 : w2.cell? ⟨w.heap.size, 3, none⟩ = some (.int .i64 0) := (by simp [World.cell?, e0]); have t4 : w2.cell? ⟨w.heap.size + 1, 4, none⟩ = some (.int .i64 r.ob.links) := (by simp [World.cell?, e1]); have s4 : w2.cell? ⟨w.heap.size, 4, none⟩ = some (.int .i64 0) := (by simp [World.cell?, e0]); have t5 : w2.cell? ⟨w.heap.size + 1, 5, none⟩ = some (.int .i64 r.ob.df) := (by simp [World.cell?, e1]); have s5 : w2.cell? ⟨w.heap.size, 5, none⟩ = some (.int .i64 0) := (by simp [World.cell?, e0]); have t6 : w2.cell? ⟨w.heap.size + 1, 6, none⟩ = some (.slice p r.ob.cats.length cap) := (by simp [World.cell?, e1]); have s6 : w2.cell? ⟨w.heap.size, 6, none⟩ = some (.slice none 0 0) := (by simp [World.cell?, e0]); have tf : (∀ o, w2.frozen? ⟨w.heap.size + 1, o, none⟩ = false) := (fun o => by simp [World.frozen?, e1]); have sf : (∀ o, w2.frozen? ⟨w.heap.size, o, none⟩ = false) := (fun o => by simp [World.frozen?, e0]); have HR2 := Lib.hid hr2; have HB2 := Lib.hid hb2; clear hr2 hb2 e0 e1; refine Hid.out ?_))
  refine Lib.hid ?_
  clear E0 E1 c0 c1 c2 c3 c4 c5 c6
  go_wp2_with fail
  have hB2 : RowKit.Below w.heap.size w w2 := hW.trans (HB2.out.mono (by simp; omega))
  refine bodyPost_ret (by simp [results, Try.results56, go_sem, s0, s1, s2, s3, s4, s5, s6]; rfl) rfl ⟨sp, c, rfl, ?_, ?_⟩
  · refine row_mono (row_same HR2.out (fun k hk => ?_)) (by simp; omega)
    have hk1 := (HR2.out.lt k hk).1
    simp at hk1
    rw [heap_ne _ _ _ (by show k ≠ w.heap.size; omega), heap_ne _ _ _ (by show k ≠ w.heap.size; omega), heap_ne _ _ _ (by show k ≠ w.heap.size; omega), heap_ne _ _ _ (by show k ≠ w.heap.size; omega), heap_ne _ _ _ (by show k ≠ w.heap.size; omega), heap_ne _ _ _ (by show k ≠ w.heap.size; omega), heap_ne _ _ _ (by show k ≠ w.heap.size; omega), heap_ne _ _ _ (by show k ≠ w.heap.size + 1; omega), heap_ne _ _ _ (by show k ≠ w.heap.size + 1; omega)]
  · exact (((((((((hB2.setCell (p := ⟨w.heap.size + 1, 5, none⟩) (by show _ ≤ w.heap.size + 1; omega) _).setCell (p := ⟨w.heap.size + 1, 6, none⟩) (by show _ ≤ w.heap.size + 1; omega) _).setCell (p := ⟨w.heap.size, 0, none⟩) (Nat.le_refl _) _).setCell (p := ⟨w.heap.size, 1, none⟩) (Nat.le_refl _) _).setCell (p := ⟨w.heap.size, 2, none⟩) (Nat.le_refl _) _).setCell (p := ⟨w.heap.size, 3, none⟩) (Nat.le_refl _) _).setCell (p := ⟨w.heap.size, 4, none⟩) (Nat.le_refl _) _).setCell (p := ⟨w.heap.size, 5, none⟩) (Nat.le_refl _) _).setCell (p := ⟨w.heap.size, 6, none⟩) (Nat.le_refl _) _)
set_option maxRecDepth 100000 in
set_option maxHeartbeats 1000000 in
theorem Info_any {w : World} {base tb mb : Nat} {D : DataW Unit} {T : Tab} (h : TAt w base tb mb D T) (x : Int) (hx : i64 x) (r : Rc) (hT : T x = some r) (hm : r.ob.cats.length * 16 ≤ 140737488355328) :
    Calls Try.prog 28 #[.pointer (some ⟨tb, 0, none⟩), .int .i64 x] w fun e w' => ∃ v, e = .returned (.tuple #[infoV r v, .bool true]) ∧ (∃ sp c, v = .slice sp r.ob.cats.length c ∧ w'.ownsRow w.heap.size 84 2 v r.ob.cats.length (flat r.ob.cats)) ∧ Below w.heap.size w w' := by
  have hW : Below w.heap.size w (w.alloc (.cells #[.int .i64 0, .int .i64 0, .int .i64 0, .int .i64 0, .int .i64 0, .int .i64 0, .slice none 0 0] 50)) := by go_grown
  have HF := find_any (h.below hW) x hx
  rw [show fnd T x = .pointer (some ⟨r.B, 0, none⟩) from by unfold fnd; rw [hT]; rfl] at HF
  have HF1 := Lib.hid HF
  have HT := Lib.hid (told_any ((h.below hW).obj x r hT).1 hm)
  clear h HF
  go_enter Try.func28, Try.ntmps28
  go_wp2_with (first
    | (go_at_call 39; refine HF1.out.mono ?_; rintro e w1 ⟨rfl, hw1⟩; rw [hw1]; clear hw1 w1)
    | (go_at_call 56; refine HT.out.mono ?_; rintro e w2 ⟨sp, c, rfl, hr2, hb2⟩; refine Hid.out ?_))
  refine Lib.hid ?_
  simp only [infoV]
  have e0 : w2.heap[w.heap.size]? = some (.cells #[.int .i64 0, .int .i64 0, .int .i64 0, .int .i64 0, .int .i64 0, .int .i64 0, .slice none 0 0] 50 (0, 0)) := (hb2.block _ (by simp)).trans (heap_new _ _)
  have s0 : w2.cell? ⟨w.heap.size, 0, none⟩ = some (.int .i64 0) := by simp [World.cell?, e0]
  have s1 : w2.cell? ⟨w.heap.size, 1, none⟩ = some (.int .i64 0) := by simp [World.cell?, e0]
  have s2 : w2.cell? ⟨w.heap.size, 2, none⟩ = some (.int .i64 0) := by simp [World.cell?, e0]
  have s3 : w2.cell? ⟨w.heap.size, 3, none⟩ = some (.int .i64 0) := by simp [World.cell?, e0]
  have s4 : w2.cell? ⟨w.heap.size, 4, none⟩ = some (.int .i64 0) := by simp [World.cell?, e0]
  have s5 : w2.cell? ⟨w.heap.size, 5, none⟩ = some (.int .i64 0) := by simp [World.cell?, e0]
  have s6 : w2.cell? ⟨w.heap.size, 6, none⟩ = some (.slice none 0 0) := by simp [World.cell?, e0]
  have sf : ∀ o, w2.frozen? ⟨w.heap.size, o, none⟩ = false := fun o => by simp [World.frozen?, e0]
  have HR2 := Lib.hid hr2
  have HB2 := Lib.hid hb2
  have hz2 := hb2.size
  simp at hz2
  clear hr2 hb2 e0
  go_wp2_with fail
  have hB2 : RowKit.Below w.heap.size w w2 := hW.trans (HB2.out.mono (by simp))
  refine bodyPost_ret (by simp [results, Try.results28, go_sem, s0, s1, s2, s3, s4, s5, s6]; rfl) rfl ⟨.slice sp r.ob.cats.length c, rfl, ⟨sp, c, rfl, ?_⟩, ?_⟩
  · refine row_mono (row_same HR2.out (fun k hk => ?_)) (by simp)
    have hk1 := (HR2.out.lt k hk).1
    simp at hk1
    rw [heap_ne _ _ _ (by show k ≠ w.heap.size; omega), heap_ne _ _ _ (by show k ≠ w.heap.size; omega), heap_ne _ _ _ (by show k ≠ w.heap.size; omega), heap_ne _ _ _ (by show k ≠ w.heap.size; omega), heap_ne _ _ _ (by show k ≠ w.heap.size; omega), heap_ne _ _ _ (by show k ≠ w.heap.size; omega), heap_ne _ _ _ (by show k ≠ w.heap.size; omega)]
  · exact (((((((hB2.setCell (p := ⟨w.heap.size, 0, none⟩) (Nat.le_refl _) _).setCell (p := ⟨w.heap.size, 1, none⟩) (Nat.le_refl _) _).setCell (p := ⟨w.heap.size, 2, none⟩) (Nat.le_refl _) _).setCell (p := ⟨w.heap.size, 3, none⟩) (Nat.le_refl _) _).setCell (p := ⟨w.heap.size, 4, none⟩) (Nat.le_refl _) _).setCell (p := ⟨w.heap.size, 5, none⟩) (Nat.le_refl _) _).setCell (p := ⟨w.heap.size, 6, none⟩) (Nat.le_refl _) _)
end Go.Proofs.Ytebcnlhgkpaghaa
