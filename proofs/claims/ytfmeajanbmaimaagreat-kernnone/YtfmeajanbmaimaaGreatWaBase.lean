/- Memory facts: blocks, rows, maps of pointers; what a call leaves as it was. -/
import Derived.Test.YtfmeajanbmaimaaGreatHoHas
import Derived.Lib.SliceRun
import Derived.Test.YtfmeajanbmaimaaGreatProg
import Derived.WalkKit
import Derived.WalkSpells
import Derived.WalkLawsBesides
import Derived.Handy
import Derived.BigQuiet
import Derived.Lib.Hide
import Derived.Shelf.SlSortCmp.QuietGrown
import Derived.OwnWalk
import Derived.Laws.AppendOwn
import Derived.Laws.OwnMore
import Derived.Maps.OwnSet
import Derived.Maps.OwnOps
import Derived.Maps.AppendAt
import Derived.DeepKeys4
import Derived.Deep.QuietTactic
import Derived.Deep.RegionLaw
/- What Info of package hold tells of an object that is there. -/
namespace Go.Proofs.YtfmeajanbmaimaaGreat.Ho
open Go.RowKit Go.Sort
def infoV (r : Rc) (v : Value) : Value := .agg #[.int .i64 r.ob.id, .int .i64 r.ob.kind, .int .i64 r.ob.quota, .int .i64 r.ob.used, .int .i64 r.ob.links, .int .i64 r.ob.df, v]
theorem cats_row {w : World} {base : Nat} {v : Value} {xs : List (Int × Int)} (h : w.ownsRow base 172 2 v xs.length (flat xs)) : ∃ p cap, v = .slice p xs.length cap ∧ CatsAt w p xs := by
  rcases h.2 with ⟨rfl, h0⟩ | ⟨g, cap, cur, rfl, _⟩
  · have := List.length_eq_zero_iff.1 h0
    subst this
    exact ⟨none, 0, rfl, fun j hj => by simp at hj⟩
  · refine ⟨some ⟨g, 0, none⟩, cap, rfl, fun j hj => ⟨g, 0, rfl, (h.lt g rfl).2, ?_, ?_⟩⟩
    · rw [Nat.zero_add, h.cellAt (j * 2) (by omega)]; exact (flat_at xs j hj).1
    · rw [Nat.zero_add, h.cellAt (j * 2 + 1) (by omega)]; exact (flat_at xs j hj).2
set_option maxRecDepth 100000 in
set_option maxHeartbeats 1000000 in
theorem told_any {w : World} {base : Nat} {r : Rc} (h : RAt w base r) (hm : r.ob.cats.length * 16 ≤ 140737488355328) :
    Calls Tryz.prog 95 #[.pointer (some ⟨r.B, 0, none⟩)] w fun e w' => ∃ sp c, e = .returned (infoV r (.slice sp r.ob.cats.length c)) ∧ w'.ownsRow w.heap.size 172 2 (.slice sp r.ob.cats.length c) r.ob.cats.length (flat r.ob.cats) ∧ Below w.heap.size w w' := by
  obtain ⟨p, cap, hv, hc⟩ := cats_row h.cat
  have hb := h.blk
  have hbl := (h.lt (.inl rfl)).2
  have c0 : w.cell? ⟨r.B, 0, none⟩ = some (.int .i64 r.ob.id) := by simp [World.cell?, hb, cellsR]
  have c1 : w.cell? ⟨r.B, 1, none⟩ = some (.int .i64 r.ob.kind) := by simp [World.cell?, hb, cellsR]
  have c2 : w.cell? ⟨r.B, 2, none⟩ = some (.int .i64 r.ob.quota) := by simp [World.cell?, hb, cellsR]
  have c3 : w.cell? ⟨r.B, 3, none⟩ = some (.int .i64 r.ob.used) := by simp [World.cell?, hb, cellsR]
  have c4 : w.cell? ⟨r.B, 4, none⟩ = some (.int .i64 r.ob.links) := by simp [World.cell?, hb, cellsR]
  have c5 : w.cell? ⟨r.B, 5, none⟩ = some (.int .i64 r.ob.df) := by simp [World.cell?, hb, cellsR]
  have c6 : w.cell? ⟨r.B, 6, none⟩ = some (.slice p r.ob.cats.length cap) := by rw [← hv]; simp [World.cell?, hb, cellsR]
  have HC := Lib.hid (fun W (hW : RowKit.Below w.heap.size w W) => copied_any r.ob.df p cap r.ob.cats W hm (hc.below hW))
  clear hb hv hc h
  have hW : Below w.heap.size w ((w.alloc (.cells #[.int .i64 0, .int .i64 0, .int .i64 0, .int .i64 0, .int .i64 0, .int .i64 0, .slice none 0 0] 44)).alloc (.cells #[.int .i64 r.ob.id, .int .i64 r.ob.kind, .int .i64 r.ob.quota, .int .i64 r.ob.used, .int .i64 r.ob.links, .int .i64 r.ob.df, .slice p r.ob.cats.length cap] 44)) := by go_grown
  have E1 : ((w.alloc (.cells #[.int .i64 0, .int .i64 0, .int .i64 0, .int .i64 0, .int .i64 0, .int .i64 0, .slice none 0 0] 44)).alloc (.cells #[.int .i64 r.ob.id, .int .i64 r.ob.kind, .int .i64 r.ob.quota, .int .i64 r.ob.used, .int .i64 r.ob.links, .int .i64 r.ob.df, .slice p r.ob.cats.length cap] 44)).heap[w.heap.size + 1]? = some (.cells #[.int .i64 r.ob.id, .int .i64 r.ob.kind, .int .i64 r.ob.quota, .int .i64 r.ob.used, .int .i64 r.ob.links, .int .i64 r.ob.df, .slice p r.ob.cats.length cap] 44 (0, 0)) := by
    have := heap_new (w.alloc (.cells #[.int .i64 0, .int .i64 0, .int .i64 0, .int .i64 0, .int .i64 0, .int .i64 0, .slice none 0 0] 44)) (.cells #[.int .i64 r.ob.id, .int .i64 r.ob.kind, .int .i64 r.ob.quota, .int .i64 r.ob.used, .int .i64 r.ob.links, .int .i64 r.ob.df, .slice p r.ob.cats.length cap] 44)
    simpa using this
  have E0 : ((w.alloc (.cells #[.int .i64 0, .int .i64 0, .int .i64 0, .int .i64 0, .int .i64 0, .int .i64 0, .slice none 0 0] 44)).alloc (.cells #[.int .i64 r.ob.id, .int .i64 r.ob.kind, .int .i64 r.ob.quota, .int .i64 r.ob.used, .int .i64 r.ob.links, .int .i64 r.ob.df, .slice p r.ob.cats.length cap] 44)).heap[w.heap.size]? = some (.cells #[.int .i64 0, .int .i64 0, .int .i64 0, .int .i64 0, .int .i64 0, .int .i64 0, .slice none 0 0] 44 (0, 0)) := by
    rw [Below.heap_alloc _ _ _ (by simp)]; exact heap_new _ _
  have HC1 := Lib.hid (HC.out _ hW)
  clear HC
  go_enter Tryz.func95, Tryz.ntmps95
  go_wp2_with (first | (go_at_call 166; refine HC1.out.mono ?_; rintro e w2 ⟨sp, c, rfl, hr2, hb2⟩; have hz2 := hb2.size; have e1 : w2.heap[w.heap.size + 1]? = some (.cells #[.int .i64 r.ob.id, .int .i64 r.ob.kind, .int .i64 r.ob.quota, .int .i64 r.ob.used, .int .i64 r.ob.links, .int .i64 r.ob.df, .slice p r.ob.cats.length cap] 44 (0, 0)) := (hb2.block _ (by simp)).trans E1; have e0 : w2.heap[w.heap.size]? = some (.cells #[.int .i64 0, .int .i64 0, .int .i64 0, .int .i64 0, .int .i64 0, .int .i64 0, .slice none 0 0] 44 (0, 0)) := (hb2.block _ (by simp; omega)).trans E0; have t0 : w2.cell? ⟨w.heap.size + 1, 0, none⟩ = some (.int .i64 r.ob.id) := (by simp [World.cell?, e1]); have s0 : w2.cell? ⟨w.heap.size, 0, none⟩ = some (.int .i64 0) := (by simp [World.cell?, e0]); have t1 : w2.cell? ⟨w.heap.size + 1, 1, none⟩ = some (.int .i64 r.ob.kind) := (by simp [World.cell?, e1]); have s1 : w2.cell? ⟨w.heap.size, 1, none⟩ = some (.int .i64 0) := (by simp [World.cell?, e0]); have t2 : w2.cell? ⟨w.heap.size + 1, 2, none⟩ = some (.int .i64 r.ob.quota) := (by simp [World.cell?, e1]); have s2 : w2.cell? ⟨w.heap.size, 2, none⟩ = some (.int .i64 0) := (by simp [World.cell?, e0]); have t3 : w2.cell? ⟨w.heap.size + 1, 3, none⟩ = some (.int .i64 r.ob.used) := (by simp [World.cell?, e1]); have s3 : w2.cell? ⟨w.heap.size, 3, none⟩ = some (.int .i64 0) := (by simp [World.cell?, e0]); have t4 : w2.cell? ⟨w.heap.size + 1, 4, none⟩ = some (.int .i64 r.ob.links) := (by simp [World.cell?, e1]); have s4 : w2.cell? ⟨w.heap.size, 4, none⟩ = some (.int .i64 0) := (by simp [World.cell?, e0]); have t5 : w2.cell? ⟨w.heap.size + 1, 5, none⟩ = some (.int .i64 r.ob.df) := (by simp [World.cell?, e1]); have s5 : w2.cell? ⟨w.heap.size, 5, none⟩ = some (.int .i64 0) := (by simp [World.cell?, e0]); have t6 : w2.cell? ⟨w.heap.size + 1, 6, none⟩ = some (.slice p r.ob.cats.length cap) := (by simp [World.cell?, e1]); have s6 : w2.cell? ⟨w.heap.size, 6, none⟩ = some (.slice none 0 0) := (by simp [World.cell?, e0]); have tf : (∀ o, w2.frozen? ⟨w.heap.size + 1, o, none⟩ = false) := (fun o => by simp [World.frozen?, e1]); have sf : (∀ o, w2.frozen? ⟨w.heap.size, o, none⟩ = false) := (fun o => by simp [World.frozen?, e0]); have HR2 := Lib.hid hr2; have HB2 := Lib.hid hb2; clear hr2 hb2 e0 e1; refine Hid.out ?_))
  refine Lib.hid ?_
  clear E0 E1 c0 c1 c2 c3 c4 c5 c6
  go_wp2_with fail
  have hB2 : RowKit.Below w.heap.size w w2 := hW.trans (HB2.out.mono (by simp; omega))
  refine bodyPost_ret (by simp [results, Tryz.results95, go_sem, s0, s1, s2, s3, s4, s5, s6]; rfl) rfl ⟨sp, c, rfl, ?_, ?_⟩
  · refine row_mono (row_same HR2.out (fun k hk => ?_)) (by simp; omega)
    have hk1 := (HR2.out.lt k hk).1
    simp at hk1
    rw [heap_ne _ _ _ (by show k ≠ w.heap.size; omega), heap_ne _ _ _ (by show k ≠ w.heap.size; omega), heap_ne _ _ _ (by show k ≠ w.heap.size; omega), heap_ne _ _ _ (by show k ≠ w.heap.size; omega), heap_ne _ _ _ (by show k ≠ w.heap.size; omega), heap_ne _ _ _ (by show k ≠ w.heap.size; omega), heap_ne _ _ _ (by show k ≠ w.heap.size; omega), heap_ne _ _ _ (by show k ≠ w.heap.size + 1; omega), heap_ne _ _ _ (by show k ≠ w.heap.size + 1; omega)]
  · exact (((((((((hB2.setCell (p := ⟨w.heap.size + 1, 5, none⟩) (by show _ ≤ w.heap.size + 1; omega) _).setCell (p := ⟨w.heap.size + 1, 6, none⟩) (by show _ ≤ w.heap.size + 1; omega) _).setCell (p := ⟨w.heap.size, 0, none⟩) (Nat.le_refl _) _).setCell (p := ⟨w.heap.size, 1, none⟩) (Nat.le_refl _) _).setCell (p := ⟨w.heap.size, 2, none⟩) (Nat.le_refl _) _).setCell (p := ⟨w.heap.size, 3, none⟩) (Nat.le_refl _) _).setCell (p := ⟨w.heap.size, 4, none⟩) (Nat.le_refl _) _).setCell (p := ⟨w.heap.size, 5, none⟩) (Nat.le_refl _) _).setCell (p := ⟨w.heap.size, 6, none⟩) (Nat.le_refl _) _)
set_option maxRecDepth 100000 in
set_option maxHeartbeats 1000000 in
theorem Info_any {w : World} {base tb mb : Nat} {D : DataW Unit} {T : Tab} (h : TAt w base tb mb D T) (x : Int) (hx : i64 x) (r : Rc) (hT : T x = some r) (hm : r.ob.cats.length * 16 ≤ 140737488355328) :
    Calls Tryz.prog 28 #[.pointer (some ⟨tb, 0, none⟩), .int .i64 x] w fun e w' => ∃ v, e = .returned (.tuple #[infoV r v, .bool true]) ∧ (∃ sp c, v = .slice sp r.ob.cats.length c ∧ w'.ownsRow w.heap.size 172 2 v r.ob.cats.length (flat r.ob.cats)) ∧ Below w.heap.size w w' := by
  have hW : Below w.heap.size w (w.alloc (.cells #[.int .i64 0, .int .i64 0, .int .i64 0, .int .i64 0, .int .i64 0, .int .i64 0, .slice none 0 0] 44)) := by go_grown
  have HF := find_any (h.below hW) x hx
  rw [show fnd T x = .pointer (some ⟨r.B, 0, none⟩) from by unfold fnd; rw [hT]; rfl] at HF
  have HF1 := Lib.hid HF
  have HT := Lib.hid (told_any ((h.below hW).obj x r hT).1 hm)
  clear h HF
  go_enter Tryz.func28, Tryz.ntmps28
  go_wp2_with (first
    | (go_at_call 94; refine HF1.out.mono ?_; rintro e w1 ⟨rfl, hw1⟩; rw [hw1]; clear hw1 w1)
    | (go_at_call 95; refine HT.out.mono ?_; rintro e w2 ⟨sp, c, rfl, hr2, hb2⟩; refine Hid.out ?_))
  refine Lib.hid ?_
  simp only [infoV]
  have e0 : w2.heap[w.heap.size]? = some (.cells #[.int .i64 0, .int .i64 0, .int .i64 0, .int .i64 0, .int .i64 0, .int .i64 0, .slice none 0 0] 44 (0, 0)) := (hb2.block _ (by simp)).trans (heap_new _ _)
  have s0 : w2.cell? ⟨w.heap.size, 0, none⟩ = some (.int .i64 0) := by simp [World.cell?, e0]
  have s1 : w2.cell? ⟨w.heap.size, 1, none⟩ = some (.int .i64 0) := by simp [World.cell?, e0]
  have s2 : w2.cell? ⟨w.heap.size, 2, none⟩ = some (.int .i64 0) := by simp [World.cell?, e0]
  have s3 : w2.cell? ⟨w.heap.size, 3, none⟩ = some (.int .i64 0) := by simp [World.cell?, e0]
  have s4 : w2.cell? ⟨w.heap.size, 4, none⟩ = some (.int .i64 0) := by simp [World.cell?, e0]
  have s5 : w2.cell? ⟨w.heap.size, 5, none⟩ = some (.int .i64 0) := by simp [World.cell?, e0]
  have s6 : w2.cell? ⟨w.heap.size, 6, none⟩ = some (.slice none 0 0) := by simp [World.cell?, e0]
  have sf : ∀ o, w2.frozen? ⟨w.heap.size, o, none⟩ = false := fun o => by simp [World.frozen?, e0]
  have HR2 := Lib.hid hr2
  have HB2 := Lib.hid hb2
  have hz2 := hb2.size
  simp at hz2
  clear hr2 hb2 e0
  go_wp2_with fail
  have hB2 : RowKit.Below w.heap.size w w2 := hW.trans (HB2.out.mono (by simp))
  refine bodyPost_ret (by simp [results, Tryz.results28, go_sem, s0, s1, s2, s3, s4, s5, s6]; rfl) rfl ⟨.slice sp r.ob.cats.length c, rfl, ⟨sp, c, rfl, ?_⟩, ?_⟩
  · refine row_mono (row_same HR2.out (fun k hk => ?_)) (by simp)
    have hk1 := (HR2.out.lt k hk).1
    simp at hk1
    rw [heap_ne _ _ _ (by show k ≠ w.heap.size; omega), heap_ne _ _ _ (by show k ≠ w.heap.size; omega), heap_ne _ _ _ (by show k ≠ w.heap.size; omega), heap_ne _ _ _ (by show k ≠ w.heap.size; omega), heap_ne _ _ _ (by show k ≠ w.heap.size; omega), heap_ne _ _ _ (by show k ≠ w.heap.size; omega), heap_ne _ _ _ (by show k ≠ w.heap.size; omega)]
  · exact (((((((hB2.setCell (p := ⟨w.heap.size, 0, none⟩) (Nat.le_refl _) _).setCell (p := ⟨w.heap.size, 1, none⟩) (Nat.le_refl _) _).setCell (p := ⟨w.heap.size, 2, none⟩) (Nat.le_refl _) _).setCell (p := ⟨w.heap.size, 3, none⟩) (Nat.le_refl _) _).setCell (p := ⟨w.heap.size, 4, none⟩) (Nat.le_refl _) _).setCell (p := ⟨w.heap.size, 5, none⟩) (Nat.le_refl _) _).setCell (p := ⟨w.heap.size, 6, none⟩) (Nat.le_refl _) _)
end Go.Proofs.YtfmeajanbmaimaaGreat.Ho
/- entry, Has, List, Drop and Shift of package hold where an entry isn't there; List of a container. -/
namespace Go.Proofs.YtfmeajanbmaimaaGreat.Ho
open Go.RowKit Go.Sort
/-- What entry answers beside the two objects. -/
def entE (T : Tab) (i x : Int) : Int := match T i with
  | none => 4
  | some r => if r.ob.kind = 1 then (if r.ob.ents.contains x = true then 0 else 4) else 5
theorem entE_cont {T : Tab} {i : Int} (x : Int) (h : contE T i ≠ 0) : entE T i x = contE T i := by
  unfold entE contE at *
  cases hT : T i with
  | none => rfl
  | some r =>
    rw [hT] at h
    simp only at h ⊢
    by_cases hk : r.ob.kind = 1
    · rw [if_pos hk] at h; exact absurd rfl h
    · rw [if_neg hk, if_neg hk]
set_option maxRecDepth 100000 in
set_option maxHeartbeats 1000000 in
theorem entry_no {w : World} {base tb mb : Nat} {D : DataW Unit} {T : Tab} (h : TAt w base tb mb D T) (i x : Int) (hi : i64 i) (hl : ∀ r, T i = some r → r.ob.ents.length < 1000000) (he : entE T i x ≠ 0) :
    Calls Tryz.prog 193 #[.pointer (some ⟨tb, 0, none⟩), .int .i64 i, .int .i64 x] w fun e w' => e = .returned (.tuple #[.pointer none, .pointer none, .int .i64 (entE T i x)]) ∧ w' = w := by
  have HC := container_any h i hi
  by_cases hc : contE T i = 0
  · obtain ⟨r, hT, hk⟩ : ∃ r, T i = some r ∧ r.ob.kind = 1 := by
      unfold contE at hc
      cases hT : T i with
      | none => rw [hT] at hc; simp at hc
      | some r =>
        rw [hT] at hc
        simp only at hc
        by_cases hk : r.ob.kind = 1
        · exact ⟨r, rfl, hk⟩
        · rw [if_neg hk] at hc; simp at hc
    have hno : r.ob.ents.contains x = false := by
      unfold entE at he
      rw [hT] at he
      simp only [hk, if_true] at he
      by_cases hh : r.ob.ents.contains x = true
      · rw [if_pos hh] at he; exact absurd rfl he
      · simpa using hh
    have he4 : entE T i x = 4 := by unfold entE; rw [hT]; simp only [hk, if_true, hno]; rfl
    rw [show contP T i = .pointer (some ⟨r.B, 0, none⟩) from by unfold contP fnd; rw [if_pos hc, hT]; rfl, hc] at HC
    have H1 := Lib.hid HC
    have H2 := has_any (h.obj i r hT).1 x (hl r hT)
    rw [hno] at H2
    have H3 := Lib.hid H2
    rw [he4]
    clear h HC H2 he he4
    go_enter Tryz.func193, Tryz.ntmps193
    go_wp2_with (first
      | (go_at_call 96; refine H1.out.mono ?_; rintro e w1 ⟨rfl, hw1⟩; rw [hw1]; clear hw1 w1)
      | (go_at_call 192; refine H3.out.mono ?_; rintro e w1 ⟨rfl, hw1⟩; rw [hw1]; clear hw1 w1))
    refine bodyPost_ret (by simp [results, Tryz.results193, go_sem]) rfl ⟨rfl, rfl⟩
  · rw [entE_cont x hc]
    rw [show contP T i = .pointer none from by unfold contP; rw [if_neg hc]] at HC
    obtain ⟨c, hce⟩ : ∃ c, contE T i = c := ⟨_, rfl⟩
    rw [hce] at HC hc ⊢
    have H1 := Lib.hid HC
    have hcb : (c != 0) = true := by simpa using hc
    clear h HC he
    go_enter Tryz.func193, Tryz.ntmps193
    go_wp2_with (first
      | (go_at_call 96; refine H1.out.mono ?_; rintro e w1 ⟨rfl, hw1⟩; rw [hw1]; clear hw1 w1))
    refine bodyPost_ret (by simp [results, Tryz.results193, go_sem]) rfl ⟨rfl, rfl⟩
set_option maxRecDepth 100000 in
set_option maxHeartbeats 1000000 in
theorem Has_any {w : World} {base tb mb : Nat} {D : DataW Unit} {T : Tab} (h : TAt w base tb mb D T) (i x : Int) (hi : i64 i) (hx : i64 x) (hl : ∀ r, T i = some r → r.ob.ents.length < 1000000) :
    Calls Tryz.prog 156 #[.pointer (some ⟨tb, 0, none⟩), .int .i64 i, .int .i64 x] w fun e w' => e = .returned (.bool (entE T i x == 0)) ∧ w' = w := by
  by_cases he : entE T i x = 0
  · obtain ⟨r, hT, hk, hc⟩ : ∃ r, T i = some r ∧ r.ob.kind = 1 ∧ r.ob.ents.contains x = true := by
      unfold entE at he
      cases hT : T i with
      | none => rw [hT] at he; simp at he
      | some r =>
        rw [hT] at he
        simp only at he
        by_cases hk : r.ob.kind = 1
        · rw [if_pos hk] at he
          by_cases hh : r.ob.ents.contains x = true
          · exact ⟨r, rfl, hk, hh⟩
          · rw [if_neg hh] at he; simp at he
        · rw [if_neg hk] at he; simp at he
    have H := Lib.hid (entry_ok h i x hi hx r hT hk (hl r hT) hc)
    rw [he]
    clear h he
    go_enter Tryz.func156, Tryz.ntmps156
    go_wp2_with (go_at_call 193; refine H.out.mono ?_; rintro e w1 ⟨rfl, hw1⟩; rw [hw1]; clear hw1 w1)
    go_ret
    exact ⟨rfl, rfl⟩
  · have H := entry_no h i x hi hl he
    obtain ⟨c, hce⟩ : ∃ c, entE T i x = c := ⟨_, rfl⟩
    rw [hce] at H he ⊢
    have H1 := Lib.hid H
    have hcb : (c == 0) = false := by simpa using he
    rw [hcb]
    clear h H
    go_enter Tryz.func156, Tryz.ntmps156
    go_wp2_with (go_at_call 193; refine H1.out.mono ?_; rintro e w1 ⟨rfl, hw1⟩; rw [hw1]; clear hw1 w1)
    go_ret
    exact ⟨rfl, rfl⟩
end Go.Proofs.YtfmeajanbmaimaaGreat.Ho
namespace Go.Proofs.YtfmeajanbmaimaaGreat.Wa
open Go.RowKit Go.Sort
open Go.Maps (Keyed)
theorem heap_ne (w : World) (a : Addr) (v : Value) {k : Nat} (h : k ≠ a.block) : (w.setCell a v).heap[k]? = w.heap[k]? := by
  show (w.heap.modify a.block _)[k]? = _
  rw [Array.getElem?_modify, if_neg (Ne.symm h)]
theorem heap_new (w : World) (o : Obj) : (w.alloc o).heap[w.heap.size]? = some o := by show (w.heap.push o)[w.heap.size]? = _; simp
theorem heap_lt {w : World} {k : Nat} {o : Obj} (h : w.heap[k]? = some o) : k < w.heap.size := (Array.getElem?_eq_some_iff.1 h).1
theorem row_form {w : World} {base e size n : Nat} {v : Value} {xs : List Value} (h : w.ownsRow base e size v n xs) : ∃ sp cap, v = .slice sp n cap := by
  rcases h.2 with ⟨rfl, h0⟩ | ⟨g, cap, _, rfl, _⟩
  · exact ⟨none, 0, by rw [h0]⟩
  · exact ⟨_, _, rfl⟩
theorem row_mono {w : World} {b b' e size n : Nat} {v : Value} {xs : List Value} (h : w.ownsRow b e size v n xs) (hb : b' ≤ b) : w.ownsRow b' e size v n xs := by
  refine ⟨h.1, ?_⟩
  rcases h.2 with h | ⟨g, cap, cur, h1, h2, h3⟩
  · exact .inl h
  · exact .inr ⟨g, cap, cur, h1, Nat.le_trans hb h2, h3⟩
theorem row_same {w w' : World} {b e size n : Nat} {v : Value} {xs : List Value} (h : w.ownsRow b e size v n xs) (hs : ∀ k, v.ownBlock = some k → w'.heap[k]? = w.heap[k]?) : w'.ownsRow b e size v n xs := by
  refine ⟨h.1, ?_⟩
  rcases h.2 with h | ⟨g, cap, cur, h1, h2, h3, h4⟩
  · exact .inl h
  · subst h1
    exact .inr ⟨g, cap, cur, rfl, h2, (hs g rfl).trans h3, h4⟩
def ivs (l : List Int) : List Value := l.map fun x => .int .i64 x
def i64 (n : Int) : Prop := -9223372036854775808 ≤ n ∧ n ≤ 9223372036854775807
theorem wf64 {n : Int} (h : i64 n) : (Lit.int .i64 n).wf = true := by
  simp [Lit.wf]
  have h1 : IntKind.min .i64 = -9223372036854775808 := by decide
  have h2 : IntKind.max .i64 = 9223372036854775807 := by decide
  unfold i64 at h
  omega
/-- What a call leaves: nothing but F has turned. -/
structure Fm (w w' : World) (F : Nat → Prop) : Prop where
  os : w'.os = w.os
  tape : w'.tape = w.tape
  output : w'.output = w.output
  size : w.heap.size ≤ w'.heap.size
  same : ∀ k, k < w.heap.size → ¬ F k → w'.heap[k]? = w.heap[k]?
theorem Fm.refl (w : World) (F : Nat → Prop) : Fm w w F := ⟨rfl, rfl, rfl, Nat.le_refl _, fun _ _ _ => rfl⟩
theorem Fm.trans {a b c : World} {F G H : Nat → Prop} (h : Fm a b F) (k : Fm b c G) (hF : ∀ i, i < a.heap.size → F i → H i) (hG : ∀ i, i < a.heap.size → G i → H i) : Fm a c H :=
  ⟨k.os.trans h.os, k.tape.trans h.tape, k.output.trans h.output, Nat.le_trans h.size k.size, fun i hi hn => (k.same i (Nat.lt_of_lt_of_le hi h.size) (fun g => hn (hG i hi g))).trans (h.same i hi (fun g => hn (hF i hi g)))⟩
theorem Fm.mono {a b : World} {F G : Nat → Prop} (h : Fm a b F) (hF : ∀ i, i < a.heap.size → F i → G i) : Fm a b G :=
  ⟨h.os, h.tape, h.output, h.size, fun i hi hn => h.same i hi (fun g => hn (hF i hi g))⟩
theorem Fm.of_grown {a b : World} {m : Nat} (h : a.grownBy b (some m)) : Fm a b (fun k => k = m) :=
  ⟨h.os, h.tape, h.output, h.size, fun i hi hn => h.block i hi (by simpa using hn)⟩
theorem Fm.alloc (w : World) (o : Obj) (F : Nat → Prop) : Fm w (w.alloc o) F := ⟨rfl, rfl, rfl, by simp, fun _ hk _ => Below.heap_alloc _ _ _ hk⟩
theorem Fm.setCell (w : World) (a : Addr) (v : Value) : Fm w (w.setCell a v) (fun k => k = a.block) := ⟨rfl, rfl, rfl, by simp, fun _ _ hn => heap_ne _ _ _ hn⟩
theorem Fm.below {w w' : World} {F : Nat → Prop} {b : Nat} (h : Fm w w' F) (hb : b ≤ w.heap.size) (hF : ∀ k, k < b → ¬ F k) : Below b w w' :=
  ⟨h.os, h.tape, h.output, h.size, fun k hk => h.same k (Nat.lt_of_lt_of_le hk hb) (hF k hk)⟩
abbrev pv (B : Nat) : Value := .pointer (some ⟨B, 0, none⟩)
abbrev np : Value := .pointer none
def pt (o : Option Nat) : Value := .pointer (o.map fun B => ⟨B, 0, none⟩)
/-- A pointer, as its block's number. -/
def ptrE : Value → Option (DataW Unit × List MemPlace)
  | .pointer none => some (.lit (.int .i64 (-1)), [])
  | .pointer (some ⟨B, 0, none⟩) => some (.lit (.int .i64 B), [])
  | _ => none
theorem ptrE_inv {v : Value} {B : Nat} {ps : List MemPlace} (h : ptrE v = some (.lit (.int .i64 B), ps)) : v = .pointer (some ⟨B, 0, none⟩) := by
  unfold ptrE at h
  split at h
  · simp at h
  · simp at h
    have := h.1
    have e := Int.ofNat.inj this
    subst e; rfl
  · cases h
theorem ptrE_nil {v : Value} {ps : List MemPlace} (h : ptrE v = some (.lit (.int .i64 (-1)), ps)) : v = .pointer none := by
  unfold ptrE at h
  split at h
  · rfl
  · simp at h
  · cases h
/-- A map of pointers that lies in block m and reads as f; n: how many entries it has. -/
def MAt (w : World) (t : TypeId) (m n : Nat) (f : Lit → Option Nat) : Prop := ∃ D : DataW Unit, w.ownsMap Tryz.prog t ptrE m n D ∧ Maps.size D = n ∧ ∀ k, WideAt.IsKeyLit k → Maps.has D k = (f k).isSome ∧ ∀ B, f k = some B → ∀ z, D.atKey k z = .lit (.int .i64 (B : Int))
open Classical in
noncomputable def updF (f : Lit → Option Nat) (k : Lit) (o : Option Nat) : Lit → Option Nat := fun x => if x = k then o else f x
section
variable {w : World} {t e T : TypeId} {m n : Nat} {f : Lit → Option Nat} {key : Value} {kl : Lit}
theorem MAt.lt (h : MAt w t m n f) : m < w.heap.size := by obtain ⟨D, h, _⟩ := h; exact h.lt
theorem MAt.same {w' : World} (h : MAt w t m n f) (hs : w'.heap[m]? = w.heap[m]?) : MAt w' t m n f := by
  obtain ⟨D, ⟨es, clock, hb, r⟩, r2⟩ := h
  exact ⟨D, ⟨es, clock, hs.trans hb, r⟩, r2⟩
theorem MAt.congr (h : MAt w t m n f) {g : Lit → Option Nat} (hg : ∀ k, WideAt.IsKeyLit k → g k = f k) : MAt w t m n g := by
  obtain ⟨D, h1, h2, h3⟩ := h
  exact ⟨D, h1, h2, fun k hk => by rw [hg k hk]; exact h3 k hk⟩
theorem MAt.made (w : World) (t : TypeId) : MAt (w.alloc (.map #[] 0)) t w.heap.size 0 (fun _ => none) :=
  ⟨.map [], World.ownsMap_made (H := Unit) w Tryz.prog t ptrE, rfl, fun k hk => ⟨rfl, fun B h => by cases h⟩⟩
theorem MAt.look (h : MAt w t m n f) (K : Keyed Tryz.prog t) (hT : Tryz.prog.underlying T = some (.map t e)) (hz : (zeroValue e).run Tryz.prog w = .ok np w) (hkey : keyOf Tryz.prog t key = some kl) :
    (Instr.lookup T (.map (some m)) key false).run Tryz.prog w = .ok (pt (f kl)) w := by
  obtain ⟨D, h1, _, h3⟩ := h
  obtain ⟨v, ps, hrun, hv⟩ := h1.lookup K hT hz (zd := .lit (.int .i64 (-1))) (zp := []) rfl hkey
  obtain ⟨ha, hb⟩ := h3 kl (K.key hkey)
  have hv2 : v = pt (f kl) := by
    cases hT : f kl with
    | none =>
      have hh : Maps.has D kl = false := by rw [ha, hT]; rfl
      rw [Maps.atKey_of_not_has hh] at hv
      exact ptrE_nil hv
    | some B =>
      rw [hb B hT] at hv
      exact ptrE_inv hv
  rw [hrun, hv2]
theorem MAt.len (h : MAt w t m n f) (hT : Tryz.prog.underlying T = some (.map t e)) (ty : TypeId) : (Builtin.len_ #[T] ty #[.map (some m)]).run Tryz.prog w = .ok (.int .i64 n) w := by
  obtain ⟨D, h1, h2, _⟩ := h
  rw [← h2]; exact h1.len hT ty
theorem MAt.put (h : MAt w t m n f) (K : Keyed Tryz.prog t) (hT : Tryz.prog.underlying T = some (.map t e)) (hn : n < 1000000) (hkey : keyOf Tryz.prog t key = some kl) (B : Nat) :
    ∃ w', (Instr.mapUpdate T (.map (some m)) key (pv B)).run Tryz.prog w = .ok () w' ∧ MAt w' t m (if (f kl).isSome then n else n + 1) (updF f kl (some B)) ∧ w.grownBy w' (some m) ∧ w'.heap.size = w.heap.size := by
  obtain ⟨D, h1, h2, h3⟩ := h
  obtain ⟨w', hrun, hm, hg⟩ := h1.store K hT (by unfold maxLen; omega) hkey (val := pv B) (d := .lit (.int .i64 (B : Int))) (ps := []) rfl
  have hkl := K.key hkey
  have hsz : Maps.size (D.put kl (.lit (.int .i64 (B : Int)))) = if (f kl).isSome then n else n + 1 := by
    rw [Maps.size_put (h1.tidy K), (h3 kl hkl).1, h2]
    try rfl
  have hs : w'.heap.size = w.heap.size := by
    obtain ⟨_, _, _, _, _, rfl⟩ := hg
    unfold ChangeMaps.setBlock; simp
  refine ⟨w', hrun, ⟨_, ?_, hsz, ?_⟩, hg.grown, hs⟩
  · obtain ⟨es, clock, hb, F, hle, hD⟩ := hm
    refine ⟨es, clock, hb, F, ?_, hD⟩
    have : Maps.size (D.put kl (.lit (.int .i64 (B : Int)))) = es.size := by rw [hD]; simp [Maps.size, length_sorted]
    omega
  · intro k hk
    unfold updF
    by_cases hkk : k = kl
    · subst hkk
      rw [if_pos rfl]
      exact ⟨by rw [Maps.has_put_same h1.isMap hkl]; rfl, fun B' hB' z => by cases hB'; exact Maps.atKey_put_same h1.isMap hkl _ _⟩
    · rw [if_neg hkk]
      exact ⟨by rw [Maps.has_put_other (by simpa using hkk)]; exact (h3 k hk).1, fun B' hB' z => by rw [Maps.atKey_put_other (by simpa using hkk)]; exact (h3 k hk).2 B' hB' z⟩
end
theorem ui : Tryz.prog.underlying 3 = some (.int .i64) := by kernel_rfl
theorem keyedI : Keyed Tryz.prog 3 := Maps.int_keyed ui
abbrev ky (k : Int) : Lit := .int .i64 k
theorem keyI {n : Int} (h : i64 n) : keyOf Tryz.prog 3 (.int .i64 n) = some (ky n) := Maps.keyOf_int_mk ui (wf64 h)
abbrev kp (s o : Int) : Lit := .string (keyBytes [.int .i64 s, .int .i64 o])
end Go.Proofs.YtfmeajanbmaimaaGreat.Wa
