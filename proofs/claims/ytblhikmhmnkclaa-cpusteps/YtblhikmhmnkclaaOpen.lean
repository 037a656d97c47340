/- What open of package pages does: a page for writing. -/
import Derived.Test.YtblhikmhmnkclaaBase
import Derived.RangeFuncOwn
import Derived.Laws.Rows
import Derived.Deep.WholeRow
namespace Go.Proofs.Ytblhikmhmnkclaa
open Go.RowKit
variable {K : Nat → Prop}
theorem heap_new (w : World) (o : Obj) : (w.alloc o).heap[w.heap.size]? = some o := by show (w.heap.push o)[w.heap.size]? = _; simp
theorem keeps_below {w w' : World} (h : Below w.heap.size w w') : KeepsOthers w w' := KeepsOthers.of_grownBy (row := none) ⟨h.os, h.tape, h.output, h.size, fun k hk _ => h.block k hk⟩ (fun j o e => by cases e)
theorem load_page {w : World} {B : Nat} {l : List UInt8} (h : w.heap[B]? = some (.cells (u8s l).toArray 96 (0, 0))) (hl : l.length = 64) :
    (loadCellsFrom ⟨B, 0, none⟩ 0 64 #[]).run Try.prog w = .ok (u8s l).toArray w := by
  have hl' : (u8s l).length = 64 := by unfold u8s; rw [List.length_map]; exact hl
  have := run_loadCells_list (P := Try.prog) w ⟨B, 0, none⟩ (u8s l) (fun j v hv => by
    have hadd : (⟨B, 0, none⟩ : Addr).add j = ⟨B, j, none⟩ := by unfold Addr.add; split <;> simp_all
    rw [hadd, cell_of_row _ _ j _ _ (0, 0) h]
    simpa using hv)
  rw [hl'] at this
  simpa [loadCells] using this
theorem pad_len (d : List UInt8) (i : Nat) : (pad d i).length = 64 := by unfold pad; simp
theorem heap_setCell_ne (w : World) (a : Addr) (v : Value) {k : Nat} (h : k ≠ a.block) : (w.setCell a v).heap[k]? = w.heap[k]? := by
  show (w.heap.modify a.block _)[k]? = _
  rw [Array.getElem?_modify, if_neg (Ne.symm h)]
theorem lfs_set : ∀ (ls : List (Nat × Bool)) (i : Nat) (x : Nat × Bool), i < ls.length → ((lfs ls).set (i * 2) (.pointer (some ⟨x.1, 0, none⟩))).set (i * 2 + 1) (.bool x.2) = lfs (ls.set i x)
  | [], i, x, h => by simp at h
  | y :: l, 0, x, _ => rfl
  | y :: l, i + 1, x, h => by
    have := lfs_set l i x (by simpa using h)
    rw [show (i + 1) * 2 = i * 2 + 1 + 1 from by omega]
    show (Value.pointer (some ⟨y.1, 0, none⟩)) :: (Value.bool y.2) :: (((lfs l).set (i * 2) _).set (i * 2 + 1) _) = _
    rw [this]; rfl
theorem nodup_set {l : List (Nat × Bool)} {i n : Nat} {b : Bool} (h : (l.map (·.1)).Nodup) (hn : ∀ x ∈ l, x.1 ≠ n) : ((l.set i (n, b)).map (·.1)).Nodup := by
  rw [List.map_set]
  rw [List.nodup_iff_pairwise_ne] at *
  rw [List.pairwise_iff_getElem] at *
  intro p q hp hq hpq
  simp only [List.length_set, List.length_map] at hp hq
  rw [List.getElem_set, List.getElem_set]
  have hm : ∀ k (hk : k < l.length), (l.map (·.1))[k]'(by simpa using hk) ≠ n := fun k hk => by rw [List.getElem_map]; exact hn _ (List.getElem_mem hk)
  split
  · split
    · omega
    · exact (hm q hq).symm
  · split
    · exact hm p hp
    · exact h p q _ _ hpq
theorem BAt.lt {w : World} {base Bb : Nat} {d : List UInt8} {ls : List (Nat × Bool)} (h : BAt K w base Bb d ls) {x : Nat × Bool} (hx : x ∈ ls) : x.1 < w.heap.size := by
  obtain ⟨i, hi⟩ := List.getElem?_of_mem hx
  exact (Array.getElem?_eq_some_iff.1 (h.pgs i x hi).1).1
/-- Whatever is no row of leaves is as it was. -/
structure Oth (w w' : World) : Prop where
  size : w.heap.size ≤ w'.heap.size
  same : ∀ (k : Nat) (o : Obj), w.heap[k]? = some o → (∀ c f, o ≠ .cells c 79 f) → w'.heap[k]? = some o
theorem Oth.refl (w : World) : Oth w w := ⟨Nat.le_refl _, fun _ _ h _ => h⟩
theorem Oth.trans {a b c : World} (h : Oth a b) (k : Oth b c) : Oth a c := ⟨Nat.le_trans h.size k.size, fun i o hi ho => k.same i o (h.same i o hi ho) ho⟩
theorem Oth.keeps {a b : World} (h : Oth a b) : KeepsOthers a b := ⟨h.size, fun k o hk ho => h.same k o hk (fun c f e => by subst e; cases ho)⟩
theorem Oth.cell {a b : World} (h : Oth a b) {k j : Nat} {c : Array Value} {t : TypeId} {f : Nat × Nat} (hk : a.heap[k]? = some (.cells c t f)) (ht : t ≠ 79) : b.cell? ⟨k, j, none⟩ = a.cell? ⟨k, j, none⟩ := by
  have := h.same k _ hk (fun c' f' e => by injection e with _ e2; exact ht e2)
  simp [World.cell?, hk, this]
/-- Whatever is neither a row of leaves nor a page is as it was. -/
structure Fr (K : Nat → Prop) (w w' : World) : Prop where
  size : w.heap.size ≤ w'.heap.size
  foe : ∀ k, K k → k < w.heap.size → w'.heap[k]? = w.heap[k]?
  same : ∀ (k : Nat) (o : Obj), w.heap[k]? = some o → (∀ c f, o ≠ .cells c 79 f) → (∀ c f, o ≠ .cells c 96 f) → w'.heap[k]? = some o
theorem Fr.refl (w : World) : Fr K w w := ⟨Nat.le_refl _, fun _ _ _ => rfl, fun _ _ h _ _ => h⟩
theorem Fr.trans {a b c : World} (h : Fr K a b) (k : Fr K b c) : Fr K a c := ⟨Nat.le_trans h.size k.size, fun i hi hl => (k.foe i hi (Nat.lt_of_lt_of_le hl h.size)).trans (h.foe i hi hl), fun i o hi h1 h2 => k.same i o (h.same i o hi h1 h2) h1 h2⟩
theorem Fr.keeps {a b : World} (h : Fr K a b) : KeepsOthers a b := ⟨h.size, fun k o hk ho => h.same k o hk (fun c f e => by subst e; cases ho) (fun c f e => by subst e; cases ho)⟩
theorem Oth.fr {a b : World} (h : Oth a b) (hk : ∀ k, K k → k < a.heap.size → b.heap[k]? = a.heap[k]?) : Fr K a b := ⟨h.size, hk, fun k o hk h1 _ => h.same k o hk h1⟩
theorem Fr.below {a b : World} (h : Below a.heap.size a b) : Fr K a b := ⟨h.size, fun k _ hl => h.block k hl, fun k _ hk _ _ => (h.block k (Array.getElem?_eq_some_iff.1 hk).1).trans hk⟩
theorem Fr.block {a b : World} (h : Fr K a b) {k : Nat} {c : Array Value} {t : TypeId} {f : Nat × Nat} (hk : a.heap[k]? = some (.cells c t f)) (h1 : t ≠ 79) (h2 : t ≠ 96) : b.heap[k]? = some (.cells c t f) :=
  h.same k _ hk (fun c' f' e => by injection e with _ e2; exact h1 e2) (fun c' f' e => by injection e with _ e2; exact h2 e2)
/-- Which block open answers. -/
def opB (x : Nat × Bool) (w : World) : Nat := if x.2 = true then x.1 else w.heap.size
set_option maxRecDepth 100000 in
set_option maxHeartbeats 1000000 in
theorem open_any (base Bb i : Nat) (d : List UInt8) (ls : List (Nat × Bool)) (w : World) (h : BAt K w base Bb d ls) (x : Nat × Bool) (hi : ls[i]? = some x) :
    Calls Try.prog 26 #[.pointer (some ⟨Bb, 0, none⟩), .int .i64 i] w fun e w' => e = .returned (.pointer (some ⟨opB x w, 0, none⟩)) ∧ BAt K w' base Bb d (ls.set i (opB x w, true)) ∧ Below base w w' ∧ Oth w w' ∧ ∀ k, K k → k < w.heap.size → w'.heap[k]? = w.heap[k]? := by
  have H := Lib.hid h
  obtain ⟨v, hv, hr⟩ := h.blk
  have hil : i < ls.length := (List.getElem?_eq_some_iff.1 hi).1
  obtain ⟨hp, hpb⟩ := h.pgs i x hi
  have hlen := h.len
  have hcnt := h.cnt
  obtain ⟨px, own⟩ := x
  obtain ⟨e0, e1⟩ := lfs_at ls i (px, own) hi
  obtain ⟨g, cap, rfl⟩ : ∃ g cap, v = .slice (some ⟨g, 0, none⟩) ls.length cap := by
    rcases hr.2 with ⟨_, h⟩ | ⟨g, cap, _, h, _⟩
    · omega
    · exact ⟨g, cap, h⟩
  have c1 : w.cell? ⟨Bb, 1, none⟩ = some (.slice (some ⟨g, 0, none⟩) ls.length cap) := by simp [World.cell?, hv]
  have r0 : w.cell? ⟨g, i * 2, none⟩ = some (.pointer (some ⟨px, 0, none⟩)) := (hr.cellAt (i * 2) (by omega)).trans e0
  have r1 : w.cell? ⟨g, i * 2 + 1, none⟩ = some (.bool own) := (hr.cellAt (i * 2 + 1) (by omega)).trans e1
  have hii : (i : Int) < (ls.length : Int) := by omega
  have hgl : g < w.heap.size := (hr.lt g rfl).2
  have f0 : w.frozen? ⟨g, i * 2, none⟩ = false := hr.frozenAt _
  have f1 : w.frozen? ⟨g, i * 2 + 1, none⟩ = false := hr.frozenAt _
  cases own with
  | true =>
    clear hv hr hp
    go_enter Try.func26, Try.ntmps26
    go_wp2
    go_ret
    refine ⟨rfl, ?_, Below.refl _ _, Oth.refl _, fun _ _ _ => rfl⟩
    show BAt K w base Bb d (ls.set i (px, true))
    rw [show ls.set i (px, true) = ls from by apply List.ext_getElem?; intro k; rw [List.getElem?_set]; split <;> simp_all]
    exact H.out
  | false =>
    have hsz : (Try.prog.info? 96).map (·.size) = some (u8s (pad d i)).toArray.size := by
      rw [show (u8s (pad d i)).toArray.size = 64 from by simp [u8s, pad]]; kernel_rfl
    have hsc : (storeCells ⟨w.heap.size, 0, none⟩ (u8s (pad d i))).run Try.prog (w.alloc (.cells #[.int .u8 0, .int .u8 0, .int .u8 0, .int .u8 0, .int .u8 0, .int .u8 0, .int .u8 0, .int .u8 0, .int .u8 0, .int .u8 0, .int .u8 0, .int .u8 0, .int .u8 0, .int .u8 0, .int .u8 0, .int .u8 0, .int .u8 0, .int .u8 0, .int .u8 0, .int .u8 0, .int .u8 0, .int .u8 0, .int .u8 0, .int .u8 0, .int .u8 0, .int .u8 0, .int .u8 0, .int .u8 0, .int .u8 0, .int .u8 0, .int .u8 0, .int .u8 0, .int .u8 0, .int .u8 0, .int .u8 0, .int .u8 0, .int .u8 0, .int .u8 0, .int .u8 0, .int .u8 0, .int .u8 0, .int .u8 0, .int .u8 0, .int .u8 0, .int .u8 0, .int .u8 0, .int .u8 0, .int .u8 0, .int .u8 0, .int .u8 0, .int .u8 0, .int .u8 0, .int .u8 0, .int .u8 0, .int .u8 0, .int .u8 0, .int .u8 0, .int .u8 0, .int .u8 0, .int .u8 0, .int .u8 0, .int .u8 0, .int .u8 0, .int .u8 0] 96)) = .ok () (w.alloc (.cells (u8s (pad d i)).toArray 96)) := by
      have := run_storeCells_new (P := Try.prog) w 96 #[.int .u8 0, .int .u8 0, .int .u8 0, .int .u8 0, .int .u8 0, .int .u8 0, .int .u8 0, .int .u8 0, .int .u8 0, .int .u8 0, .int .u8 0, .int .u8 0, .int .u8 0, .int .u8 0, .int .u8 0, .int .u8 0, .int .u8 0, .int .u8 0, .int .u8 0, .int .u8 0, .int .u8 0, .int .u8 0, .int .u8 0, .int .u8 0, .int .u8 0, .int .u8 0, .int .u8 0, .int .u8 0, .int .u8 0, .int .u8 0, .int .u8 0, .int .u8 0, .int .u8 0, .int .u8 0, .int .u8 0, .int .u8 0, .int .u8 0, .int .u8 0, .int .u8 0, .int .u8 0, .int .u8 0, .int .u8 0, .int .u8 0, .int .u8 0, .int .u8 0, .int .u8 0, .int .u8 0, .int .u8 0, .int .u8 0, .int .u8 0, .int .u8 0, .int .u8 0, .int .u8 0, .int .u8 0, .int .u8 0, .int .u8 0, .int .u8 0, .int .u8 0, .int .u8 0, .int .u8 0, .int .u8 0, .int .u8 0, .int .u8 0, .int .u8 0] (u8s (pad d i)).toArray hsz (by rw [show (u8s (pad d i)).toArray.size = 64 from by simp [u8s, pad]]; rfl) (by simp [u8s]; intros; rfl)
      simpa using this
    go_enter Try.func26, Try.ntmps26
    go_wp2_with (refine wpList_load_row rfl 96 _ rfl px rfl 96 _ (0, 0) _ hp Try.underlying96 rfl hsz ?_)
    go_ret
    have hgh : ∃ cur, w.heap[g]? = some (.cells cur 79 (0, 0)) := by
      rcases hr.2 with ⟨h', _⟩ | ⟨g', cap', cur, h', _, hg, _⟩
      · simp at h'
      · simp only [Value.slice.injEq, Option.some.injEq, Addr.mk.injEq, and_true, true_and] at h'
        obtain ⟨rfl, rfl⟩ := h'
        exact ⟨cur, hg⟩
    obtain ⟨cur, hgh⟩ := hgh
    obtain ⟨s1, _⟩ := hr.stored (i * 2) (.pointer (some ⟨w.heap.size, 0, none⟩))
    obtain ⟨s2, _⟩ := s1.stored (i * 2 + 1) (.bool true)
    rw [lfs_set ls i (w.heap.size, true) hil] at s2
    have hne : ∀ k o, w.heap[k]? = some o → (∀ c f, o ≠ .cells c 79 f) → k ≠ g := fun k o hk ho e => by
      subst e; rw [hgh] at hk; cases hk; exact ho _ _ rfl
    have hso : ∀ k, k ≠ g → k < w.heap.size → (((w.setCell ⟨g, i * 2, none⟩ (.pointer (some ⟨w.heap.size, 0, none⟩))).setCell ⟨g, i * 2 + 1, none⟩ (.bool true)).alloc (.cells (u8s (pad d i)).toArray 96)).heap[k]? = w.heap[k]? := fun k hk hlt => by
      rw [Below.heap_alloc _ _ _ (by simpa using hlt), heap_setCell_ne _ _ _ hk, heap_setCell_ne _ _ _ hk]
    have hKg : ¬ K g := H.out.foe.row _ _ _ ⟨g, 0, none⟩ _ _ hv rfl
    have hBbs := hso Bb (hne Bb _ hv (fun c f e => by cases e)) (Array.getElem?_eq_some_iff.1 hv).1
    refine ⟨rfl, ⟨⟨.slice (some ⟨g, 0, none⟩) ls.length cap, ?_, ?_⟩, ?_, ?_, hlen, ?_, H.out.bb, ⟨fun k hk => Nat.lt_of_lt_of_le (H.out.foe.old k hk) (by simp), fun x hx hk => ?_, fun c t f a n cp e => H.out.foe.row c t f a n cp (hBbs.symm.trans e)⟩⟩, ?_, ?_, ?_⟩
    · rw [hso Bb (hne Bb _ hv (fun c f e => by cases e)) (Array.getElem?_eq_some_iff.1 hv).1, hv]
    · rw [List.length_set]; exact s2.alloc _
    · intro k x hk
      rw [List.getElem?_set] at hk
      split at hk
      · subst k
        obtain rfl : (w.heap.size, true) = x := by simpa [hil, opB] using hk
        refine ⟨?_, fun _ => ?_⟩
        · have := heap_new ((w.setCell ⟨g, i * 2, none⟩ (.pointer (some ⟨w.heap.size, 0, none⟩))).setCell ⟨g, i * 2 + 1, none⟩ (.bool true)) (.cells (u8s (pad d i)).toArray 96)
          simpa using this
        · exact Nat.le_trans (hr.lt g rfl).1 (Nat.le_of_lt hgl)
      · obtain ⟨h1, h2⟩ := H.out.pgs k x hk
        exact ⟨(hso x.1 (hne _ _ h1 (fun c f e => by cases e)) (Array.getElem?_eq_some_iff.1 h1).1).trans h1, h2⟩
    · exact nodup_set H.out.dis (fun x hx => Nat.ne_of_lt (H.out.lt hx))
    · rw [List.length_set]; exact hcnt
    · rcases List.mem_or_eq_of_mem_set hx with h1 | rfl
      · exact H.out.foe.pg x h1 hk
      · exact Nat.lt_irrefl _ (H.out.foe.old _ hk)
    · have hb0 := (hr.lt g rfl).1
      exact (((Below.refl base w).setCell (p := ⟨g, i * 2, none⟩) hb0 _).setCell (p := ⟨g, i * 2 + 1, none⟩) hb0 _).alloc (by simp; omega) _
    · exact ⟨by simp, fun k o hk ho => (hso k (hne k o hk ho) (Array.getElem?_eq_some_iff.1 hk).1).trans hk⟩
    · exact fun k hk hl => hso k (fun e => hKg (e ▸ hk)) hl
end Go.Proofs.Ytblhikmhmnkclaa
