/- open of package pages where the number of bytes is another one: as it stands amid growing and shrinking. -/
import Derived.Test.YtblhikmhmnkclaaWrite
namespace Go.Proofs.Ytblhikmhmnkclaa
open Go.RowKit
/-- The object at Bb says n bytes; its leaves are ls, their pages hold d. -/
structure LAt (w : World) (base Bb n : Nat) (d : List UInt8) (ls : List (Nat × Bool)) : Prop where
  blk : ∃ v, w.heap[Bb]? = some (.cells #[.int .i64 n, v] 47 (0, 0)) ∧ w.ownsRow base 79 2 v ls.length (lfs ls)
  pgs : ∀ (i : Nat) (x : Nat × Bool), ls[i]? = some x → w.heap[x.1]? = some (.cells (u8s (pad d i)).toArray 96 (0, 0)) ∧ (x.2 = true → base ≤ x.1)
  dis : (ls.map (·.1)).Nodup
  bb : base ≤ Bb
theorem BAt.toL {K : Nat → Prop} {w : World} {base Bb : Nat} {d : List UInt8} {ls : List (Nat × Bool)} (h : BAt K w base Bb d ls) : LAt w base Bb d.length d ls := ⟨h.blk, h.pgs, h.dis, h.bb⟩
theorem LAt.toB {w : World} {base Bb : Nat} {d : List UInt8} {ls : List (Nat × Bool)} (h : LAt w base Bb d.length d ls) (h1 : d.length ≤ 4096) (h2 : ls.length = (d.length + 63) / 64) : BAt N0 w base Bb d ls := ⟨h.blk, h.pgs, h.dis, h1, h2, h.bb, foe0 _ _ _⟩
theorem LAt.lt {w : World} {base Bb n : Nat} {d : List UInt8} {ls : List (Nat × Bool)} (h : LAt w base Bb n d ls) {x : Nat × Bool} (hx : x ∈ ls) : x.1 < w.heap.size := by
  obtain ⟨i, hi⟩ := List.getElem?_of_mem hx
  exact (Array.getElem?_eq_some_iff.1 (h.pgs i x hi).1).1
set_option maxRecDepth 100000 in
set_option maxHeartbeats 1000000 in
theorem openL_any (base Bb i n : Nat) (d : List UInt8) (ls : List (Nat × Bool)) (w : World) (h : LAt w base Bb n d ls) (x : Nat × Bool) (hi : ls[i]? = some x) :
    Calls Try.prog 26 #[.pointer (some ⟨Bb, 0, none⟩), .int .i64 i] w fun e w' => e = .returned (.pointer (some ⟨opB x w, 0, none⟩)) ∧ LAt w' base Bb n d (ls.set i (opB x w, true)) ∧ Below base w w' ∧ Oth w w' := by
  have H := Lib.hid h
  obtain ⟨v, hv, hr⟩ := h.blk
  have hil : i < ls.length := (List.getElem?_eq_some_iff.1 hi).1
  obtain ⟨hp, hpb⟩ := h.pgs i x hi
  obtain ⟨px, own⟩ := x
  obtain ⟨e0, e1⟩ := lfs_at ls i (px, own) hi
  obtain ⟨g, cap, rfl⟩ : ∃ g cap, v = .slice (some ⟨g, 0, none⟩) ls.length cap := by
    rcases hr.2 with ⟨_, h⟩ | ⟨g, cap, _, h, _⟩
    · omega
    · exact ⟨g, cap, h⟩
  have c1 : w.cell? ⟨Bb, 1, none⟩ = some (.slice (some ⟨g, 0, none⟩) ls.length cap) := by simp [World.cell?, hv]
  have r0 : w.cell? ⟨g, i * 2, none⟩ = some (.pointer (some ⟨px, 0, none⟩)) := (hr.cellAt (i * 2) (by omega)).trans e0
  have r1 : w.cell? ⟨g, i * 2 + 1, none⟩ = some (.bool own) := (hr.cellAt (i * 2 + 1) (by omega)).trans e1
  have hii : (i : Int) < (ls.length : Int) := by omega
  have hgl : g < w.heap.size := (hr.lt g rfl).2
  have f0 : w.frozen? ⟨g, i * 2, none⟩ = false := hr.frozenAt _
  have f1 : w.frozen? ⟨g, i * 2 + 1, none⟩ = false := hr.frozenAt _
  cases own with
  | true =>
    clear hv hr hp
    go_enter Try.func26, Try.ntmps26
    go_wp2
    go_ret
    refine ⟨rfl, ?_, Below.refl _ _, Oth.refl _⟩
    show LAt w base Bb n d (ls.set i (px, true))
    rw [show ls.set i (px, true) = ls from by apply List.ext_getElem?; intro k; rw [List.getElem?_set]; split <;> simp_all]
    exact H.out
  | false =>
    have hsz : (Try.prog.info? 96).map (·.size) = some (u8s (pad d i)).toArray.size := by
      rw [show (u8s (pad d i)).toArray.size = 64 from by simp [u8s, pad]]; kernel_rfl
    have hsc : (storeCells ⟨w.heap.size, 0, none⟩ (u8s (pad d i))).run Try.prog (w.alloc (.cells #[.int .u8 0, .int .u8 0, .int .u8 0, .int .u8 0, .int .u8 0, .int .u8 0, .int .u8 0, .int .u8 0, .int .u8 0, .int .u8 0, .int .u8 0, .int .u8 0, .int .u8 0, .int .u8 0, .int .u8 0, .int .u8 0, .int .u8 0, .int .u8 0, .int .u8 0, .int .u8 0, .int .u8 0, .int .u8 0, .int .u8 0, .int .u8 0, .int .u8 0, .int .u8 0, .int .u8 0, .int .u8 0, .int .u8 0, .int .u8 0, .int .u8 0, .int .u8 0, .int .u8 0, .int .u8 0, .int .u8 0, .int .u8 0, .int .u8 0, .int .u8 0, .int .u8 0, .int .u8 0, .int .u8 0, .int .u8 0, .int .u8 0, .int .u8 0, .int .u8 0, .int .u8 0, .int .u8 0, .int .u8 0, .int .u8 0, .int .u8 0, .int .u8 0, .int .u8 0, .int .u8 0, .int .u8 0, .int .u8 0, .int .u8 0, .int .u8 0, .int .u8 0, .int .u8 0, .int .u8 0, .int .u8 0, .int .u8 0, .int .u8 0, .int .u8 0] 96)) = .ok () (w.alloc (.cells (u8s (pad d i)).toArray 96)) := by
      have := run_storeCells_new (P := Try.prog) w 96 #[.int .u8 0, .int .u8 0, .int .u8 0, .int .u8 0, .int .u8 0, .int .u8 0, .int .u8 0, .int .u8 0, .int .u8 0, .int .u8 0, .int .u8 0, .int .u8 0, .int .u8 0, .int .u8 0, .int .u8 0, .int .u8 0, .int .u8 0, .int .u8 0, .int .u8 0, .int .u8 0, .int .u8 0, .int .u8 0, .int .u8 0, .int .u8 0, .int .u8 0, .int .u8 0, .int .u8 0, .int .u8 0, .int .u8 0, .int .u8 0, .int .u8 0, .int .u8 0, .int .u8 0, .int .u8 0, .int .u8 0, .int .u8 0, .int .u8 0, .int .u8 0, .int .u8 0, .int .u8 0, .int .u8 0, .int .u8 0, .int .u8 0, .int .u8 0, .int .u8 0, .int .u8 0, .int .u8 0, .int .u8 0, .int .u8 0, .int .u8 0, .int .u8 0, .int .u8 0, .int .u8 0, .int .u8 0, .int .u8 0, .int .u8 0, .int .u8 0, .int .u8 0, .int .u8 0, .int .u8 0, .int .u8 0, .int .u8 0, .int .u8 0, .int .u8 0] (u8s (pad d i)).toArray hsz (by rw [show (u8s (pad d i)).toArray.size = 64 from by simp [u8s, pad]]; rfl) (by simp [u8s]; intros; rfl)
      simpa using this
    go_enter Try.func26, Try.ntmps26
    go_wp2_with (refine wpList_load_row rfl 96 _ rfl px rfl 96 _ (0, 0) _ hp Try.underlying96 rfl hsz ?_)
    go_ret
    have hgh : ∃ cur, w.heap[g]? = some (.cells cur 79 (0, 0)) := by
      rcases hr.2 with ⟨h', _⟩ | ⟨g', cap', cur, h', _, hg, _⟩
      · simp at h'
      · simp only [Value.slice.injEq, Option.some.injEq, Addr.mk.injEq, and_true, true_and] at h'
        obtain ⟨rfl, rfl⟩ := h'
        exact ⟨cur, hg⟩
    obtain ⟨cur, hgh⟩ := hgh
    obtain ⟨s1, _⟩ := hr.stored (i * 2) (.pointer (some ⟨w.heap.size, 0, none⟩))
    obtain ⟨s2, _⟩ := s1.stored (i * 2 + 1) (.bool true)
    rw [lfs_set ls i (w.heap.size, true) hil] at s2
    have hne : ∀ k o, w.heap[k]? = some o → (∀ c f, o ≠ .cells c 79 f) → k ≠ g := fun k o hk ho e => by
      subst e; rw [hgh] at hk; cases hk; exact ho _ _ rfl
    have hso : ∀ k, k ≠ g → k < w.heap.size → (((w.setCell ⟨g, i * 2, none⟩ (.pointer (some ⟨w.heap.size, 0, none⟩))).setCell ⟨g, i * 2 + 1, none⟩ (.bool true)).alloc (.cells (u8s (pad d i)).toArray 96)).heap[k]? = w.heap[k]? := fun k hk hlt => by
      rw [Below.heap_alloc _ _ _ (by simpa using hlt), heap_setCell_ne _ _ _ hk, heap_setCell_ne _ _ _ hk]
    refine ⟨rfl, ⟨⟨.slice (some ⟨g, 0, none⟩) ls.length cap, ?_, ?_⟩, ?_, ?_, H.out.bb⟩, ?_, ?_⟩
    · rw [hso Bb (hne Bb _ hv (fun c f e => by cases e)) (Array.getElem?_eq_some_iff.1 hv).1, hv]
    · rw [List.length_set]; exact s2.alloc _
    · intro k x hk
      rw [List.getElem?_set] at hk
      split at hk
      · subst k
        obtain rfl : (w.heap.size, true) = x := by simpa [hil, opB] using hk
        refine ⟨?_, fun _ => ?_⟩
        · have := heap_new ((w.setCell ⟨g, i * 2, none⟩ (.pointer (some ⟨w.heap.size, 0, none⟩))).setCell ⟨g, i * 2 + 1, none⟩ (.bool true)) (.cells (u8s (pad d i)).toArray 96)
          simpa using this
        · exact Nat.le_trans (hr.lt g rfl).1 (Nat.le_of_lt hgl)
      · obtain ⟨h1, h2⟩ := H.out.pgs k x hk
        exact ⟨(hso x.1 (hne _ _ h1 (fun c f e => by cases e)) (Array.getElem?_eq_some_iff.1 h1).1).trans h1, h2⟩
    · exact nodup_set H.out.dis (fun x hx => Nat.ne_of_lt (H.out.lt hx))
    · have hb0 := (hr.lt g rfl).1
      exact (((Below.refl base w).setCell (p := ⟨g, i * 2, none⟩) hb0 _).setCell (p := ⟨g, i * 2 + 1, none⟩) hb0 _).alloc (by simp; omega) _
    · exact ⟨by simp, fun k o hk ho => (hso k (hne k o hk ho) (Array.getElem?_eq_some_iff.1 hk).1).trans hk⟩
end Go.Proofs.Ytblhikmhmnkclaa
