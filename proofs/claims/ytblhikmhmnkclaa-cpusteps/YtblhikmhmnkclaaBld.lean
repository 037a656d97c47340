/- What Write of a strings.Builder does that has been grown. -/
import Derived.Test.YtblhikmhmnkclaaSize
import Derived.Test.YtblhikmhmnkclaaShelf
namespace Go.Proofs.Ytblhikmhmnkclaa
open Go.RowKit Go.Lib
theorem byteInfo : (Try.prog.info? 5).map (fun i => (i.zero, i.size, i.bytes)) = some (some (.int .u8 0), 1, 1) := by kernel_rfl
set_option maxRecDepth 100000 in
theorem copyCheck_any (B b : Nat) (bs : List Value) (w : World) (h : Lib.BuilderAt 66 5 B b (.pointer (some ⟨b, 0, none⟩)) bs w) :
    Calls Try.prog 33 #[.pointer (some ⟨b, 0, none⟩)] w fun e w' => e = .returned (.tuple #[]) ∧ w' = w := by
  obtain ⟨hB, v, hv, _⟩ := h
  have c0 : w.cell? ⟨b, 0, none⟩ = some (.pointer (some ⟨b, 0, none⟩)) := by simp [World.cell?, hv]
  clear hv
  go_enter Try.func33, Try.ntmps33
  go_wp2
  obtain ⟨j, hj⟩ := Option.isSome_iff_exists.1 (show (Try.prog.info? 66).isSome = true by kernel_rfl)
  rw [Lib.run_neq_ptr_same w _ Try.underlying63 hj]
  go_wp2
  go_end0
  exact ⟨rfl, rfl⟩
theorem row_form {w : World} {base e size n : Nat} {v : Value} {xs : List Value} (h : w.ownsRow base e size v n xs) : ∃ sp n' cap, v = .slice sp n' cap := by
  rcases h.2 with ⟨rfl, rfl⟩ | ⟨g, cap, cur, rfl, _⟩
  · exact ⟨_, _, _, rfl⟩
  · exact ⟨_, _, _, rfl⟩
set_option maxRecDepth 100000 in
set_option maxHeartbeats 1000000 in
theorem BWrite_any (B b : Nat) (bs : List Value) (ad : Addr) (m c : Nat) (news : List Value) (w : World) (h : Lib.BuilderAt 66 5 B b (.pointer (some ⟨b, 0, none⟩)) bs w)
    (hl : news.length = m) (hnews : ∀ j u, news[j]? = some u → w.cell? (ad.add j) = some u) (h1 : ∀ u ∈ news, u.oneCell' = true) (hlen : bs.length + m ≤ 140737488355328) (hBw : B ≤ w.heap.size) :
    Calls Try.prog 21 #[.pointer (some ⟨b, 0, none⟩), .slice (some ad) m c] w fun e w' => (∃ v, e = .returned v) ∧ Lib.BuilderAt 66 5 B b (.pointer (some ⟨b, 0, none⟩)) (bs ++ news) w' ∧ Below B w w' ∧ KeepsOthers w w' := by
  obtain ⟨i0, hi, hz0, hz1, hz2⟩ := info_parts byteInfo
  have HC := Lib.hid (copyCheck_any B b bs w h)
  obtain ⟨hB, v, hbk, hown, hne⟩ := h
  obtain ⟨ao, n', cap, rfl⟩ : ∃ ao n' cap, v = .slice ao n' cap := by
    rcases hown.2 with ⟨hv, _⟩ | ⟨g, cap, cur, hv, _⟩
    · exact ⟨_, _, _, hv⟩
    · exact ⟨_, _, _, hv⟩
  have c0 : w.cell? ⟨b, 0, none⟩ = some (.pointer (some ⟨b, 0, none⟩)) := by rw [Lib.cell_of_heap hbk]; rfl
  have c1 : w.cell? ⟨b, 1, none⟩ = some (.slice ao n' cap) := by rw [Lib.cell_of_heap hbk]; rfl
  have hlt := (Array.getElem?_eq_some_iff.1 hbk).1
  have HK := Lib.hid hbk
  have HN := Lib.hid hne
  clear hbk hne
  go_enter Try.func21, Try.ntmps21
  go_wp2_with (first
    | (go_at_call 33; refine HC.out.mono ?_; rintro e w1 ⟨rfl, hw1⟩; rw [hw1]; clear hw1 w1)
    | (at_builtin; refine wpList_append_own _ rfl _ _ 64 rfl B 5 i0 (.int .u8 0) 1 1 (by kernel_rfl) hi hz0 hz1 hz2 rfl (by decide) _ _ _ rfl hown ad m c news rfl (by omega) hnews h1 (by show _ ≤ 2 ^ 63 - 1; omega) (by omega) hBw ?_; intro v' w2 hown' hgrow hnil; clear hnil; obtain ⟨ao2, n2, cap2, hv'⟩ := row_form hown'; subst hv'; have hb2 : w2.heap[b]? = some (.cells #[.pointer (some ⟨b, 0, none⟩), .slice ao n' cap] 66 (0, 0)) := (hgrow.block b hlt (fun e => HN.out e.symm)).trans HK.out; have d1 : w2.cell? ⟨b, 1, none⟩ = some (.slice ao n' cap) := (by rw [Lib.cell_of_heap hb2]; rfl); have f1 : w2.frozen? ⟨b, 1, none⟩ = false := Lib.frozen_of_heap hb2 1; have HW := Lib.hid hown'; have HG := Lib.hid hgrow; have HB2 := Lib.hid hb2; clear hown' hgrow hb2))
  go_ret2
  have hl2 : b < w2.heap.size := (Array.getElem?_eq_some_iff.1 HB2.out).1
  have hbB : some b ≠ (Value.slice ao2 n2 cap2).ownBlock := fun e => by
    rcases HW.out.2 with ⟨h', _⟩ | ⟨g, cap', cur, h', _, hgb, _⟩
    · rw [h'] at e; simp [Value.ownBlock] at e
    · rw [h'] at e
      have : b = g := by simpa [Value.ownBlock] using e
      subst this
      rw [HB2.out] at hgb; cases hgb
  have HG' : w.grownBy w2 (Value.ownBlock (.slice ao n' cap)) := HG.out
  refine ⟨⟨_, rfl⟩, ⟨hB, .slice ao2 n2 cap2, heap_setCell_same _ _ _ _ _ _ HB2.out, ?_, fun e => hbB e.symm⟩, ?_, ?_⟩
  · rw [List.length_append, hl]
    exact HW.out.kept (row := some b) ⟨rfl, rfl, rfl, by simp, fun i _ hi => heap_setCell_ne _ _ _ (fun e => hi (by rw [e]))⟩ (.inr (Ne.symm hbB))
  · refine Below.setCell (p := ⟨b, 1, none⟩) ?_ hB _
    exact ⟨HG'.os, HG'.tape, HG'.output, HG'.size, fun k hk => HG'.block k (by omega) (fun e => by have := (hown.lt k e.symm).1; omega)⟩
  · refine KeepsOthers.trans (KeepsOthers.of_grownBy HG' (fun j o e hj => ?_)) (KeepsOthers.setCell _ _ _)
    rcases hown.2 with ⟨h', _⟩ | ⟨g, cap', cur, h', _, hgb, _⟩
    · rw [h'] at e; simp [Value.ownBlock] at e
    · rw [h'] at e
      have : g = j := by simpa [Value.ownBlock] using e
      subst this
      rw [hgb] at hj; cases hj; rfl
end Go.Proofs.Ytblhikmhmnkclaa
