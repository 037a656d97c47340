/- The parts, one behind the other. -/
import Derived.Test.YtpedinpjdepjdaaWrite
import Derived.Test.YtpedinpjdepjdaaRefU
namespace Go.Proofs.Ytpedinpjdepjdaa
open Go.RowKit Go.Lib
theorem PsAt.below {w w' : World} {p : Option Addr} {l : List ByteArray} (h : PsAt w p l) (hb : Below w.heap.size w w') : PsAt w' p l := by
  rcases h with h | ⟨blk, off, c, f, h1, h2, h3⟩
  · exact .inl h
  · have hlt : blk < w.heap.size := by
      rcases Nat.lt_or_ge blk w.heap.size with h | h
      · exact h
      · rw [Array.getElem?_eq_none h] at h2; cases h2
    exact .inr ⟨blk, off, c, f, h1, (hb.block blk hlt).trans h2, h3⟩
/-- Strings that lie in a row, wherever. -/
def CsAt (w : World) (p : Option Addr) (l : List ByteArray) : Prop := ∀ j (h : j < l.length), ∃ blk off, p = some ⟨blk, off, none⟩ ∧ w.cell? ⟨blk, off + j, none⟩ = some (.string l[j])
theorem CsAt.upto {w w' : World} {p : Option Addr} {l : List ByteArray} {B : Nat} (h : CsAt w p l) (hB : l ≠ [] → ∀ ad, p = some ad → ad.block < B) (hb : Below B w w') : CsAt w' p l := fun j hj => by
  obtain ⟨blk, off, h1, h2⟩ := h j hj
  exact ⟨blk, off, h1, (hb.cell (p := ⟨blk, off + j, none⟩) (hB (fun e => by subst e; simp at hj) ⟨blk, off, none⟩ h1)).trans h2⟩
theorem CsAt.below {w w' : World} {p : Option Addr} {l : List ByteArray} (h : CsAt w p l) (hb : Below w.heap.size w w') : CsAt w' p l := fun j hj => by
  obtain ⟨blk, off, h1, h2⟩ := h j hj
  exact ⟨blk, off, h1, (hb.cell (p := ⟨blk, off + j, none⟩) (World.block_lt_of_cell? w ⟨blk, off + j, none⟩ h2)).trans h2⟩
theorem PsAt.cs {w : World} {p : Option Addr} {l : List ByteArray} (h : PsAt w p l) : CsAt w p l := fun j hj => h.cell j hj
set_option maxRecDepth 100000 in
set_option maxHeartbeats 2000000 in
theorem joined_any (p : Option Addr) (cap : Nat) (l : List ByteArray) (w : World) (hp : CsAt w p l) (hs : sumL l < 140737488355328) (hl : l.length < 140737488355328) :
    Calls Try.prog 20 #[.slice p l.length cap] w fun e w' => e = .returned (.string ⟨(catL l).toArray⟩) ∧ Below w.heap.size w w' := by
  obtain ⟨i0, hi, hz0, hz1, hz2⟩ := info_parts' byteInfoR
  have HP : Hid (∀ W, Below w.heap.size w W → ∀ j (h : j < l.length), ∃ blk off, p = some ⟨blk, off, none⟩ ∧ W.cell? ⟨blk, off + j, none⟩ = some (.string l[j])) := fun W hW j h => (hp.below hW) j h
  clear hp
  go_enter Try.func20, Try.ntmps20
  go_wp2_with fail
  go_loopw [3, 8] (fun v iv wr => ∃ k : Nat, iv = .int .i64 k ∧ k ≤ l.length ∧ wr.ownsRow w.heap.size 5 1 v (catL (l.take k)).length (u8s (catL (l.take k))) ∧ Below w.heap.size w wr) (fun _ y _ => (l.length - intOf y).toNat)
  case atStart => exact ⟨0, rfl, by omega, World.ownsRow_nil _ _ _ _, Below.refl _ _⟩
  case round =>
    obtain ⟨k, rfl, hk, how, hbr⟩ := hrel
    have hz := hbr.size
    by_cases h1 : k < l.length
    · have h1i : (k : Int) < (l.length : Int) := by omega
      obtain ⟨blk, off, rfl, c1⟩ := HP.out _ hbr k h1
      have HK := Lib.hid (catL_take l k h1)
      have hle := sumL_le l (k + 1)
      rw [sumL_take l k h1] at hle
      have hcl := catL_len (l.take k)
      have HLt := Lib.hid how.lt
      obtain ⟨s, hs0⟩ : ∃ s, l[k] = s := ⟨_, rfl⟩
      rw [hs0] at c1 HK hle
      have HOw := Lib.hid how
      clear how hs0
      go_wp2_with (at_builtin; refine wpList_append_own_string _ rfl _ _ 29 9 rfl w.heap.size 5 i0 Try.underlying29 Try.underlying9 hi hz0 hz1 hz2 _ _ _ rfl HOw.out s rfl (by unfold maxLen; omega) (by omega) hz ?_; intro v' w5 hown' hgrow5 hnil5; have HO := Lib.hid hown'; have HG := Lib.hid hgrow5; clear hown' hgrow5 hnil5)
      refine ⟨⟨k + 1, by go_num, by omega, ?_, Below.grown hbr HG.out hz (fun j hj => (HLt.out j hj).1)⟩, ?_⟩
      · rw [HK.out, List.length_append, show u8s (catL (l.take k) ++ s.data.toList) = u8s (catL (l.take k)) ++ strCells s from by simp [u8s, strCells], show s.data.toList.length = s.size from by simp]
        exact HO.out
      · simp only [intOf]; omega
    · obtain rfl : k = l.length := by omega
      have h1i : ¬ (l.length : Int) < (l.length : Int) := by omega
      rw [List.take_length] at how
      have hcl := catL_len l
      obtain ⟨S, hS⟩ : ∃ S, catL l = S := ⟨_, rfl⟩
      rw [hS] at how hcl
      have HS := Lib.hid hS
      clear hS
      rcases how.2 with ⟨rfl, h0⟩ | ⟨g, c, _, hv, _⟩
      · have := List.length_eq_zero_iff.1 h0
        subst this
        clear how hcl
        have hcv : ∀ w, Sem.run Try.prog (convert 29 9 (.slice none 0 0)) w = .ok (.string ⟨#[]⟩) w := fun w => by
          rw [run_convert_bytes_string w 29 9 5 none 0 0 Try.underlying29 Try.underlying5 Try.underlying9]
          rfl
        go_wp2
        go_ret
        exact ⟨by rw [HS.out]; rfl, hbr⟩
      · subst hv
        clear hcl
        have hcl := how.cells (g := g) rfl
        have hcv := run_convert_bytes_back (P := Try.prog) wr 29 9 5 ⟨g, 0, none⟩ c S Try.underlying29 Try.underlying5 Try.underlying9 (fun j hj => hcl j _ (by unfold u8s; rw [List.getElem?_map, List.getElem?_eq_getElem hj]; rfl))
        clear how hcl
        go_wp2
        go_ret
        exact ⟨by rw [HS.out]; rfl, hbr⟩
end Go.Proofs.Ytpedinpjdepjdaa
