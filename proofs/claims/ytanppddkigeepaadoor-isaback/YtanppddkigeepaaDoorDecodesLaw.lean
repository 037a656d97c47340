/- IsaDecodes walks, once lives answers true. -/
import Derived.Test.YtanppddkigeepaaDoorCodesLaw
import Derived.Test.YtanppddkigeepaaDoorDecodeM
namespace Go.Proofs.YtanppddkigeepaaDoor
open Go.RowKit Go.Sort
theorem dec_some {s : ByteArray} {c : Cod} (h : decC s = some c) : rightC c = true ∧ q4s (bytesC c) = s := by
  unfold decC at h
  split at h
  · rename_i hh; cases h; exact ⟨by rw [← rightI_eq]; exact hh.2.1, hh.2.2⟩
  · cases h
set_option maxRecDepth 100000 in
set_option maxHeartbeats 4000000 in
theorem IsaDecodes_no (hL : Lives) (s : ByteArray) (rc : Cod) (w : World) (hE : Env w) (h1 : decC s = none) (h2 : ∀ W, Calls Tryd.prog 15 #[.string s] W fun e w' => e = .returned (.tuple #[rc.v, .bool false]) ∧ Below W.heap.size W w') : Calls Tryd.prog 4 #[.string s] w fun e w' => e = .returned (.bool true) ∧ Below w.heap.size w w' := by
  have HL := Lib.hid hL
  have H1 := Lib.hid (fun W => Decode_any s W)
  rw [h1] at H1
  have H1' : Hid (∀ W, Calls Tryd.prog 14 #[.string s] W fun e w' => e = .returned (.tuple #[.agg #[.int .i64 0, .int .i64 0, .int .i64 0, .int .i64 0, .int .i64 0], .int .i64 12]) ∧ Below W.heap.size W w') := H1
  have H2 := Lib.hid h2
  unfold Cod.v at H2
  clear hL h1 h2 H1
  go_enter Tryd.func4, Tryd.ntmps4
  go_wp2_with (first | (go_at_call 7; refine (HL.out _ hE).mono ?_; rintro e w1 ⟨rfl, hb1⟩) | (go_at_call 14; refine (H1'.out _).mono ?_; rintro e w2 ⟨rfl, hb2⟩; refine Hid.out ?_))
  refine Lib.hid ?_
  have k0 := At5.new w2 c0 23
  go_wp2_with (first | (go_at_call 15; refine (H2.out _).mono ?_; rintro e w3 ⟨rfl, hb3⟩; refine Hid.out ?_))
  refine Lib.hid ?_
  obtain ⟨cl, ⟨b0, b1, b2, b3, b4⟩, bf⟩ := k0.below hb3 (by simp)
  simp only [c0] at b0 b1 b2 b3 b4
  go_wp2
  go_ret
  have q2 := hb1.trans (hb2.mono hb1.size)
  have q3 : Below w.heap.size w w3 := (q2.alloc q2.size _).trans (hb3.mono (by have := q2.size; simp; omega))
  exact ⟨rfl, q3.alloc q3.size _⟩
set_option maxRecDepth 100000 in
set_option maxHeartbeats 4000000 in
theorem IsaDecodes_yes (hL : Lives) (s : ByteArray) (c : Cod) (w : World) (hE : Env w) (h1 : decC s = some c) (h2 : ∀ W, Calls Tryd.prog 15 #[.string s] W fun e w' => e = .returned (.tuple #[c.v, .bool true]) ∧ Below W.heap.size W w') : Calls Tryd.prog 4 #[.string s] w fun e w' => e = .returned (.bool true) ∧ Below w.heap.size w w' := by
  have HL := Lib.hid hL
  obtain ⟨hr, hq⟩ := dec_some h1
  have H1 := Lib.hid (fun W => Decode_any s W)
  rw [h1] at H1
  have H1' : Hid (∀ W, Calls Tryd.prog 14 #[.string s] W fun e w' => e = .returned (.tuple #[c.v, .int .i64 0]) ∧ Below W.heap.size W w') := H1
  have H2 := Lib.hid h2
  have H3 := Lib.hid (fun W => rEncode_any c W hr)
  rw [hq] at H3
  unfold Cod.v at H1' H2 H3
  clear hL h1 h2 H1 hr hq
  have hss : (s.toList == s.toList) = true := by simp
  go_enter Tryd.func4, Tryd.ntmps4
  go_wp2_with (first | (go_at_call 7; refine (HL.out _ hE).mono ?_; rintro e w1 ⟨rfl, hb1⟩) | (go_at_call 14; refine (H1'.out _).mono ?_; rintro e w2 ⟨rfl, hb2⟩; refine Hid.out ?_))
  refine Lib.hid ?_
  have k0 := At5.new w2 c 23
  go_wp2_with (first | (go_at_call 15; refine (H2.out _).mono ?_; rintro e w3 ⟨rfl, hb3⟩; refine Hid.out ?_))
  refine Lib.hid ?_
  have q2 := hb1.trans (hb2.mono hb1.size)
  have q3 : Below w.heap.size w w3 := (q2.alloc q2.size _).trans (hb3.mono (by have := q2.size; simp; omega))
  have z2 : w2.heap.size < w3.heap.size := by have := hb3.size; simp at this; omega
  obtain ⟨cl, ⟨b0, b1, b2, b3, b4⟩, bf⟩ := k0.below hb3 (by simp)
  go_wp2_with (first | (go_at_call 12; refine (H3.out _).mono ?_; rintro e w4 ⟨rfl, hb4⟩))
  go_ret
  exact ⟨rfl, (q3.alloc q3.size _).trans (hb4.mono (by have := q3.size; simp; omega))⟩
theorem IsaDecodes_any (hL : Lives) (s : ByteArray) (w : World) (hE : Env w) : Calls Tryd.prog 4 #[.string s] w fun e w' => e = .returned (.bool true) ∧ Below w.heap.size w w' := by
  by_cases hs : s.size = 4
  · have hd := dec_eq s hs
    by_cases hr : rightC (rdC s) = true
    · rw [if_pos hr] at hd
      exact IsaDecodes_yes hL s (rdC s) w hE hd (fun W => by have := rDecode_4b s W hs; rw [hr] at this; exact this)
    · rw [if_neg hr] at hd
      exact IsaDecodes_no hL s (rdC s) w hE hd (fun W => by have := rDecode_4b s W hs; rw [show rightC (rdC s) = false from by simpa using hr] at this; exact this)
  · exact IsaDecodes_no hL s ⟨0, 0, 0, 0, 0⟩ w hE (by unfold decC; rw [if_neg (fun h => hs h.1)]) (fun W => rDecode_no s W hs)
end Go.Proofs.YtanppddkigeepaaDoor
