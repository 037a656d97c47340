/- whole of the laws answers true. -/
import Derived.Test.YtpedinpjdepjdaaStepS
namespace Go.Proofs.Ytpedinpjdepjdaa
open Go.RowKit Go.Lib
theorem conv_str {W : World} {v : Value} {d : List UInt8} {b : Nat} (h : W.ownsRow b 5 1 v d.length (u8s d)) : Sem.run Try.prog (convert 29 9 v) W = .ok (.string ⟨d.toArray⟩) W := by
  rcases h.2 with ⟨rfl, h0⟩ | ⟨g, c, _, hv, _⟩
  · have := List.length_eq_zero_iff.1 h0
    subst this
    rw [run_convert_bytes_string W 29 9 5 none 0 0 Try.underlying29 Try.underlying5 Try.underlying9]
    rfl
  · subst hv
    have hcl := h.cells (g := g) rfl
    exact run_convert_bytes_back (P := Try.prog) W 29 9 5 ⟨g, 0, none⟩ c d Try.underlying29 Try.underlying5 Try.underlying9 (fun j hj => hcl j _ (by unfold u8s; rw [List.getElem?_map, List.getElem?_eq_getElem hj]; rfl))
set_option maxRecDepth 100000 in
set_option maxHeartbeats 4000000 in
theorem whole_any (b0 Bb : Nat) (v : Value) (d : List UInt8) (w : World) (h : Both w b0 Bb v d) :
    Calls Try.prog 10 #[.pointer (some ⟨Bb, 0, none⟩), v] w fun e w' => e = .returned (.bool true) ∧ Below w.heap.size w w' := by
  obtain ⟨⟨ls, hA⟩, hr, hl⟩ := h
  obtain ⟨sp, cp, rfl⟩ := own_form hr
  have hR := Read_any b0 Bb 0 d.length d ls w hA (by omega)
  rw [List.drop_zero, List.take_length] at hR
  have HR := Lib.hid hR
  have HA := Lib.hid hA
  have HRow := Lib.hid hr
  obtain ⟨S, hS⟩ : ∃ S : ByteArray, (⟨d.toArray⟩ : ByteArray) = S := ⟨_, rfl⟩
  rw [hS] at HR
  clear hA hr hR
  go_enter Try.func10, Try.ntmps10
  go_wp2_with (go_at_call 14; refine HR.out.mono ?_; rintro e w1 ⟨rfl, hb1⟩; refine Hid.out ?_)
  refine Lib.hid ?_
  have HN := Lib.hid (Read_no b0 Bb 0 ((d.length : Int) + 1) d ls w1 (HA.out.below hb1) (by decide) (by unfold fitsB; simp; omega))
  have HB1 := Lib.hid hb1
  clear hb1
  go_wp2_with (go_at_call 14; refine HN.out.mono ?_; rintro e w2 ⟨rfl, hb2⟩; refine Hid.out ?_)
  refine Lib.hid ?_
  have hB2 : Below w.heap.size w w2 := HB1.out.trans (hb2.mono HB1.out.size)
  have hcv := conv_str (row_below HRow.out hB2)
  rw [hS] at hcv
  have HLn := Lib.hid (Len_any (HA.out.below hB2))
  have hPg := Pages_any (HA.out.below hB2)
  rw [show (((d.length + 63) / 64 : Nat) : Int) = ((d.length : Int) + 63) / 64 from by omega] at hPg
  have HPg := Lib.hid hPg
  have HB2 := Lib.hid hB2
  clear hb2 hB2 hS hPg
  go_wp2_with (first
    | (go_at_call 26; refine HLn.out.mono ?_; rintro e w3 ⟨rfl, hw3⟩; rw [hw3]; clear hw3 w3)
    | (go_at_call 16; refine HPg.out.mono ?_; rintro e w3 ⟨rfl, hw3⟩; rw [hw3]; clear hw3 w3))
  go_ret
  exact ⟨rfl, HB2.out⟩
end Go.Proofs.Ytpedinpjdepjdaa
