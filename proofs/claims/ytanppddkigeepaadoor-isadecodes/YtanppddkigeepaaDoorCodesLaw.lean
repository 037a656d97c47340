/- IsaCodes walks, once lives answers true. -/
import Derived.Test.YtanppddkigeepaaDoorRText
import Derived.Test.YtanppddkigeepaaDoorRRight
import Derived.Test.YtanppddkigeepaaDoorREncode
import Derived.Test.YtanppddkigeepaaDoorDecode
namespace Go.Proofs.YtanppddkigeepaaDoor
open Go.RowKit Go.Sort
/-- lives answers true, whatever the memory. -/
def Lives : Prop := ∀ w, Env w → Calls Tryd.prog 7 #[] w fun e w' => e = .returned (.bool true) ∧ Below w.heap.size w w'
set_option maxRecDepth 100000 in
set_option maxHeartbeats 4000000 in
theorem IsaCodes_no (hL : Lives) (c : Cod) (w : World) (hE : Env w) (h : rightC c = false) : Calls Tryd.prog 3 #[c.v] w fun e w' => e = .returned (.bool true) ∧ Below w.heap.size w w' := by
  have HL := Lib.hid hL
  have hbA : Below w.heap.size w (w.alloc (.cells #[.int .i64 c.op, .int .i64 c.a, .int .i64 c.b, .int .i64 c.c, .int .i64 c.n] 23)) := (Below.refl _ _).alloc (Nat.le_refl _) _
  have hEA := hE.below hbA
  have hv : c.v = .agg #[.int .i64 c.op, .int .i64 c.a, .int .i64 c.b, .int .i64 c.c, .int .i64 c.n] := rfl
  have H1 := Lib.hid (rRight_any c)
  have H2 := Lib.hid (fun W => Encode_no c W (by rw [rightI_eq, h]))
  have H3 := Lib.hid (fun W => Text_no c W h)
  have H4 := Lib.hid (Right_any c)
  rw [rightI_eq] at H4
  rw [h] at H1 H4
  rw [hv] at H1 H2 H3 H4 ⊢
  have k0 := At5.new w c 23
  clear hL h hv
  go_enter Tryd.func3, Tryd.ntmps3
  go_wp2_with (first | (go_at_call 7; refine (HL.out _ hEA).mono ?_; rintro e w1 ⟨rfl, hb1⟩; refine Hid.out ?_))
  refine Lib.hid ?_
  obtain ⟨cl, ⟨b0, b1, b2, b3, b4⟩, bf⟩ := k0.below hb1 (by simp)
  go_wp2_with (first | (go_at_call 8; refine (H1.out _).mono ?_; rintro e w2 ⟨rfl, hb2⟩; refine Hid.out ?_))
  refine Lib.hid ?_
  have hb12 : Below w1.heap.size w1 w2 := hb2
  obtain ⟨dl, ⟨d0, d1, d2, d3, d4⟩, df⟩ := (k0.below hb1 (by simp)).below hb2 cl
  clear b0 b1 b2 b3 b4
  go_wp2_with (first | (go_at_call 9; refine (H2.out _).mono ?_; rintro e w3 ⟨rfl, hb3⟩; refine Hid.out ?_))
  refine Lib.hid ?_
  obtain ⟨fl, ⟨f0, f1, f2, f3, f4⟩, ff⟩ := ((k0.below hb1 (by simp)).below hb2 cl).below hb3 dl
  clear d0 d1 d2 d3 d4
  go_wp2_with (first | (go_at_call 10; refine (H3.out _).mono ?_; rintro e w4 ⟨rfl, hb4⟩; refine Hid.out ?_))
  refine Lib.hid ?_
  obtain ⟨gl, ⟨g0, g1, g2, g3, g4⟩, gf⟩ := (((k0.below hb1 (by simp)).below hb2 cl).below hb3 dl).below hb4 fl
  clear f0 f1 f2 f3 f4
  go_wp2_with (first | (go_at_call 11; refine (H4.out _).mono ?_; rintro e w5 ⟨rfl, hb5⟩))
  go_ret
  have q1 := hbA.trans (hb1.mono hbA.size)
  have q2 := q1.trans (hb2.mono q1.size)
  have q3 := q2.trans (hb3.mono q2.size)
  have q4 := q3.trans (hb4.mono q3.size)
  exact ⟨rfl, q4.trans (hb5.mono q4.size)⟩
set_option maxRecDepth 100000 in
set_option maxHeartbeats 4000000 in
theorem IsaCodes_yes (hL : Lives) (c : Cod) (w : World) (hE : Env w) (h : rightC c = true) : Calls Tryd.prog 3 #[c.v] w fun e w' => e = .returned (.bool true) ∧ Below w.heap.size w w' := by
  have HL := Lib.hid hL
  have hbA : Below w.heap.size w (w.alloc (.cells #[.int .i64 c.op, .int .i64 c.a, .int .i64 c.b, .int .i64 c.c, .int .i64 c.n] 23)) := (Below.refl _ _).alloc (Nat.le_refl _) _
  have hEA := hE.below hbA
  have hv : c.v = .agg #[.int .i64 c.op, .int .i64 c.a, .int .i64 c.b, .int .i64 c.c, .int .i64 c.n] := rfl
  have H1 := Lib.hid (rRight_any c)
  have H2 := Lib.hid (fun W => Encode_yes c W (by rw [rightI_eq, h]))
  have H3 := Lib.hid (fun W hW => Text_yes c W hW h)
  have H5 := Lib.hid (fun W => rEncode_any c W h)
  have H6 := Lib.hid (fun W => rText_any c W h)
  generalize q4s (bytesC c) = sb at H2 H5
  generalize (⟨(textC c).toArray⟩ : ByteArray) = tb at H3 H6
  have H4 := Lib.hid (Right_any c)
  rw [rightI_eq] at H4
  rw [h] at H1 H4
  rw [hv] at H1 H2 H3 H4 H5 H6 ⊢
  have k0 := At5.new w c 23
  clear hL h hv
  go_enter Tryd.func3, Tryd.ntmps3
  go_wp2_with (first | (go_at_call 7; refine (HL.out _ hEA).mono ?_; rintro e w1 ⟨rfl, hb1⟩; refine Hid.out ?_))
  refine Lib.hid ?_
  obtain ⟨cl, ⟨b0, b1, b2, b3, b4⟩, bf⟩ := k0.below hb1 (by simp)
  go_wp2_with (first | (go_at_call 8; refine (H1.out _).mono ?_; rintro e w2 ⟨rfl, hb2⟩; refine Hid.out ?_))
  refine Lib.hid ?_
  have hb12 : Below w1.heap.size w1 w2 := hb2
  obtain ⟨dl, ⟨d0, d1, d2, d3, d4⟩, df⟩ := (k0.below hb1 (by simp)).below hb2 cl
  clear b0 b1 b2 b3 b4
  go_wp2_with (first | (go_at_call 9; refine (H2.out _).mono ?_; rintro e w3 ⟨rfl, hb3⟩; refine Hid.out ?_))
  refine Lib.hid ?_
  obtain ⟨fl, ⟨f0, f1, f2, f3, f4⟩, ff⟩ := ((k0.below hb1 (by simp)).below hb2 cl).below hb3 dl
  clear d0 d1 d2 d3 d4
  have hE3 := ((hEA.below hb1).below hb2).below hb3
  go_wp2_with (first | (go_at_call 10; refine (H3.out _ hE3).mono ?_; rintro e w4 ⟨rfl, hb4⟩; refine Hid.out ?_))
  refine Lib.hid ?_
  obtain ⟨gl, ⟨g0, g1, g2, g3, g4⟩, gf⟩ := (((k0.below hb1 (by simp)).below hb2 cl).below hb3 dl).below hb4 fl
  clear f0 f1 f2 f3 f4
  go_wp2_with (first | (go_at_call 11; refine (H4.out _).mono ?_; rintro e w5 ⟨rfl, hb5⟩; refine Hid.out ?_))
  refine Lib.hid ?_
  have q1 := hbA.trans (hb1.mono hbA.size)
  have q2 := q1.trans (hb2.mono q1.size)
  have q3 := q2.trans (hb3.mono q2.size)
  have q4 := q3.trans (hb4.mono q3.size)
  have q5 := q4.trans (hb5.mono q4.size)
  have K5 := (((((k0.below hb1 (by simp)).below hb2 cl).below hb3 dl).below hb4 fl).below hb5 gl)
  obtain ⟨ml, ⟨m0, m1, m2, m3, m4⟩, mf⟩ := K5
  clear g0 g1 g2 g3 g4
  have hsb : (sb.toList == sb.toList) = true := by simp
  have htb : (tb.toList == tb.toList) = true := by simp
  go_wp2_with (first | (go_at_call 12; refine (H5.out _).mono ?_; rintro e w6 ⟨rfl, hb6⟩; refine Hid.out ?_))
  refine Lib.hid ?_
  have K6 := ((((((k0.below hb1 (by simp)).below hb2 cl).below hb3 dl).below hb4 fl).below hb5 gl).below hb6 ml)
  obtain ⟨nl, ⟨n0, n1, n2, n3, n4⟩, nf⟩ := K6
  clear m0 m1 m2 m3 m4
  go_wp2_with (first | (go_at_call 13; refine (H6.out _).mono ?_; rintro e w7 ⟨rfl, hb7⟩))
  go_ret
  have q6 := q5.trans (hb6.mono q5.size)
  exact ⟨rfl, q6.trans (hb7.mono q6.size)⟩
theorem IsaCodes_any (hL : Lives) (c : Cod) (w : World) (hE : Env w) : Calls Tryd.prog 3 #[c.v] w fun e w' => e = .returned (.bool true) ∧ Below w.heap.size w w' := by
  by_cases h : rightC c = true
  · exact IsaCodes_yes hL c w hE h
  · exact IsaCodes_no hL c w hE (by simpa using h)
end Go.Proofs.YtanppddkigeepaaDoor
