/- The chapter's examples hold. -/
import Derived.Test.YtddllchobojmlaaSame
import Derived.Test.YtddllchobojmlaaPut
namespace Go.Proofs.Ytddllchobojmlaa
open Go.RowKit Go.Sort
def m1 : Mp := ⟨2, 1, 1, 7, 3, true, false⟩
def m2 : Mp := ⟨3, 2, 1, 8, 0, false, false⟩
theorem flatP_at : ∀ (l : List Pc) (q : Nat) (h : q < l.length) (r : Nat), r < 4 → (flatP l)[q * 4 + r]? = (pcC l[q])[r]?
  | x :: l, 0, _, r, hr => by
    unfold flatP
    rw [List.flatMap_cons, Nat.zero_mul, Nat.zero_add, List.getElem?_append_left (by simp [pcC]; exact hr)]; rfl
  | x :: l, q + 1, h, r, hr => by
    have := flatP_at l q (by simpa using h) r hr
    unfold flatP at this ⊢
    rw [List.flatMap_cons, List.getElem?_append_right (by simp [pcC]; omega)]
    have e : (q + 1) * 4 + r - (pcC x).length = q * 4 + r := by simp [pcC]; omega
    rw [e]; exact this
theorem PcAt.of {w : World} {b o : Nat} {m : Pc} (h : ∀ r u, (pcC m)[r]? = some u → w.cell? ⟨b, o + r, none⟩ = some u) : PcAt w b o m :=
  ⟨h 0 _ rfl, h 1 _ rfl, h 2 _ rfl, h 3 _ rfl⟩
theorem PsAt.of_flat {w : World} {b off : Nat} {l : List Pc} (h : ∀ j u, (flatP l)[j]? = some u → w.cell? ((⟨b, off, none⟩ : Addr).add j) = some u) : PsAt w (some ⟨b, off, none⟩) l := fun q hq => by
  have hm : PcAt w b (off + q * 4) l[q] := PcAt.of fun r u hu => by
    have hr : r < 4 := by have := (List.getElem?_eq_some_iff.1 hu).1; simpa [pcC] using this
    have := h (q * 4 + r) u (by rw [flatP_at l q hq r hr]; exact hu)
    rw [addr_plus, ← Nat.add_assoc] at this
    exact this
  exact ⟨b, off, rfl, World.block_lt_of_cell? w _ hm.c0, hm⟩
theorem own_pcs {w : World} {base n : Nat} {v : Value} {l : List Pc} (h : w.ownsRow base 41 4 v n (flatP l)) : ∃ p cap, v = .slice p l.length cap ∧ PsAt w p l := by
  have hn : n = l.length := by have := h.1; rw [flatP_length] at this; omega
  subst hn
  have hc := fun g hg => h.cells (g := g) hg
  rcases h.2 with ⟨rfl, h0⟩ | ⟨g, cap, cur, rfl, h1, h2, h3, h4, h5, h6⟩
  · have := List.length_eq_zero_iff.1 h0
    subst this
    exact ⟨none, 0, rfl, fun j hj => by simp at hj⟩
  · exact ⟨_, cap, rfl, PsAt.of_flat (hc g rfl)⟩
set_option maxRecDepth 100000 in
set_option maxHeartbeats 2000000 in
theorem lives_any (w : World) : Calls Try.prog 9 #[] w fun e w' => e = .returned (.bool true) ∧ Below w.heap.size w w' := by
  have HP1 := Lib.hid (Put_any none 0 [] m1 w ⟨fun j hj => by simp at hj, by simp, by simp, fun _ => rfl⟩)
  rw [show putE [] m1 = 0 from by decide, show putL [] m1 = [m1] from by decide] at HP1
  have HP1' : Hid (Calls Try.prog 10 #[.slice none 0 0, .agg #[.int .i64 2, .int .i64 1, .int .i64 1, .int .i64 7, .int .i64 3, .bool true, .bool false]] w fun e w' => ∃ v, e = .returned (.tuple #[v, .int .i64 0]) ∧ w'.ownsRow w.heap.size 24 7 v 1 (flat [m1]) ∧ Below w.heap.size w w') := HP1
  go_enter Try.func9, Try.ntmps9
  go_wp2_with (go_at_call 10; refine HP1'.out.mono ?_; rintro e w1 ⟨v1, rfl, ho1, hb1⟩; refine Hid.out ?_)
  refine Lib.hid ?_
  obtain ⟨p1, c1, rfl, -, hR1⟩ := own_rat ho1
  have HP2 := Lib.hid (Put_any p1 c1 [m1] m2 w1 hR1)
  rw [show putE [m1] m2 = 0 from by decide, show putL [m1] m2 = [m1, m2] from by decide] at HP2
  have HP2' : Hid (Calls Try.prog 10 #[.slice p1 1 c1, .agg #[.int .i64 3, .int .i64 2, .int .i64 1, .int .i64 8, .int .i64 0, .bool false, .bool false]] w1 fun e w' => ∃ v, e = .returned (.tuple #[v, .int .i64 0]) ∧ w'.ownsRow w1.heap.size 24 7 v 2 (flat [m1, m2]) ∧ Below w1.heap.size w1 w') := HP2
  go_wp2_with (go_at_call 10; refine HP2'.out.mono ?_; rintro e w2 ⟨v2, rfl, ho2, hb2⟩; refine Hid.out ?_)
  refine Lib.hid ?_
  obtain ⟨p2, c2, rfl, -, hR2⟩ := own_rat ho2
  have HS1 := Lib.hid (Span_any p2 c2 [m1, m2] 190 4 0 w2 (by decide) (by decide) hR2)
  rw [show spanE [m1, m2] 190 4 0 = 0 from by decide, show spanL [m1, m2] 190 4 0 = [⟨1, 7, 254, 2⟩, ⟨1, 8, 0, 2⟩] from by decide] at HS1
  have HS1' : Hid (Calls Try.prog 17 #[.slice p2 2 c2, .int .u64 190, .int .i64 4, .int .i64 0] w2 fun e w' => ∃ v, e = .returned (.tuple #[v, .int .i64 0]) ∧ w'.ownsRow w2.heap.size 41 4 v 2 (flatP [⟨1, 7, 254, 2⟩, ⟨1, 8, 0, 2⟩]) ∧ Below w2.heap.size w2 w') := HS1
  clear HP1 HP1' HP2 HP2'
  go_wp2_with (go_at_call 17; refine HS1'.out.mono ?_; rintro e w3 ⟨v3, rfl, ho3, hb3⟩; refine Hid.out ?_)
  refine Lib.hid ?_
  obtain ⟨p3, c3, rfl, hR3⟩ := own_pcs ho3
  have hR1' := (hR1.below hb2).below hb3
  have HS2 := Lib.hid (Span_any p1 c1 [m1] 130 4 2 w3 (by decide) (by decide) hR1')
  rw [show spanE [m1] 130 4 2 = 9 from by decide, show spanL [m1] 130 4 2 = [] from by decide] at HS2
  have HS2' : Hid (Calls Try.prog 17 #[.slice p1 1 c1, .int .u64 130, .int .i64 4, .int .i64 2] w3 fun e w' => ∃ v, e = .returned (.tuple #[v, .int .i64 9]) ∧ w'.ownsRow w3.heap.size 41 4 v 0 (flatP []) ∧ Below w3.heap.size w3 w') := HS2
  clear HS1 HS1'
  go_wp2_with (go_at_call 17; refine HS2'.out.mono ?_; rintro e w4 ⟨v4, rfl, ho4, hb4⟩; refine Hid.out ?_)
  refine Lib.hid ?_
  have hR3' := hR3.below hb4
  clear HS2 HS2' ho1 ho2 ho3 ho4 hR1 hR2 hR3 hR1'
  obtain ⟨W, hW⟩ : ∃ W, w4.alloc (.cells #[.int .i64 1, .int .i64 7, .int .i64 254, .int .i64 2, .int .i64 1, .int .i64 8, .int .i64 0, .int .i64 2] 41) = W := ⟨_, rfl⟩
  have hbW : Below w4.heap.size w4 W := by rw [← hW]; exact (Below.refl _ _).alloc (Nat.le_refl _) _
  have hP4 : PsAt W (some ⟨w4.heap.size, 0, none⟩) [⟨1, 7, 254, 2⟩, ⟨1, 8, 0, 2⟩] := fun j hj => by
    have hj2 : j < 2 := hj
    refine ⟨w4.heap.size, 0, rfl, by rw [← hW]; simp, ?_⟩
    rw [← hW]
    obtain rfl | rfl : j = 0 ∨ j = 1 := by omega
    · exact ⟨by simp [go_sem], by simp [go_sem], by simp [go_sem], by simp [go_sem]⟩
    · exact ⟨by simp [go_sem], by simp [go_sem], by simp [go_sem], by simp [go_sem]⟩
  have HSP := SamePieces_any p3 (some ⟨w4.heap.size, 0, none⟩) c3 2 [⟨1, 7, 254, 2⟩, ⟨1, 8, 0, 2⟩] [⟨1, 7, 254, 2⟩, ⟨1, 8, 0, 2⟩] W (by simp) (hR3'.below hbW) hP4
  rw [decide_eq_true rfl] at HSP
  rw [← hW] at HSP
  have HSP' := Lib.hid HSP
  rw [← hW] at hbW
  clear HSP hP4 hW
  go_wp2_with (go_at_call 20; refine HSP'.out.mono ?_; rintro e w5 ⟨rfl, hb5⟩)
  go_ret
  exact ⟨rfl, ((hb1.trans (hb2.mono hb1.size)).trans (hb3.mono (by have := hb1.size; have := hb2.size; omega))).trans ((hb4.trans (hbW.mono hb4.size)).trans (hb5.mono (by have := hb4.size; simp; omega)) |>.mono (by have := hb1.size; have := hb2.size; have := hb3.size; omega))⟩
end Go.Proofs.Ytddllchobojmlaa
