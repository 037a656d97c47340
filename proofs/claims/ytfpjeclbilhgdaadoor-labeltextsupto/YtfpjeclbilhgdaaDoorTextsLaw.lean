/- LabelTexts answers true, for every label and every string of fewer than 4294967281 bytes. -/
import Derived.Test.YtfpjeclbilhgdaaDoorLives
import Derived.Test.YtfpjeclbilhgdaaDoorSame
import Derived.Test.YtfpjeclbilhgdaaDoorRText1
import Derived.Test.YtfpjeclbilhgdaaDoorParseL
namespace Go.Proofs.YtfpjeclbilhgdaaDoor
open Go.RowKit Go.Sort

set_option maxRecDepth 100000 in
set_option maxHeartbeats 1000000 in
theorem right_any (b : Nat) (ls : List Lab) (w : World) (hb0 : b < w.heap.size) (hn : ls.length ≤ 16) (hL : LabsAt w b ls) :
    Calls Tryd.prog 5 #[.slice (some ⟨b, 0, none⟩) ls.length ls.length] w fun e w' => e = .returned (.bool (allRight ls)) ∧ Below w.heap.size w w' := by
  go_enter Tryd.func5, Tryd.ntmps5
  go_wp2
  go_loopw [7] (fun i wr => ∃ k : Nat, k ≤ ls.length ∧ i = .int .i64 k ∧ allRight ls = allRight (ls.drop k) ∧ Below w.heap.size w wr) (fun i _ => ls.length - (intOf i).toNat)
  case atStart => exact ⟨0, Nat.zero_le _, rfl, by simp, Below.refl _ _⟩
  case round =>
    obtain ⟨k, hk, rfl, hr, hb⟩ := hrel
    have HR : Hid (allRight ls = allRight (ls.drop k)) := hr; clear hr
    by_cases hlt : k < ls.length
    · obtain ⟨c0, c1, hc, hm⟩ := hL k hlt
      have e0 := (hb.cell (p := ⟨b, k * 2, none⟩) hb0).trans c0
      have e1 := (hb.cell (p := ⟨b, k * 2 + 1, none⟩) hb0).trans c1
      have HS : Hid (allRight (ls.drop k) = (rightS ls[k].d ls[k].xs && allRight (ls.drop (k + 1)))) := allRight_step ls k hlt
      have hbA : Below w.heap.size w (wr.alloc (.cells #[.int .i64 ls[k].d, .slice ls[k].p ls[k].xs.length ls[k].cap] 24)) := hb.alloc hb.size _
      have hR := refRight_any ls[k].d ls[k].p ls[k].cap ls[k].xs _ hm (hc.below hbA)
      clear hL hc c0 c1
      by_cases h3 : rightS ls[k].d ls[k].xs = true
      · go_wp2_with (go_at_call 13; refine hR.mono ?_; rintro e w2 ⟨rfl, hb2⟩)
        go_roundw
        case rel => exact ⟨k + 1, by omega, by go_num, by rw [HR.out, HS.out, h3]; rfl, hbA.trans (hb2.mono hbA.size)⟩
        case measure => simp [intOf]; omega
      · have h3' : rightS ls[k].d ls[k].xs = false := by simpa using h3
        go_wp2_with (go_at_call 13; refine hR.mono ?_; rintro e w2 ⟨rfl, hb2⟩)
        go_ret
        exact ⟨ret_bool (by rw [HR.out, HS.out, h3']; rfl), hbA.trans (hb2.mono hbA.size)⟩
    · go_wp2
      go_ret
      exact ⟨ret_bool (by rw [HR.out, List.drop_of_length_le (by omega)]; rfl), hb⟩

theorem right_lim {d : Int} : ∀ {l : Int} {xs : List (Int × Int)}, rOk d l xs = true → ∀ x ∈ xs, (1 ≤ x.1 ∧ x.1 ≤ 2305843009213693951) ∧ 0 ≤ x.2 ∧ x.2 ≤ 5
  | _, [], _, x, hx => by simp at hx
  | l, y :: ys, h, x, hx => by
    simp only [rOk, Bool.and_eq_true] at h
    rcases List.mem_cons.1 hx with rfl | hx
    · have := h.1.1.1; simp [can, isCt, lev] at this; omega
    · exact right_lim h.2 x hx
theorem right_rok {d : Int} {xs : List (Int × Int)} (h : rightS d xs = true) : rOk d 0 xs = true := by
  simp only [rightS, Bool.and_eq_true] at h; exact h.2

theorem same_self (d : Int) (xs : List (Int × Int)) : sameS d d xs xs = true := by simp [sameS]
theorem labs1 {W : World} {b : Nat} {A : Lab} (h : W.heap[b]? = some (.cells #[.int .i64 A.d, .slice A.p A.xs.length A.cap] 24 (0, 0)))
    (ha : CatsAt W A.p A.xs ∧ A.xs.length ≤ maxLen) : LabsAt W b [A] := by
  intro j hj
  simp only [List.length_cons, List.length_nil] at hj
  match j, hj with
  | 0, _ => exact ⟨by simp [World.cell?, h], by simp [World.cell?, h], ha⟩


/-- What Parse of a string answers, in the words of the law: refused, or a right label, whose text the string is. -/
theorem parse_cases (s : ByteArray) (hm : s.size < 4294967281) :
    (Hid (∀ W, Env W → Calls Tryd.prog 7 #[.string s] W fun e w' => ∃ p c, e = .returned (.tuple #[.agg #[.int .i64 0, .slice p 0 c], .int .i64 2]) ∧ Below W.heap.size W w')) ∨
    (∃ (d : Int) (xs : List (Int × Int)), rightS d xs = true ∧ ⟨(lbT d xs).toArray⟩ = s ∧ Hid (∀ W, Env W → Calls Tryd.prog 7 #[.string s] W fun e w' => ∃ p c, e = .returned (.tuple #[.agg #[.int .i64 d, .slice p xs.length c], .int .i64 0]) ∧ CatsAt w' p xs ∧ Below W.heap.size W w')) := by
  have hP := fun W (hE : Env W) => Parse_any s W hE hm
  cases ho : preL s.data.toList with
  | none =>
    refine .inl fun W hE => (hP W hE).mono ?_
    rintro e w' ⟨v, rfl, hR, hb⟩
    rw [ho] at hR ⊢
    simp only [pD, pX, pE] at hR ⊢
    obtain ⟨p, c, rfl, hc, _⟩ := hR.out
    exact ⟨p, c, rfl, hb⟩
  | some x =>
    obtain ⟨d, xs⟩ := x
    by_cases hr : rightS d xs = true
    · refine .inr ⟨d, xs, hr, ?_, fun W hE => (hP W hE).mono ?_⟩
      · apply ByteArray.ext
        show (lbT d xs).toArray = s.data
        rw [← (preL_some ho).1]
      · rintro e w' ⟨v, rfl, hR, hb⟩
        rw [ho] at hR ⊢
        simp only [pD, pX, pE, rD, rL, rE, hr, if_true] at hR ⊢
        obtain ⟨p, c, rfl, hc, _⟩ := hR.out
        exact ⟨p, c, rfl, hc, hb⟩
    · refine .inl fun W hE => (hP W hE).mono ?_
      rintro e w' ⟨v, rfl, hR, hb⟩
      rw [ho] at hR ⊢
      simp only [pD, pX, pE, rD, rL, rE, hr] at hR ⊢
      obtain ⟨p, c, rfl, hc, _⟩ := hR.out
      exact ⟨p, c, rfl, hb⟩
theorem text_size (d : Int) (xs : List (Int × Int)) (hr : rightS d xs = true) : (⟨(lbT d xs).toArray⟩ : ByteArray).size < 4294967281 := by
  show (lbT d xs).length < _
  have h16 := (right_rise hr).2.2.1
  have := prT_len d xs xs.length (Nat.le_refl _) (fun x hx => (right_lim (right_rok hr) x hx).1.2)
  rw [List.take_of_length_le (Nat.le_refl _)] at this
  rw [lbT_pr, List.length_append]
  simp only [List.length_cons, List.length_nil]
  omega
/-- What Parse of a right label's text answers. -/
theorem parse_text (d : Int) (xs : List (Int × Int)) (hr : rightS d xs = true) (W : World) (hE : Env W) : Calls Tryd.prog 7 #[.string ⟨(lbT d xs).toArray⟩] W fun e w' => ∃ p c, e = .returned (.tuple #[.agg #[.int .i64 d, .slice p xs.length c], .int .i64 0]) ∧ CatsAt w' p xs ∧ Below W.heap.size W w' := by
  have hl := right_lim (right_rok hr)
  obtain ⟨_, _, h16, d0, d5⟩ := right_rise hr
  refine (Parse_any _ W hE (text_size d xs hr)).mono ?_
  rintro e w' ⟨v, rfl, hR, hb⟩
  have ho : preL (⟨(lbT d xs).toArray⟩ : ByteArray).data.toList = some (d, xs) := by
    show preL (lbT d xs) = _
    exact preL_text d xs ⟨d0, d5⟩ h16 fun x hx => ⟨(hl x hx).1.1, (hl x hx).1.2, (hl x hx).2.1, (hl x hx).2.2⟩
  rw [ho] at hR ⊢
  simp only [pD, pX, pE, rD, rL, rE, hr, if_true] at hR ⊢
  obtain ⟨p, c, rfl, hc, _⟩ := hR.out
  exact ⟨p, c, rfl, hc, hb⟩

set_option maxRecDepth 100000 in
set_option maxHeartbeats 8000000 in
theorem LabelTexts_any (A : Lab) (s : ByteArray) (w : World) (ma : A.xs.length ≤ maxLen) (ms : s.size < 4294967281) (hE : Env w) (ha : CatsAt w A.p A.xs) :
    Calls Tryd.prog 3 #[.agg #[.int .i64 A.d, .slice A.p A.xs.length A.cap], .string s] w fun e w' => e = .returned (.bool true) ∧ Below w.heap.size w w' := by
  have RC := Lib.hid (parse_cases s ms)
  have HE : Hid (∀ W, Below w.heap.size w W → Env W) := fun W h => hE.keep h hE.big
  clear hE
  obtain ⟨W3, hW3⟩ : ∃ W3, w.alloc (.cells #[.int .i64 A.d, .slice A.p A.xs.length A.cap] 24) = W3 := ⟨_, rfl⟩
  have hB3 : Below w.heap.size w W3 := by rw [← hW3]; go_grown
  have hz3 : W3.heap.size = w.heap.size + 1 := by rw [← hW3]; simp
  have a0 : W3.cell? ⟨w.heap.size, 0, none⟩ = some (.int .i64 A.d) := by rw [← hW3]; simp [go_sem]
  have a1 : W3.cell? ⟨w.heap.size, 1, none⟩ = some (.slice A.p A.xs.length A.cap) := by rw [← hW3]; simp [go_sem]
  have hL := lives_any W3
  go_enter Tryd.func3, Tryd.ntmps3
  go_wp2_with (go_at_call 4; refine hL.mono ?_; rintro e w1 ⟨rfl, hb1⟩; refine Hid.out ?_)
  refine Lib.hid ?_
  clear hL hW3
  have hB1 : Below w.heap.size w w1 := hB3.trans (hb1.mono hB3.size)
  have hz1 : w.heap.size + 1 ≤ w1.heap.size := by have := hb1.size; omega
  have d0 := (hb1.cell (p := ⟨w.heap.size, 0, none⟩) (by simp; omega)).trans a0
  have d1 := (hb1.cell (p := ⟨w.heap.size, 1, none⟩) (by simp; omega)).trans a1
  have hbA : Below w.heap.size w (w1.alloc (.cells #[.int .i64 A.d, .slice A.p A.xs.length A.cap] 24)) := hB1.alloc hB1.size _
  have hR := right_any w1.heap.size [A] _ (by simp) (by simp) (labs1 (World.alloc_heap_new w1 _) ⟨ha.below hbA, ma⟩)
  simp only [List.length_cons, List.length_nil, Nat.zero_add] at hR
  clear a0 a1
  by_cases hr : allRight [A] = true
  · rw [hr] at hR
    simp only [allRight, List.all_cons, List.all_nil, Bool.and_true] at hr
    have RA := right_rise hr
    have h16 := RA.2.2.1
    have hlim := right_lim (right_rok hr)
    obtain ⟨bb, hbb⟩ : ∃ b, b = (⟨(lbT A.d A.xs).toArray⟩ : ByteArray) := ⟨_, rfl⟩
    have hx : ∀ x ∈ A.xs, 1 ≤ x.1 ∧ x.1 ≤ 2305843009213693951 ∧ 0 ≤ x.2 ∧ x.2 ≤ 5 := fun x hx => ⟨(hlim x hx).1.1, (hlim x hx).1.2, (hlim x hx).2.1, (hlim x hx).2.2⟩
    have H38 : Hid (∀ W, Env W → CatsAt W A.p A.xs → Calls Tryd.prog 6 #[.agg #[.int .i64 A.d, .slice A.p A.xs.length A.cap]] W fun e w' => e = .returned (.string bb) ∧ Below W.heap.size W w') := fun W hE h => by rw [hbb]; exact TextG_any A.d A.p A.cap A.xs W hE ⟨RA.2.2.2.1, RA.2.2.2.2⟩ h16 hx h
    have H40 : Hid (∀ W, CatsAt W A.p A.xs → Calls Tryd.prog 8 #[.agg #[.int .i64 A.d, .slice A.p A.xs.length A.cap]] W fun e w' => e = .returned (.string bb) ∧ Below W.heap.size W w') := fun W h => by rw [hbb]; exact rText1_any A.d A.p A.cap A.xs W ⟨RA.2.2.2.1, RA.2.2.2.2⟩ h16 hx h
    have H39 : Hid (∀ W, Env W → Calls Tryd.prog 7 #[.string bb] W fun e w' => ∃ p c, e = .returned (.tuple #[.agg #[.int .i64 A.d, .slice p A.xs.length c], .int .i64 0]) ∧ CatsAt w' p A.xs ∧ Below W.heap.size W w') := fun W hE => by
      rw [hbb]; exact parse_text A.d A.xs hr W hE
    have sA := same_self A.d A.xs
    clear RA hx hbb hlim
    go_wp2_with (go_at_call 5; refine hR.mono ?_; rintro e w2 ⟨rfl, hb2⟩; refine Hid.out ?_)
    refine Lib.hid ?_
    clear hR
    have hB2 : Below w.heap.size w w2 := hbA.trans (hb2.mono hbA.size)
    have hb12 : Below w1.heap.size w1 w2 := ((Below.refl _ w1).alloc (Nat.le_refl _) _).trans (hb2.mono (by simp))
    have hz2 : w.heap.size + 1 ≤ w2.heap.size := by have := hb12.size; omega
    have HA : Hid (∀ W, Below w2.heap.size w2 W → CatsAt W A.p A.xs) := fun W h => (ha.below hB2).below h
    have i0 := (hb12.cell (p := ⟨w.heap.size, 0, none⟩) (by simp; omega)).trans d0
    have i1 := (hb12.cell (p := ⟨w.heap.size, 1, none⟩) (by simp; omega)).trans d1
    have HC : Hid (∀ W, Below w2.heap.size w2 W → W.cell? ⟨w.heap.size, 0, none⟩ = some (.int .i64 A.d) ∧ W.cell? ⟨w.heap.size, 1, none⟩ = some (.slice A.p A.xs.length A.cap)) := fun W h => ⟨(h.cell (p := ⟨w.heap.size, 0, none⟩) (by simp; omega)).trans i0, (h.cell (p := ⟨w.heap.size, 1, none⟩) (by simp; omega)).trans i1⟩
    clear ha hb1 hb2 d0 d1 hb12
    go_wp2_with (first
      | (go_at_call 6; refine Calls.mono (H38.out _ (HE.out _ hB2) (HA.out _ (Below.refl _ _))) ?_; rintro e w3 ⟨rfl, hb3⟩)
      | (go_at_call 7; refine Calls.mono (H39.out _ (HE.out _ (hB2.trans (hb3.mono hB2.size)))) ?_; rintro e w4 ⟨p4, c4, rfl, hc4, hb4⟩; refine Hid.out ?_))
    refine Lib.hid ?_
    have h24 : Below w2.heap.size w2 w4 := hb3.trans (hb4.mono hb3.size)
    clear i0 i1
    obtain ⟨m0, m1⟩ := HC.out w4 h24
    have g4 : w.heap.size < w4.heap.size := by have := h24.size; omega
    obtain ⟨X4, hX4⟩ : ∃ X, X = w4.alloc (.cells #[.int .i64 A.d, .slice p4 A.xs.length c4] 24) := ⟨_, rfl⟩
    have hbX4 : Below w4.heap.size w4 X4 := by rw [hX4]; exact (Below.refl _ _).alloc (Nat.le_refl _) _
    have hzX4 : X4.heap.size = w4.heap.size + 1 := by rw [hX4]; simp
    have k0 : X4.cell? ⟨w4.heap.size, 0, none⟩ = some (.int .i64 A.d) := by rw [hX4]; simp [go_sem]
    have k1 : X4.cell? ⟨w4.heap.size, 1, none⟩ = some (.slice p4 A.xs.length c4) := by rw [hX4]; simp [go_sem]
    have h2X : Below w2.heap.size w2 X4 := h24.trans (hbX4.mono h24.size)
    have hcX : CatsAt X4 p4 A.xs := hc4.below hbX4
    clear hb3 hb4
    go_wp2_with (go_at_call 8; rw [← hX4]; refine Calls.mono (H40.out _ (HA.out _ h2X)) ?_; rintro e w5 ⟨rfl, hb5⟩; refine Hid.out ?_)
    refine Lib.hid ?_
    have h25 : Below w2.heap.size w2 w5 := h2X.trans (hb5.mono h2X.size)
    clear m0 m1 hX4
    obtain ⟨m0, m1⟩ := HC.out w5 h25
    have q0 := (hb5.cell (p := ⟨w4.heap.size, 0, none⟩) (by simp; omega)).trans k0
    have q1 := (hb5.cell (p := ⟨w4.heap.size, 1, none⟩) (by simp; omega)).trans k1
    have hS := Same_any A.d A.d A.p p4 A.cap c4 A.xs A.xs w5 ma ma (HA.out _ h25) (hcX.below hb5)
    rw [sA] at hS
    have hBw5 : Below w.heap.size w w5 := hB2.trans (h25.mono hB2.size)
    clear H38 H39 H40
    go_wp2_with (go_at_call 9; refine hS.mono ?_; rintro e w6 ⟨rfl, hb6⟩; refine Hid.out ?_)
    refine Lib.hid ?_
    have hB6 : Below w.heap.size w w6 := hBw5.trans (hb6.mono hBw5.size)
    clear hS m0 m1 q0 q1 k0 k1 HC HA hcX hc4
    rcases RC.out with H39s | ⟨dm, xm, hrm, hbm, H39s⟩
    · clear RC
      go_wp2_with (go_at_call 7; refine Calls.mono (H39s.out _ (HE.out _ hB6)) ?_; rintro e w7 ⟨p7, c7, rfl, hb7⟩; refine Hid.out ?_)
      refine Lib.hid ?_
      have hB7 : Below w.heap.size w w7 := hB6.trans (hb7.mono hB6.size)
      have hb7X : Below w7.heap.size w7 (w7.alloc (.cells #[.int .i64 0, .slice p7 0 c7] 24)) := (Below.refl _ _).alloc (Nat.le_refl _) _
      have H20 : Hid (∀ W, Calls Tryd.prog 9 #[.agg #[.int .i64 0, .slice p7 0 c7], .agg #[.int .i64 0, .slice none 0 0]] W fun e w' => e = .returned (.bool true) ∧ Below W.heap.size W w') := fun W => by
        have := Same_any 0 0 p7 none c7 0 [] [] W (by simp [maxLen]) (by simp [maxLen]) (fun j hj => by simp at hj) (fun j hj => by simp at hj)
        rw [same_self] at this; exact this
      clear H39s hb7
      go_wp2_with (go_at_call 9; refine Calls.mono (H20.out _) ?_; rintro e w8 ⟨rfl, hb8⟩)
      go_ret
      exact ⟨ret_bool (by simp), hB7.trans ((hb7X.trans (hb8.mono hb7X.size)).mono hB7.size)⟩
    · clear RC
      go_wp2_with (go_at_call 7; refine Calls.mono (H39s.out _ (HE.out _ hB6)) ?_; rintro e w7 ⟨p7, c7, rfl, hc7, hb7⟩; refine Hid.out ?_)
      refine Lib.hid ?_
      have hB7 : Below w.heap.size w w7 := hB6.trans (hb7.mono hB6.size)
      obtain ⟨X7, hX7⟩ : ∃ X, X = w7.alloc (.cells #[.int .i64 dm, .slice p7 xm.length c7] 24) := ⟨_, rfl⟩
      have hbX7 : Below w7.heap.size w7 X7 := by rw [hX7]; exact (Below.refl _ _).alloc (Nat.le_refl _) _
      have hzX7 : X7.heap.size = w7.heap.size + 1 := by rw [hX7]; simp
      have k0 : X7.cell? ⟨w7.heap.size, 0, none⟩ = some (.int .i64 dm) := by rw [hX7]; simp [go_sem]
      have k1 : X7.cell? ⟨w7.heap.size, 1, none⟩ = some (.slice p7 xm.length c7) := by rw [hX7]; simp [go_sem]
      have hcX : CatsAt X7 p7 xm := hc7.below hbX7
      have RM := right_rise hrm
      have hxm : xm.length ≤ maxLen := by have := RM.2.2.1; unfold maxLen; omega
      have hlm := right_lim (right_rok hrm)
      have hbY : Below X7.heap.size X7 (X7.alloc (.cells #[.int .i64 dm, .slice p7 xm.length c7] 24)) := (Below.refl _ _).alloc (Nat.le_refl _) _
      have hRm := right_any X7.heap.size [⟨dm, p7, c7, xm⟩] _ (by simp) (by simp) (labs1 (A := ⟨dm, p7, c7, xm⟩) (World.alloc_heap_new X7 _) ⟨hcX.below hbY, hxm⟩)
      simp only [List.length_cons, List.length_nil, Nat.zero_add, allRight, List.all_cons, List.all_nil, Bool.and_true] at hRm
      rw [hrm] at hRm
      have hBX : Below w.heap.size w X7 := hB7.trans (hbX7.mono hB7.size)
      have H40m : Hid (∀ W, CatsAt W p7 xm → Calls Tryd.prog 8 #[.agg #[.int .i64 dm, .slice p7 xm.length c7]] W fun e w' => e = .returned (.string s) ∧ Below W.heap.size W w') := fun W h => by
        rw [← hbm]; exact rText1_any dm p7 c7 xm W ⟨RM.2.2.2.1, RM.2.2.2.2⟩ RM.2.2.1 (fun x hx => ⟨(hlm x hx).1.1, (hlm x hx).1.2, (hlm x hx).2.1, (hlm x hx).2.2⟩) h
      have z7 : w7.heap.size < X7.heap.size := by omega
      clear H39s hb7 hc7 hbm hlm RM hrm
      go_wp2_with (go_at_call 5; rw [← hX7, ← hzX7]; refine hRm.mono ?_; rintro e w8 ⟨rfl, hb8⟩; refine Hid.out ?_)
      refine Lib.hid ?_
      have hb78 : Below X7.heap.size X7 w8 := hbY.trans (hb8.mono hbY.size)
      have q0 := (hb78.cell (p := ⟨w7.heap.size, 0, none⟩) z7).trans k0
      have q1 := (hb78.cell (p := ⟨w7.heap.size, 1, none⟩) z7).trans k1
      have hc8 := hcX.below hb78
      have hB8 : Below w.heap.size w w8 := hBX.trans (hb78.mono hBX.size)
      clear hRm k0 k1 hX7 hbY
      go_wp2_with (go_at_call 8; refine Calls.mono (H40m.out _ hc8) ?_; rintro e w9 ⟨rfl, hb9⟩)
      go_ret
      exact ⟨ret_bool (by simp), hB8.trans (hb9.mono hB8.size)⟩
  · have hr' : allRight [A] = false := by simpa using hr
    rw [hr'] at hR
    go_wp2_with (go_at_call 5; refine hR.mono ?_; rintro e w6 ⟨rfl, hb2⟩; refine Hid.out ?_)
    refine Lib.hid ?_
    have hB6 : Below w.heap.size w w6 := hbA.trans (hb2.mono hbA.size)
    clear hR hr hr' d0 d1 ha
    rcases RC.out with H39s | ⟨dm, xm, hrm, hbm, H39s⟩
    · clear RC
      go_wp2_with (go_at_call 7; refine Calls.mono (H39s.out _ (HE.out _ hB6)) ?_; rintro e w7 ⟨p7, c7, rfl, hb7⟩; refine Hid.out ?_)
      refine Lib.hid ?_
      have hB7 : Below w.heap.size w w7 := hB6.trans (hb7.mono hB6.size)
      have hb7X : Below w7.heap.size w7 (w7.alloc (.cells #[.int .i64 0, .slice p7 0 c7] 24)) := (Below.refl _ _).alloc (Nat.le_refl _) _
      have H20 : Hid (∀ W, Calls Tryd.prog 9 #[.agg #[.int .i64 0, .slice p7 0 c7], .agg #[.int .i64 0, .slice none 0 0]] W fun e w' => e = .returned (.bool true) ∧ Below W.heap.size W w') := fun W => by
        have := Same_any 0 0 p7 none c7 0 [] [] W (by simp [maxLen]) (by simp [maxLen]) (fun j hj => by simp at hj) (fun j hj => by simp at hj)
        rw [same_self] at this; exact this
      clear H39s hb7
      go_wp2_with (go_at_call 9; refine Calls.mono (H20.out _) ?_; rintro e w8 ⟨rfl, hb8⟩)
      go_ret
      exact ⟨ret_bool (by simp), hB7.trans ((hb7X.trans (hb8.mono hb7X.size)).mono hB7.size)⟩
    · clear RC
      go_wp2_with (go_at_call 7; refine Calls.mono (H39s.out _ (HE.out _ hB6)) ?_; rintro e w7 ⟨p7, c7, rfl, hc7, hb7⟩; refine Hid.out ?_)
      refine Lib.hid ?_
      have hB7 : Below w.heap.size w w7 := hB6.trans (hb7.mono hB6.size)
      obtain ⟨X7, hX7⟩ : ∃ X, X = w7.alloc (.cells #[.int .i64 dm, .slice p7 xm.length c7] 24) := ⟨_, rfl⟩
      have hbX7 : Below w7.heap.size w7 X7 := by rw [hX7]; exact (Below.refl _ _).alloc (Nat.le_refl _) _
      have hzX7 : X7.heap.size = w7.heap.size + 1 := by rw [hX7]; simp
      have k0 : X7.cell? ⟨w7.heap.size, 0, none⟩ = some (.int .i64 dm) := by rw [hX7]; simp [go_sem]
      have k1 : X7.cell? ⟨w7.heap.size, 1, none⟩ = some (.slice p7 xm.length c7) := by rw [hX7]; simp [go_sem]
      have hcX : CatsAt X7 p7 xm := hc7.below hbX7
      have RM := right_rise hrm
      have hxm : xm.length ≤ maxLen := by have := RM.2.2.1; unfold maxLen; omega
      have hlm := right_lim (right_rok hrm)
      have hbY : Below X7.heap.size X7 (X7.alloc (.cells #[.int .i64 dm, .slice p7 xm.length c7] 24)) := (Below.refl _ _).alloc (Nat.le_refl _) _
      have hRm := right_any X7.heap.size [⟨dm, p7, c7, xm⟩] _ (by simp) (by simp) (labs1 (A := ⟨dm, p7, c7, xm⟩) (World.alloc_heap_new X7 _) ⟨hcX.below hbY, hxm⟩)
      simp only [List.length_cons, List.length_nil, Nat.zero_add, allRight, List.all_cons, List.all_nil, Bool.and_true] at hRm
      rw [hrm] at hRm
      have hBX : Below w.heap.size w X7 := hB7.trans (hbX7.mono hB7.size)
      have H40m : Hid (∀ W, CatsAt W p7 xm → Calls Tryd.prog 8 #[.agg #[.int .i64 dm, .slice p7 xm.length c7]] W fun e w' => e = .returned (.string s) ∧ Below W.heap.size W w') := fun W h => by
        rw [← hbm]; exact rText1_any dm p7 c7 xm W ⟨RM.2.2.2.1, RM.2.2.2.2⟩ RM.2.2.1 (fun x hx => ⟨(hlm x hx).1.1, (hlm x hx).1.2, (hlm x hx).2.1, (hlm x hx).2.2⟩) h
      have z7 : w7.heap.size < X7.heap.size := by omega
      clear H39s hb7 hc7 hbm hlm RM hrm
      go_wp2_with (go_at_call 5; rw [← hX7, ← hzX7]; refine hRm.mono ?_; rintro e w8 ⟨rfl, hb8⟩; refine Hid.out ?_)
      refine Lib.hid ?_
      have hb78 : Below X7.heap.size X7 w8 := hbY.trans (hb8.mono hbY.size)
      have q0 := (hb78.cell (p := ⟨w7.heap.size, 0, none⟩) z7).trans k0
      have q1 := (hb78.cell (p := ⟨w7.heap.size, 1, none⟩) z7).trans k1
      have hc8 := hcX.below hb78
      have hB8 : Below w.heap.size w w8 := hBX.trans (hb78.mono hBX.size)
      clear hRm k0 k1 hX7 hbY
      go_wp2_with (go_at_call 8; refine Calls.mono (H40m.out _ hc8) ?_; rintro e w9 ⟨rfl, hb9⟩)
      go_ret
      exact ⟨ret_bool (by simp), hB8.trans (hb9.mono hB8.size)⟩

end Go.Proofs.YtfpjeclbilhgdaaDoor
