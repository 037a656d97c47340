/- The law of a kernel's begin. -/
import Derived.Test.YtmgfakfiiaeofaaGreatSq
import Derived.Test.YtmgfakfiiaeofaaGreatKBoot
import Derived.Test.YtmgfakfiiaeofaaGreatRKNew
import Derived.Test.YtmgfakfiiaeofaaGreatKLives
namespace Go.Proofs.YtmgfakfiiaeofaaGreat
open Go.RowKit Go.Sort
theorem beqc (a b : Int) : (a == b) = (b == a) := by
 by_cases h : a = b
 · subst h; rfl
 · rw [beq_eq_false_iff_ne.2 h, beq_eq_false_iff_ne.2 (Ne.symm h)]
theorem drawn_eq (r c t n : Int) : Ho.inB [r, c, t] n = (n == r || n == c || n == t) := by
 unfold Ho.inB
 simp only [List.any_cons, List.any_nil, Bool.or_false]
 rw [beqc r n, beqc c n, beqc t n, Bool.or_assoc]
set_option maxRecDepth 100000 in
set_option maxHeartbeats 8000000 in
theorem KernBoots_any (r c t n : Int) (hn : Wa.i64 n) (w : World) : Calls Tryz.prog 3 #[.agg #[.int .i64 r, .int .i64 c, .int .i64 t], .int .i64 n] w fun e w' => e = .returned (.bool true) /\ Below w.heap.size w w' := by
 obtain ⟨W0, hW0⟩ : ∃ W0, w.alloc (.cells #[.int .i64 r, .int .i64 c, .int .i64 t] 23) = W0 := ⟨_, rfl⟩
 have hb0 : Below w.heap.size w W0 := by rw [<- hW0]; exact (Below.refl _ _).alloc (Nat.le_refl _) _
 have hi0 : W0.heap[w.heap.size]? = some (.cells #[.int .i64 r, .int .i64 c, .int .i64 t] 23 (0, 0)) := by rw [<- hW0]; exact heap_alloc_new _ _
 obtain ⟨b1, hb1⟩ : ∃ b1, w.heap.size = b1 := ⟨_, rfl⟩
 have HB0 := Lib.hid hb0
 have Hi0 := Lib.hid (by rw [hb1] at hi0; exact hi0)
 go_enter Tryz.func3, Tryz.ntmps3
 go_upto_region 1 with fail
 try rw [hW0]
 try rw [hb1]
 have Hb1 := Lib.hid hb1
 have HQ : Hid (∀ X, Below W0.heap.size W0 X -> X.cell? ⟨b1, 0, none⟩ = some (.int .i64 r) /\ X.cell? ⟨b1, 1, none⟩ = some (.int .i64 c) /\ X.cell? ⟨b1, 2, none⟩ = some (.int .i64 t)) := Lib.hid (fun X hX => by
  have e := (hX.block b1 (Array.getElem?_eq_some_iff.1 Hi0.out).1).trans Hi0.out
  exact ⟨by simp [World.cell?, e], by simp [World.cell?, e], by simp [World.cell?, e]⟩)
 clear hW0 hb0 hi0 hb1 Hi0
 go_wp2_with (go_at_call 4; refine (lives_any _).mono ?_; rintro e W1 ⟨rfl, hB1⟩; refine Hid.out ?_)
 refine Lib.hid ?_
 obtain ⟨q0, q1, q2⟩ := HQ.out W1 hB1
 have HB1 := Lib.hid hB1
 clear hB1
 cases hbt : bootB r c t with
 | false =>
  have HN := Lib.hid (New_no r c t W1 hbt)
  have HR := Lib.hid (fun X => rNew_no r c t X hbt)
  clear hbt
  go_wp2_with (go_at_call 5; refine HN.out.mono ?_; rintro e W2 ⟨rfl, hB2⟩; refine Hid.out ?_)
  refine Lib.hid ?_
  have HB2 : Hid (Below W0.heap.size W0 W2) := Lib.hid (HB1.out.trans (hB2.mono HB1.out.size))
  clear q0 q1 q2 hB2
  obtain ⟨q0, q1, q2⟩ := HQ.out W2 HB2.out
  go_wp2_with (go_at_call 6; refine (HR.out _).mono ?_; rintro e W3 ⟨rfl, hB3⟩; refine Hid.out ?_)
  refine Lib.hid ?_
  have HB3 : Hid (Below w.heap.size w W3) := Lib.hid (by
   have h5 : Below W0.heap.size W0 W3 := HB2.out.trans (hB3.mono HB2.out.size)
   have h6 := HB0.out.trans (h5.mono HB0.out.size)
   exact h6)
  clear hB3
  go_wp2
  go_ret
  exact ⟨rfl, HB3.out⟩
 | true =>
  have hg : Good3 r c t := by unfold bootB at hbt; simpa [Good3] using hbt
  have HN := Lib.hid (New_any r c t W1 hg.1 hg.2.1 hg.2.2.1 hg.2.2.2.1 hg.2.2.2.2.1 hg.2.2.2.2.2)
  have HR := Lib.hid (fun X => kNew_any r c t X hbt)
  have HG := Lib.hid hg
  clear hbt hg
  go_wp2_with (go_at_call 5; refine HN.out.mono ?_; rintro e W2 ⟨K, rfl, hK, hF, hB2, hD⟩; refine Hid.out ?_)
  refine Lib.hid ?_
  have HB2 : Hid (Below W0.heap.size W0 W2) := Lib.hid (HB1.out.trans (hB2.mono HB1.out.size))
  have Hz2 := Lib.hid hB2.size
  have HK := Lib.hid hK
  have HF := Lib.hid hF
  have HD := Lib.hid hD
  clear q0 q1 q2 hB2 hK hF hD
  obtain ⟨q0, q1, q2⟩ := HQ.out W2 HB2.out
  go_wp2_with (go_at_call 6; refine (HR.out _).mono ?_; rintro e W3 ⟨kb, rb, rm, dr, al, rfl, hR, hA, hB3⟩; refine Hid.out ?_)
  refine Lib.hid ?_
  have HB3 : Hid (Below w.heap.size w W3) := Lib.hid (by
   have h5 : Below W0.heap.size W0 W3 := HB2.out.trans (hB3.mono HB2.out.size)
   have h6 := HB0.out.trans (h5.mono HB0.out.size)
   exact h6)
  have HBth : Hid (Bth W1.heap.size W3 K r c t kb rb rm dr al) := Lib.hid ⟨HK.out.below hB3, HF.out, HD.out.below hB3, hR.mono Hz2.out, hA⟩
  have HS : Hid (K.S n = Ho.inB [r, c, t] n) := Lib.hid (by rw [drawn_eq]; exact HF.out.S n)
  have HDr : Hid (∀ X, Below W3.heap.size W3 X -> Ho.IntsAt X (some ⟨dr, 0, none⟩) [r, c, t]) := Lib.hid (fun X hX => by
   have h5 := (HBth.out.below hX).hR.drw
   intro j hj
   refine ⟨dr, 0, rfl, (Array.getElem?_eq_some_iff.1 h5).1, ?_⟩
   simp only [World.cell?, h5, Nat.zero_add]
   match j, hj with
   | 0, _ => rfl
   | 1, _ => rfl
   | 2, _ => rfl)
  have HC3 : Hid (∀ X, Below W3.heap.size W3 X -> X.cell? ⟨kb, 3, none⟩ = some (.slice (some ⟨dr, 0, none⟩) 3 3)) := Lib.hid (fun X hX => by
   have := (HBth.out.below hX).hR.ker
   simp [World.cell?, this])
  clear q0 q1 q2 hB3 hR hA HN HR HQ
  go_upto_region 7 with fail
  refine Ko.wp_region_monoT 19 19 (fun kq uq Xq => match kq with | 25 => uq = .int .i64 0 | 26 => uq = .bool true | 27 => uq = .bool true | 28 => uq = .pointer (some ⟨K.kb, 0, none⟩) | 29 => uq = .pointer (some ⟨kb, 0, none⟩) | 30 => uq = .bool true | 31 => uq = .bool true | 32 => uq = .bool true | 33 => uq = .pointer (some ⟨K.kb, 0, none⟩) | 34 => uq = .int .i64 n | 35 => uq = .bool (K.S n) | 36 => uq = .pointer (some ⟨kb, 0, none⟩) | 37 => uq = .pointer (some ⟨kb, 0, none⟩) | 38 => uq = .pointer (some ⟨kb, 3, none⟩) | 39 => uq = .slice (some ⟨dr, 0, none⟩) 3 3 | 40 => uq = .int .i64 n | 41 => uq = .bool (K.S n) | 42 => uq = .bool true | 43 => uq = .bool true | _ => True) (by kernel_rfl) (by kernel_rfl) (by kernel_rfl) (by kernel_rfl) (by simp) (by kernel_rfl) ?_ ?_ ?_
  · intro kq v W W' h hb
    revert h
    try dsimp only
    split
    · intro h; exact h
    · intro h; exact h
    · intro h; exact h
    · intro h; exact h
    · intro h; exact h
    · intro h; exact h
    · intro h; exact h
    · intro h; exact h
    · intro h; exact h
    · intro h; exact h
    · intro h; exact h
    · intro h; exact h
    · intro h; exact h
    · intro h; exact h
    · intro h; exact h
    · intro h; exact h
    · intro h; exact h
    · intro h; exact h
    · intro h; exact h
    · intro h; trivial
  · intro a' X hB hs hk i o d ho hd hG
    match i, ho with
    | 0, ho =>
     cases ho
     obtain rfl : 25 = d := Option.some.inj hd
     have g6 : a'.eval (.tmp 6) = .int .i64 0 := hk 6 (by kernel_rfl)
     generalize a'.eval = ev at g6 |-
     clear hG hk
     have q3 := HC3.out X hB
     exact .inr ⟨rfl, .inl ⟨.int .i64 0, X, by clear hs; go_simp, Below.refl _ _, rfl⟩⟩
    | 1, ho =>
     cases ho
     obtain rfl : 26 = d := Option.some.inj hd
     have g25 : a'.eval (.tmp 25) = .int .i64 0 := hG ⟨0, .data⟩ (by simp) rfl 25 rfl
     have k0 : a'.eval (.const (.int .i64 0)) = (.int .i64 0) := rfl
     generalize a'.eval = ev at g25 k0 |-
     clear hG hk
     have q3 := HC3.out X hB
     exact .inr ⟨rfl, .inl ⟨.bool true, X, by clear hs; go_simp, Below.refl _ _, rfl⟩⟩
    | 2, ho =>
     cases ho
     obtain rfl : 27 = d := Option.some.inj hd
     have g26 : a'.eval (.tmp 26) = .bool true := hG ⟨1, .data⟩ (by simp) rfl 26 rfl
     generalize a'.eval = ev at g26 |-
     clear hG hk
     have q3 := HC3.out X hB
     exact .inr ⟨rfl, .inl ⟨.bool true, X, by clear hs; go_simp, Below.refl _ _, rfl⟩⟩
    | 3, ho =>
     cases ho
     obtain rfl : 28 = d := Option.some.inj hd
     have g5 : a'.eval (.tmp 5) = .pointer (some ⟨K.kb, 0, none⟩) := hk 5 (by kernel_rfl)
     have gg : a'.eval (.tmp 27) = .bool true := hG ⟨2, .guard⟩ (by simp) rfl 27 rfl
     refine .inr ⟨Pa.want_yes (n := 44) (d := 27) rfl hs (by decide) rfl gg, .inl ⟨.pointer (some ⟨K.kb, 0, none⟩), X, ?_, Below.refl _ _, rfl⟩⟩
     generalize a'.eval = ev at g5 |-
     clear hG hk hs gg
     have q3 := HC3.out X hB
     go_simp
    | 4, ho =>
     cases ho
     obtain rfl : 29 = d := Option.some.inj hd
     have g7 : a'.eval (.tmp 7) = .pointer (some ⟨kb, 0, none⟩) := hk 7 (by kernel_rfl)
     have gg : a'.eval (.tmp 27) = .bool true := hG ⟨2, .guard⟩ (by simp) rfl 27 rfl
     refine .inr ⟨Pa.want_yes (n := 44) (d := 27) rfl hs (by decide) rfl gg, .inl ⟨.pointer (some ⟨kb, 0, none⟩), X, ?_, Below.refl _ _, rfl⟩⟩
     generalize a'.eval = ev at g7 |-
     clear hG hk hs gg
     have q3 := HC3.out X hB
     go_simp
    | 5, ho =>
     cases ho
     obtain rfl : 30 = d := Option.some.inj hd
     have g28 : a'.eval (.tmp 28) = .pointer (some ⟨K.kb, 0, none⟩) := hG ⟨3, .data⟩ (by simp) rfl 28 rfl
     have g29 : a'.eval (.tmp 29) = .pointer (some ⟨kb, 0, none⟩) := hG ⟨4, .data⟩ (by simp) rfl 29 rfl
     have gg : a'.eval (.tmp 27) = .bool true := hG ⟨2, .guard⟩ (by simp) rfl 27 rfl
     refine .inr ⟨Pa.want_yes (n := 44) (d := 27) rfl hs (by decide) rfl gg, .inr ⟨7, #[.pointer (some ⟨K.kb, 0, none⟩), .pointer (some ⟨kb, 0, none⟩)], ?_, ?_⟩⟩
     · have gF : a'.eval (.func 7) = .func (.func 7) #[] #[] := rfl
       generalize a'.eval = ev at gF g28 g29 |-
       exact exec_call2 rfl gF g28 g29 (enters_of Tryz.func7 (by kernel_rfl) rfl)
     · exact (told_any (HBth.out.below hB) HG.out).mono fun e W' ⟨he, hb⟩ => ⟨_, he, hb, rfl⟩
    | 6, ho =>
     cases ho
     obtain rfl : 31 = d := Option.some.inj hd
     have g27 : a'.eval (.tmp 27) = .bool true := hG ⟨2, .data⟩ (by simp) rfl 27 rfl
     have g30 : a'.eval (.tmp 30) = .bool true := hG ⟨5, .data⟩ (by simp) rfl 30 rfl
     have k0 : a'.eval (.const (.bool false)) = (.bool false) := rfl
     generalize a'.eval = ev at g27 g30 k0 |-
     clear hG hk
     have q3 := HC3.out X hB
     exact .inr ⟨rfl, .inl ⟨.bool true, X, by clear hs; go_simp, Below.refl _ _, rfl⟩⟩
    | 7, ho =>
     cases ho
     obtain rfl : 32 = d := Option.some.inj hd
     have g31 : a'.eval (.tmp 31) = .bool true := hG ⟨6, .data⟩ (by simp) rfl 31 rfl
     generalize a'.eval = ev at g31 |-
     clear hG hk
     have q3 := HC3.out X hB
     exact .inr ⟨rfl, .inl ⟨.bool true, X, by clear hs; go_simp, Below.refl _ _, rfl⟩⟩
    | 8, ho =>
     cases ho
     obtain rfl : 33 = d := Option.some.inj hd
     have g5 : a'.eval (.tmp 5) = .pointer (some ⟨K.kb, 0, none⟩) := hk 5 (by kernel_rfl)
     have gg : a'.eval (.tmp 32) = .bool true := hG ⟨7, .guard⟩ (by simp) rfl 32 rfl
     refine .inr ⟨Pa.want_yes (n := 44) (d := 32) rfl hs (by decide) rfl gg, .inl ⟨.pointer (some ⟨K.kb, 0, none⟩), X, ?_, Below.refl _ _, rfl⟩⟩
     generalize a'.eval = ev at g5 |-
     clear hG hk hs gg
     have q3 := HC3.out X hB
     go_simp
    | 9, ho =>
     cases ho
     obtain rfl : 34 = d := Option.some.inj hd
     have g1 : a'.eval (.tmp 1) = .int .i64 n := hk 1 (by kernel_rfl)
     have gg : a'.eval (.tmp 32) = .bool true := hG ⟨7, .guard⟩ (by simp) rfl 32 rfl
     refine .inr ⟨Pa.want_yes (n := 44) (d := 32) rfl hs (by decide) rfl gg, .inl ⟨.int .i64 n, X, ?_, Below.refl _ _, rfl⟩⟩
     generalize a'.eval = ev at g1 |-
     clear hG hk hs gg
     have q3 := HC3.out X hB
     go_simp
    | 10, ho =>
     cases ho
     obtain rfl : 35 = d := Option.some.inj hd
     have g33 : a'.eval (.tmp 33) = .pointer (some ⟨K.kb, 0, none⟩) := hG ⟨8, .data⟩ (by simp) rfl 33 rfl
     have g34 : a'.eval (.tmp 34) = .int .i64 n := hG ⟨9, .data⟩ (by simp) rfl 34 rfl
     have gg : a'.eval (.tmp 32) = .bool true := hG ⟨7, .guard⟩ (by simp) rfl 32 rfl
     refine .inr ⟨Pa.want_yes (n := 44) (d := 32) rfl hs (by decide) rfl gg, .inr ⟨8, #[.pointer (some ⟨K.kb, 0, none⟩), .int .i64 n], ?_, ?_⟩⟩
     · have gF : a'.eval (.func 8) = .func (.func 8) #[] #[] := rfl
       generalize a'.eval = ev at gF g33 g34 |-
       exact exec_call2 rfl gF g33 g34 (enters_of Tryz.func8 (by kernel_rfl) rfl)
     · exact (Drawn_any (HBth.out.below hB).hK n hn).mono fun e W' ⟨he, hb⟩ => ⟨_, he, hb, rfl⟩
    | 11, ho =>
     cases ho
     obtain rfl : 36 = d := Option.some.inj hd
     have g7 : a'.eval (.tmp 7) = .pointer (some ⟨kb, 0, none⟩) := hk 7 (by kernel_rfl)
     have gg : a'.eval (.tmp 32) = .bool true := hG ⟨7, .guard⟩ (by simp) rfl 32 rfl
     refine .inr ⟨Pa.want_yes (n := 44) (d := 32) rfl hs (by decide) rfl gg, .inl ⟨.pointer (some ⟨kb, 0, none⟩), X, ?_, Below.refl _ _, rfl⟩⟩
     generalize a'.eval = ev at g7 |-
     clear hG hk hs gg
     have q3 := HC3.out X hB
     go_simp
    | 12, ho =>
     cases ho
     obtain rfl : 37 = d := Option.some.inj hd
     have g36 : a'.eval (.tmp 36) = .pointer (some ⟨kb, 0, none⟩) := hG ⟨11, .data⟩ (by simp) rfl 36 rfl
     have gg : a'.eval (.tmp 32) = .bool true := hG ⟨7, .guard⟩ (by simp) rfl 32 rfl
     refine .inr ⟨Pa.want_yes (n := 44) (d := 32) rfl hs (by decide) rfl gg, .inl ⟨.pointer (some ⟨kb, 0, none⟩), X, ?_, Below.refl _ _, rfl⟩⟩
     generalize a'.eval = ev at g36 |-
     clear hG hk hs gg
     have q3 := HC3.out X hB
     go_simp
    | 13, ho =>
     cases ho
     obtain rfl : 38 = d := Option.some.inj hd
     have g37 : a'.eval (.tmp 37) = .pointer (some ⟨kb, 0, none⟩) := hG ⟨12, .data⟩ (by simp) rfl 37 rfl
     have gg : a'.eval (.tmp 32) = .bool true := hG ⟨7, .guard⟩ (by simp) rfl 32 rfl
     refine .inr ⟨Pa.want_yes (n := 44) (d := 32) rfl hs (by decide) rfl gg, .inl ⟨.pointer (some ⟨kb, 3, none⟩), X, ?_, Below.refl _ _, rfl⟩⟩
     generalize a'.eval = ev at g37 |-
     clear hG hk hs gg
     have q3 := HC3.out X hB
     go_simp
    | 14, ho =>
     cases ho
     obtain rfl : 39 = d := Option.some.inj hd
     have g38 : a'.eval (.tmp 38) = .pointer (some ⟨kb, 3, none⟩) := hG ⟨13, .data⟩ (by simp) rfl 38 rfl
     have gg : a'.eval (.tmp 32) = .bool true := hG ⟨7, .guard⟩ (by simp) rfl 32 rfl
     refine .inr ⟨Pa.want_yes (n := 44) (d := 32) rfl hs (by decide) rfl gg, .inl ⟨.slice (some ⟨dr, 0, none⟩) 3 3, X, ?_, Below.refl _ _, rfl⟩⟩
     generalize a'.eval = ev at g38 |-
     clear hG hk hs gg
     have q3 := HC3.out X hB
     go_simp
    | 15, ho =>
     cases ho
     obtain rfl : 40 = d := Option.some.inj hd
     have g1 : a'.eval (.tmp 1) = .int .i64 n := hk 1 (by kernel_rfl)
     have gg : a'.eval (.tmp 32) = .bool true := hG ⟨7, .guard⟩ (by simp) rfl 32 rfl
     refine .inr ⟨Pa.want_yes (n := 44) (d := 32) rfl hs (by decide) rfl gg, .inl ⟨.int .i64 n, X, ?_, Below.refl _ _, rfl⟩⟩
     generalize a'.eval = ev at g1 |-
     clear hG hk hs gg
     have q3 := HC3.out X hB
     go_simp
    | 16, ho =>
     cases ho
     obtain rfl : 41 = d := Option.some.inj hd
     have g39 : a'.eval (.tmp 39) = .slice (some ⟨dr, 0, none⟩) 3 3 := hG ⟨14, .data⟩ (by simp) rfl 39 rfl
     have g40 : a'.eval (.tmp 40) = .int .i64 n := hG ⟨15, .data⟩ (by simp) rfl 40 rfl
     have gg : a'.eval (.tmp 32) = .bool true := hG ⟨7, .guard⟩ (by simp) rfl 32 rfl
     refine .inr ⟨Pa.want_yes (n := 44) (d := 32) rfl hs (by decide) rfl gg, .inr ⟨9, #[.slice (some ⟨dr, 0, none⟩) 3 3, .int .i64 n], ?_, ?_⟩⟩
     · have gF : a'.eval (.func 9) = .func (.func 9) #[] #[] := rfl
       generalize a'.eval = ev at gF g39 g40 |-
       exact exec_call2 rfl gF g39 g40 (enters_of Tryz.func9 (by kernel_rfl) rfl)
     · exact (Ho.In_any X (some ⟨dr, 0, none⟩) 3 [r, c, t] n (HDr.out X hB) (by show 3 < 1000000; decide)).mono fun e W' ⟨he, hw⟩ => ⟨_, he, by first | exact hw | (rw [hw]; exact Below.refl _ _), by show Value.bool (Ho.inB [r, c, t] n) = Value.bool (K.S n); rw [HS.out]⟩
    | 17, ho =>
     cases ho
     obtain rfl : 42 = d := Option.some.inj hd
     have g35 : a'.eval (.tmp 35) = .bool (K.S n) := hG ⟨10, .data⟩ (by simp) rfl 35 rfl
     have g41 : a'.eval (.tmp 41) = .bool (K.S n) := hG ⟨16, .data⟩ (by simp) rfl 41 rfl
     have gg : a'.eval (.tmp 32) = .bool true := hG ⟨7, .guard⟩ (by simp) rfl 32 rfl
     refine .inr ⟨Pa.want_yes (n := 44) (d := 32) rfl hs (by decide) rfl gg, .inl ⟨.bool true, X, ?_, Below.refl _ _, rfl⟩⟩
     generalize a'.eval = ev at g35 g41 |-
     clear hG hk hs gg
     have q3 := HC3.out X hB
     go_simp
    | 18, ho =>
     cases ho
     obtain rfl : 43 = d := Option.some.inj hd
     have g32 : a'.eval (.tmp 32) = .bool true := hG ⟨7, .data⟩ (by simp) rfl 32 rfl
     have g42 : a'.eval (.tmp 42) = .bool true := hG ⟨17, .data⟩ (by simp) rfl 42 rfl
     have k0 : a'.eval (.const (.bool false)) = (.bool false) := rfl
     generalize a'.eval = ev at g32 g42 k0 |-
     clear hG hk
     have q3 := HC3.out X hB
     exact .inr ⟨rfl, .inl ⟨.bool true, X, by clear hs; go_simp, Below.refl _ _, rfl⟩⟩
    | j + 19, ho => simp at ho
  · intro a' X hB hs hdf hk hG
    obtain ⟨tm, df⟩ := a'
    obtain rfl : df = [] := hdf
    have g25 : (tm.getD 25 undef) = .int .i64 0 := hG 0 25 (by decide) rfl
    have g26 : (tm.getD 26 undef) = .bool true := hG 1 26 (by decide) rfl
    have g27 : (tm.getD 27 undef) = .bool true := hG 2 27 (by decide) rfl
    have g28 : (tm.getD 28 undef) = .pointer (some ⟨K.kb, 0, none⟩) := hG 3 28 (by decide) rfl
    have g29 : (tm.getD 29 undef) = .pointer (some ⟨kb, 0, none⟩) := hG 4 29 (by decide) rfl
    have g30 : (tm.getD 30 undef) = .bool true := hG 5 30 (by decide) rfl
    have g31 : (tm.getD 31 undef) = .bool true := hG 6 31 (by decide) rfl
    have g32 : (tm.getD 32 undef) = .bool true := hG 7 32 (by decide) rfl
    have g33 : (tm.getD 33 undef) = .pointer (some ⟨K.kb, 0, none⟩) := hG 8 33 (by decide) rfl
    have g34 : (tm.getD 34 undef) = .int .i64 n := hG 9 34 (by decide) rfl
    have g35 : (tm.getD 35 undef) = .bool (K.S n) := hG 10 35 (by decide) rfl
    have g36 : (tm.getD 36 undef) = .pointer (some ⟨kb, 0, none⟩) := hG 11 36 (by decide) rfl
    have g37 : (tm.getD 37 undef) = .pointer (some ⟨kb, 0, none⟩) := hG 12 37 (by decide) rfl
    have g38 : (tm.getD 38 undef) = .pointer (some ⟨kb, 3, none⟩) := hG 13 38 (by decide) rfl
    have g39 : (tm.getD 39 undef) = .slice (some ⟨dr, 0, none⟩) 3 3 := hG 14 39 (by decide) rfl
    have g40 : (tm.getD 40 undef) = .int .i64 n := hG 15 40 (by decide) rfl
    have g41 : (tm.getD 41 undef) = .bool (K.S n) := hG 16 41 (by decide) rfl
    have g42 : (tm.getD 42 undef) = .bool true := hG 17 42 (by decide) rfl
    have g43 : (tm.getD 43 undef) = .bool true := hG 18 43 (by decide) rfl
    have htm := arr3 [.agg #[.int .i64 r, .int .i64 c, .int .i64 t], .int .i64 n, .pointer (some ⟨b1, 0, none⟩), undef, .bool false, .pointer (some ⟨K.kb, 0, none⟩), .int .i64 0, .pointer (some ⟨kb, 0, none⟩), .bool true, .bool false, .tuple #[.pointer (some ⟨K.kb, 0, none⟩), .int .i64 0], .agg #[.int .i64 r, .int .i64 c, .int .i64 t], .tuple #[.pointer (some ⟨K.kb, 0, none⟩), .int .i64 0], .pointer (some ⟨K.kb, 0, none⟩), .int .i64 0, .agg #[.int .i64 r, .int .i64 c, .int .i64 t], .pointer (some ⟨kb, 0, none⟩), .pointer (some ⟨kb, 0, none⟩), .bool false, undef, undef, undef, undef, undef, undef, tm.getD 25 undef, tm.getD 26 undef, tm.getD 27 undef, tm.getD 28 undef, tm.getD 29 undef, tm.getD 30 undef, tm.getD 31 undef, tm.getD 32 undef, tm.getD 33 undef, tm.getD 34 undef, tm.getD 35 undef, tm.getD 36 undef, tm.getD 37 undef, tm.getD 38 undef, tm.getD 39 undef, tm.getD 40 undef, tm.getD 41 undef, tm.getD 42 undef, tm.getD 43 undef] hs (ae 1 (by exact hk 0 rfl) (ae 2 (by exact hk 1 rfl) (ae 3 (by exact hk 2 rfl) (ae 4 (by exact hk 3 rfl) (ae 5 (by exact hk 4 rfl) (ae 6 (by exact hk 5 rfl) (ae 7 (by exact hk 6 rfl) (ae 8 (by exact hk 7 rfl) (ae 9 (by exact hk 8 rfl) (ae 10 (by exact hk 9 rfl) (ae 11 (by exact hk 10 rfl) (ae 12 (by exact hk 11 rfl) (ae 13 (by exact hk 12 rfl) (ae 14 (by exact hk 13 rfl) (ae 15 (by exact hk 14 rfl) (ae 16 (by exact hk 15 rfl) (ae 17 (by exact hk 16 rfl) (ae 18 (by exact hk 17 rfl) (ae 19 (by exact hk 18 rfl) (ae 20 (by exact hk 19 rfl) (ae 21 (by exact hk 20 rfl) (ae 22 (by exact hk 21 rfl) (ae 23 (by exact hk 22 rfl) (ae 24 (by exact hk 23 rfl) (ae 25 (by exact hk 24 rfl) (ae 26 rfl (ae 27 rfl (ae 28 rfl (ae 29 rfl (ae 30 rfl (ae 31 rfl (ae 32 rfl (ae 33 rfl (ae 34 rfl (ae 35 rfl (ae 36 rfl (ae 37 rfl (ae 38 rfl (ae 39 rfl (ae 40 rfl (ae 41 rfl (ae 42 rfl (ae 43 rfl (ae 44 rfl az))))))))))))))))))))))))))))))))))))))))))))
    clear hs hk hG
    generalize tm.getD 25 undef = t25 at htm g25
    generalize tm.getD 26 undef = t26 at htm g26
    generalize tm.getD 27 undef = t27 at htm g27
    generalize tm.getD 28 undef = t28 at htm g28
    generalize tm.getD 29 undef = t29 at htm g29
    generalize tm.getD 30 undef = t30 at htm g30
    generalize tm.getD 31 undef = t31 at htm g31
    generalize tm.getD 32 undef = t32 at htm g32
    generalize tm.getD 33 undef = t33 at htm g33
    generalize tm.getD 34 undef = t34 at htm g34
    generalize tm.getD 35 undef = t35 at htm g35
    generalize tm.getD 36 undef = t36 at htm g36
    generalize tm.getD 37 undef = t37 at htm g37
    generalize tm.getD 38 undef = t38 at htm g38
    generalize tm.getD 39 undef = t39 at htm g39
    generalize tm.getD 40 undef = t40 at htm g40
    generalize tm.getD 41 undef = t41 at htm g41
    generalize tm.getD 42 undef = t42 at htm g42
    generalize tm.getD 43 undef = t43 at htm g43
    subst htm
    subst g25
    subst g26
    subst g27
    subst g28
    subst g29
    subst g30
    subst g31
    subst g32
    subst g33
    subst g34
    subst g35
    subst g36
    subst g37
    subst g38
    subst g39
    subst g40
    subst g41
    subst g42
    subst g43
    simp only [List.drop_succ_cons, List.drop_zero]
    have HBE : Hid (Below w.heap.size w X) := Lib.hid (HB3.out.trans (hB.mono HB3.out.size))
    clear hB
    go_wp2
    go_ret
    exact ⟨rfl, HBE.out⟩
end Go.Proofs.YtmgfakfiiaeofaaGreat
