/- Decode undoes Encode; IsaBack walks, once lives answers true. -/
import Derived.Test.YtanppddkigeepaaDoorDecodesLaw
import Derived.Test.YtanppddkigeepaaDoorParM
namespace Go.Proofs.YtanppddkigeepaaDoor
open Go.RowKit Go.Sort
theorem by_q4s (q : Q4) (hq : okQ q) : (q4s q).size = 4 ∧ (byS (q4s q) 0 : Int) = q.1 ∧ (byS (q4s q) 1 : Int) = q.2.1 ∧ (byS (q4s q) 2 : Int) = q.2.2.1 ∧ (byS (q4s q) 3 : Int) = q.2.2.2 := by
  have h4 : (q4s q).size = 4 := rfl
  have := (q4s_eq q (q4s q) h4 hq).1 rfl
  exact ⟨h4, this.1.symm, this.2.1.symm, this.2.2.1.symm, this.2.2.2.symm⟩
theorem enc_dec (c : Cod) (h : rightC c = true) : decC (q4s (bytesC c)) = some c := by
  obtain ⟨l1, l2, l3, l4, l5⟩ := right_lim h
  obtain ⟨h4, e0, e1, e2, e3⟩ := by_q4s (bytesC c) (bytesC_ok c)
  have hr : rdC (q4s (bytesC c)) = c := by
    have h' := h
    unfold rightC at h'
    simp only [Bool.and_eq_true, decide_eq_true_eq] at h'
    have h1 := h'.2
    have e0' : (byS (q4s (bytesC c)) 0 : Int) = c.op := by
      rw [e0]
      rcases sh_cases c.op with hs | hs | hs | hs | hs | hs | hs <;> simp [bytesC, hs, pk, pkW, wd] <;> omega
    generalize hb0 : byS (q4s (bytesC c)) 0 = b0 at *
    generalize hb1 : byS (q4s (bytesC c)) 1 = b1 at *
    generalize hb2 : byS (q4s (bytesC c)) 2 = b2 at *
    generalize hb3 : byS (q4s (bytesC c)) 3 = b3 at *
    unfold rdC
    rw [hb0, hb1, hb2, hb3, e0']
    clear hb0 hb1 hb2 hb3
    obtain ⟨op, a, b, d, n⟩ := c
    simp only at *
    rcases sh_cases op with hs | hs | hs | hs | hs | hs | hs <;> simp [bytesC, hs, pk, pkW, wd] at e1 e2 e3 <;> simp [hs, reg, way, zer] at h1 <;> simp [hs]
    · omega
    · omega
    · omega
    · omega
    · omega
    · split <;> simp <;> omega
    · split <;> simp <;> omega
  rw [dec_eq _ h4, hr, if_pos h]
theorem bytes_inj {c d : Cod} (hc : rightC c = true) (hd : rightC d = true) (h : q4s (bytesC c) = q4s (bytesC d)) : c = d := by
  have h1 := enc_dec c hc
  rw [h] at h1
  exact Option.some.inj (h1.symm.trans (enc_dec d hd))
set_option maxRecDepth 100000 in
set_option maxHeartbeats 4000000 in
theorem IsaBack_no (hL : Lives) (c d : Cod) (w : World) (hE : Env w) (h : rightC c = false ∨ rightC d = false) : Calls Tryd.prog 5 #[c.v, d.v] w fun e w' => e = .returned (.bool true) ∧ Below w.heap.size w w' := by
  have HL := Lib.hid hL
  have hbA : Below w.heap.size w ((w.alloc (.cells #[.int .i64 c.op, .int .i64 c.a, .int .i64 c.b, .int .i64 c.c, .int .i64 c.n] 23)).alloc (.cells #[.int .i64 d.op, .int .i64 d.a, .int .i64 d.b, .int .i64 d.c, .int .i64 d.n] 23)) := by go_grown
  have hEA := hE.below hbA
  have HC := Lib.hid (Right_any c)
  have HD := Lib.hid (Right_any d)
  rw [rightI_eq] at HC HD
  have kc : At5 ((w.alloc (.cells #[.int .i64 c.op, .int .i64 c.a, .int .i64 c.b, .int .i64 c.c, .int .i64 c.n] 23)).alloc (.cells #[.int .i64 d.op, .int .i64 d.a, .int .i64 d.b, .int .i64 d.c, .int .i64 d.n] 23)) w.heap.size c := (At5.new w c _).below ((Below.refl _ _).alloc (Nat.le_refl _) _) (by simp)
  have kd := At5.new (w.alloc (.cells #[.int .i64 c.op, .int .i64 c.a, .int .i64 c.b, .int .i64 c.c, .int .i64 c.n] 23)) d 23
  rw [World.size_alloc] at kd
  unfold Cod.v at HC HD ⊢
  clear hL
  by_cases hc : rightC c = true
  · have hd : rightC d = false := by rcases h with h | h
                                     · rw [hc] at h; cases h
                                     · exact h
    rw [hc] at HC
    rw [hd] at HD
    clear h hc hd
    go_enter Tryd.func5, Tryd.ntmps5
    go_wp2_with (first | (go_at_call 7; refine (HL.out _ hEA).mono ?_; rintro e w1 ⟨rfl, hb1⟩; refine Hid.out ?_))
    refine Lib.hid ?_
    obtain ⟨cl, ⟨b0, b1, b2, b3, b4⟩, bf⟩ := kc.below hb1 (by simp; omega)
    go_wp2_with (first | (go_at_call 11; refine (HC.out _).mono ?_; rintro e w2 ⟨rfl, hb2⟩; refine Hid.out ?_))
    refine Lib.hid ?_
    have k2 := (kd.below hb1 (by simp))
    obtain ⟨dl, ⟨d0, d1, d2, d3, d4⟩, df⟩ := k2.below hb2 k2.1
    clear b0 b1 b2 b3 b4
    go_wp2_with (first | (go_at_call 11; refine (HD.out _).mono ?_; rintro e w3 ⟨rfl, hb3⟩))
    go_ret
    have q1 := hbA.trans (hb1.mono hbA.size)
    have q2 := q1.trans (hb2.mono q1.size)
    exact ⟨rfl, q2.trans (hb3.mono q2.size)⟩
  · rw [show rightC c = false from by simpa using hc] at HC
    clear h hc
    go_enter Tryd.func5, Tryd.ntmps5
    go_wp2_with (first | (go_at_call 7; refine (HL.out _ hEA).mono ?_; rintro e w1 ⟨rfl, hb1⟩; refine Hid.out ?_))
    refine Lib.hid ?_
    obtain ⟨cl, ⟨b0, b1, b2, b3, b4⟩, bf⟩ := kc.below hb1 (by simp; omega)
    go_wp2_with (first | (go_at_call 11; refine (HC.out _).mono ?_; rintro e w2 ⟨rfl, hb2⟩))
    go_ret
    have q1 := hbA.trans (hb1.mono hbA.size)
    exact ⟨rfl, q1.trans (hb2.mono q1.size)⟩
theorem cod_ext {c d : Cod} (h0 : c.op = d.op) (h1 : c.a = d.a) (h2 : c.b = d.b) (h3 : c.c = d.c) (h4 : c.n = d.n) : c = d := by
  cases c; cases d; simp_all
set_option maxRecDepth 100000 in
set_option maxHeartbeats 8000000 in
theorem IsaBack_eq (hL : Lives) (c : Cod) (w : World) (hE : Env w) (h : rightC c = true) : Calls Tryd.prog 5 #[c.v, c.v] w fun e w' => e = .returned (.bool true) ∧ Below w.heap.size w w' := by
  have HL := Lib.hid hL
  have hbA : Below w.heap.size w ((w.alloc (.cells #[.int .i64 c.op, .int .i64 c.a, .int .i64 c.b, .int .i64 c.c, .int .i64 c.n] 23)).alloc (.cells #[.int .i64 c.op, .int .i64 c.a, .int .i64 c.b, .int .i64 c.c, .int .i64 c.n] 23)) := by go_grown
  have hEA := hE.below hbA
  have HC : Hid (∀ W, Calls Tryd.prog 11 #[c.v] W fun e w' => e = .returned (.bool true) ∧ Below W.heap.size W w') := fun W => by have := Right_any c W; rw [rightI_eq, h] at this; exact this
  have E1 := Lib.hid (fun W => Encode_yes c W (by rw [rightI_eq, h]))
  have T1 := Lib.hid (fun W hW => Text_yes c W hW h)
  have hz : (⟨(textC c).toArray⟩ : ByteArray).size < 4294967281 := by
    obtain ⟨l1, l2, l3, l4, l5⟩ := right_lim h
    show (textC c).length < 4294967281
    have := txK_len c (sh c.op) 3 (fOk_of l2 l3 l4 l5)
    unfold textC; omega
  have D1 := Lib.hid (fun W => Decode_any (q4s (bytesC c)) W)
  rw [enc_dec c h] at D1
  have D1' : Hid (∀ W, Calls Tryd.prog 14 #[.string (q4s (bytesC c))] W fun e w' => e = .returned (.tuple #[c.v, .int .i64 0]) ∧ Below W.heap.size W w') := D1
  have P1 := Lib.hid (fun W hW => Parse_any ⟨(textC c).toArray⟩ W hW hz)
  rw [parC_text c h] at P1
  have P1' : Hid (∀ W, Env W → Calls Tryd.prog 16 #[.string ⟨(textC c).toArray⟩] W fun e w' => e = .returned (.tuple #[c.v, .int .i64 0]) ∧ Below W.heap.size W w') := P1
  have hs4 : (q4s (bytesC c)).size = 4 := rfl
  clear D1 P1 hz
  generalize q4s (bytesC c) = sb at *
  generalize (⟨(textC c).toArray⟩ : ByteArray) = tb at *
  have hsu : (sb.toList == sb.toList) = true := by simp
  have htv : (tb.toList == tb.toList) = true := by simp
  have kc : At5 ((w.alloc (.cells #[.int .i64 c.op, .int .i64 c.a, .int .i64 c.b, .int .i64 c.c, .int .i64 c.n] 23)).alloc (.cells #[.int .i64 c.op, .int .i64 c.a, .int .i64 c.b, .int .i64 c.c, .int .i64 c.n] 23)) w.heap.size c := (At5.new w c _).below ((Below.refl _ _).alloc (Nat.le_refl _) _) (by simp)
  have kd := At5.new (w.alloc (.cells #[.int .i64 c.op, .int .i64 c.a, .int .i64 c.b, .int .i64 c.c, .int .i64 c.n] 23)) c 23
  rw [World.size_alloc] at kd
  unfold Cod.v at HC E1 T1 D1' P1' ⊢
  clear hL h
  go_enter Tryd.func5, Tryd.ntmps5
  go_wp2_with (first | (go_at_call 7; refine (HL.out _ hEA).mono ?_; rintro e w1 ⟨rfl, hb1⟩; refine Hid.out ?_))
  refine Lib.hid ?_
  have hE1 := hEA.below hb1
  have q1 := hbA.trans (hb1.mono hbA.size)
  have kc1 := kc.below hb1 (by simp; omega)
  have kd1 := kd.below hb1 (by simp)
  clear kc kd
  have kk1 := kc1
  obtain ⟨cl1, ⟨b0, b1, b2, b3, b4⟩, bf⟩ := kk1
  go_wp2_with (first | (go_at_call 11; refine (HC.out _).mono ?_; rintro e w2 ⟨rfl, hb2⟩; refine Hid.out ?_))
  refine Lib.hid ?_
  have q2 := q1.trans (hb2.mono q1.size)
  have hE2 := hE1.below hb2
  have kc2 := kc1.below hb2 kc1.1
  have kd2 := kd1.below hb2 kd1.1
  clear b0 b1 b2 b3 b4 bf
  have kk2 := kd2
  obtain ⟨cl2, ⟨b0, b1, b2, b3, b4⟩, bf⟩ := kk2
  go_wp2_with (first | (go_at_call 11; refine (HC.out _).mono ?_; rintro e w3 ⟨rfl, hb3⟩; refine Hid.out ?_))
  refine Lib.hid ?_
  have q3 := q2.trans (hb3.mono q2.size)
  have hE3 := hE2.below hb3
  have kc3 := kc2.below hb3 kc2.1
  have kd3 := kd2.below hb3 kd2.1
  clear b0 b1 b2 b3 b4 bf
  have kk3 := kc3
  obtain ⟨cl3, ⟨b0, b1, b2, b3, b4⟩, bf⟩ := kk3
  go_wp2_with (first | (go_at_call 9; refine (E1.out _).mono ?_; rintro e w4 ⟨rfl, hb4⟩; refine Hid.out ?_))
  refine Lib.hid ?_
  have q4 := q3.trans (hb4.mono q3.size)
  have hE4 := hE3.below hb4
  have kc4 := kc3.below hb4 kc3.1
  have kd4 := kd3.below hb4 kd3.1
  clear b0 b1 b2 b3 b4 bf
  have kk4 := kc4
  obtain ⟨cl4, ⟨b0, b1, b2, b3, b4⟩, bf⟩ := kk4
  go_wp2_with (first | (go_at_call 10; refine (T1.out _ hE4).mono ?_; rintro e w5 ⟨rfl, hb5⟩; refine Hid.out ?_))
  refine Lib.hid ?_
  have q5 := q4.trans (hb5.mono q4.size)
  have hE5 := hE4.below hb5
  have kc5 := kc4.below hb5 kc4.1
  have kd5 := kd4.below hb5 kd4.1
  clear b0 b1 b2 b3 b4 bf
  have kk5 := kd5
  obtain ⟨cl5, ⟨b0, b1, b2, b3, b4⟩, bf⟩ := kk5
  go_wp2_with (first | (go_at_call 9; refine (E1.out _).mono ?_; rintro e w6 ⟨rfl, hb6⟩; refine Hid.out ?_))
  refine Lib.hid ?_
  have q6 := q5.trans (hb6.mono q5.size)
  have hE6 := hE5.below hb6
  have kc6 := kc5.below hb6 kc5.1
  have kd6 := kd5.below hb6 kd5.1
  clear b0 b1 b2 b3 b4 bf
  have kk6 := kd6
  obtain ⟨cl6, ⟨b0, b1, b2, b3, b4⟩, bf⟩ := kk6
  go_wp2_with (first | (go_at_call 10; refine (T1.out _ hE6).mono ?_; rintro e w7 ⟨rfl, hb7⟩; refine Hid.out ?_))
  refine Lib.hid ?_
  have q7 := q6.trans (hb7.mono q6.size)
  have hE7 := hE6.below hb7
  have kc7 := kc6.below hb7 kc6.1
  have kd7 := kd6.below hb7 kd6.1
  clear b0 b1 b2 b3 b4 bf
  go_wp2_with (first | (go_at_call 14; refine (D1'.out _).mono ?_; rintro e w8 ⟨rfl, hb8⟩; refine Hid.out ?_))
  refine Lib.hid ?_
  have q8 := q7.trans (hb8.mono q7.size)
  have hx := At5.new w8 c 23
  have hbx : Below w8.heap.size w8 (w8.alloc (.cells #[.int .i64 c.op, .int .i64 c.a, .int .i64 c.b, .int .i64 c.c, .int .i64 c.n] 23)) := (Below.refl _ _).alloc (Nat.le_refl _) _
  have hE8 := (hE7.below hb8).below hbx
  have kc8 := (kc7.below hb8 kc7.1).below hbx (kc7.below hb8 kc7.1).1
  have kd8 := (kd7.below hb8 kd7.1).below hbx (kd7.below hb8 kd7.1).1
  have q8x := q8.trans (hbx.mono q8.size)
  go_wp2_with (first | (go_at_call 16; refine (P1'.out _ hE8).mono ?_; rintro e w9 ⟨rfl, hb9⟩; refine Hid.out ?_))
  refine Lib.hid ?_
  have q9 := q8x.trans (hb9.mono q8x.size)
  have hby : Below w9.heap.size w9 (w9.alloc (.cells #[.int .i64 c.op, .int .i64 c.a, .int .i64 c.b, .int .i64 c.c, .int .i64 c.n] 23)) := (Below.refl _ _).alloc (Nat.le_refl _) _
  have q9y := q9.trans (hby.mono q9.size)
  have hx9 := (hx.below hb9 (by simp))
  have kc9 := kc8.below hb9 kc8.1
  have kd9 := kd8.below hb9 kd8.1
  obtain ⟨xl, ⟨x0, x1, x2, x3, x4⟩, xf⟩ := hx9
  obtain ⟨cl, ⟨c0, c1, c2, c3, c4⟩, cf⟩ := kc9
  obtain ⟨dl, ⟨d0, d1, d2, d3, d4⟩, df⟩ := kd9
  go_wp2
  go_ret
  exact ⟨rfl, q9y⟩
set_option maxRecDepth 100000 in
set_option maxHeartbeats 8000000 in
theorem IsaBack_ne (hL : Lives) (c d : Cod) (w : World) (hE : Env w) (h : rightC c = true) (h2 : rightC d = true) (hne : c ≠ d) : Calls Tryd.prog 5 #[c.v, d.v] w fun e w' => e = .returned (.bool true) ∧ Below w.heap.size w w' := by
  have HL := Lib.hid hL
  have hbA : Below w.heap.size w ((w.alloc (.cells #[.int .i64 c.op, .int .i64 c.a, .int .i64 c.b, .int .i64 c.c, .int .i64 c.n] 23)).alloc (.cells #[.int .i64 d.op, .int .i64 d.a, .int .i64 d.b, .int .i64 d.c, .int .i64 d.n] 23)) := by go_grown
  have hEA := hE.below hbA
  have HC : Hid (∀ W, Calls Tryd.prog 11 #[c.v] W fun e w' => e = .returned (.bool true) ∧ Below W.heap.size W w') := fun W => by have := Right_any c W; rw [rightI_eq, h] at this; exact this
  have E1 := Lib.hid (fun W => Encode_yes c W (by rw [rightI_eq, h]))
  have T1 := Lib.hid (fun W hW => Text_yes c W hW h)
  have hz : (⟨(textC c).toArray⟩ : ByteArray).size < 4294967281 := by
    obtain ⟨l1, l2, l3, l4, l5⟩ := right_lim h
    show (textC c).length < 4294967281
    have := txK_len c (sh c.op) 3 (fOk_of l2 l3 l4 l5)
    unfold textC; omega
  have D1 := Lib.hid (fun W => Decode_any (q4s (bytesC c)) W)
  rw [enc_dec c h] at D1
  have D1' : Hid (∀ W, Calls Tryd.prog 14 #[.string (q4s (bytesC c))] W fun e w' => e = .returned (.tuple #[c.v, .int .i64 0]) ∧ Below W.heap.size W w') := D1
  have P1 := Lib.hid (fun W hW => Parse_any ⟨(textC c).toArray⟩ W hW hz)
  rw [parC_text c h] at P1
  have P1' : Hid (∀ W, Env W → Calls Tryd.prog 16 #[.string ⟨(textC c).toArray⟩] W fun e w' => e = .returned (.tuple #[c.v, .int .i64 0]) ∧ Below W.heap.size W w') := P1
  have hs4 : (q4s (bytesC c)).size = 4 := rfl
  have HD : Hid (∀ W, Calls Tryd.prog 11 #[d.v] W fun e w' => e = .returned (.bool true) ∧ Below W.heap.size W w') := fun W => by have := Right_any d W; rw [rightI_eq, h2] at this; exact this
  have E2 := Lib.hid (fun W => Encode_yes d W (by rw [rightI_eq, h2]))
  have T2 := Lib.hid (fun W hW => Text_yes d W hW h2)
  have hsu : ((q4s (bytesC c)).toList == (q4s (bytesC d)).toList) = false := beq_eq_false_iff_ne.2 (fun he => hne (bytes_inj h h2 (str_inj he)))
  have htv : ((⟨(textC c).toArray⟩ : ByteArray).toList == (⟨(textC d).toArray⟩ : ByteArray).toList) = false := beq_eq_false_iff_ne.2 (fun he => hne (text_inj h h2 (by have := congrArg (·.data.toList) (str_inj he); exact this)))
  generalize q4s (bytesC d) = ub at *
  generalize (⟨(textC d).toArray⟩ : ByteArray) = vb at *
  clear D1 P1 hz
  generalize q4s (bytesC c) = sb at *
  generalize (⟨(textC c).toArray⟩ : ByteArray) = tb at *
  have kc : At5 ((w.alloc (.cells #[.int .i64 c.op, .int .i64 c.a, .int .i64 c.b, .int .i64 c.c, .int .i64 c.n] 23)).alloc (.cells #[.int .i64 d.op, .int .i64 d.a, .int .i64 d.b, .int .i64 d.c, .int .i64 d.n] 23)) w.heap.size c := (At5.new w c _).below ((Below.refl _ _).alloc (Nat.le_refl _) _) (by simp)
  have kd := At5.new (w.alloc (.cells #[.int .i64 c.op, .int .i64 c.a, .int .i64 c.b, .int .i64 c.c, .int .i64 c.n] 23)) d 23
  rw [World.size_alloc] at kd
  unfold Cod.v at HC E1 T1 D1' P1' HD E2 T2 ⊢
  clear hL h h2
  go_enter Tryd.func5, Tryd.ntmps5
  go_wp2_with (first | (go_at_call 7; refine (HL.out _ hEA).mono ?_; rintro e w1 ⟨rfl, hb1⟩; refine Hid.out ?_))
  refine Lib.hid ?_
  have hE1 := hEA.below hb1
  have q1 := hbA.trans (hb1.mono hbA.size)
  have kc1 := kc.below hb1 (by simp; omega)
  have kd1 := kd.below hb1 (by simp)
  clear kc kd
  have kk1 := kc1
  obtain ⟨cl1, ⟨b0, b1, b2, b3, b4⟩, bf⟩ := kk1
  go_wp2_with (first | (go_at_call 11; refine (HC.out _).mono ?_; rintro e w2 ⟨rfl, hb2⟩; refine Hid.out ?_))
  refine Lib.hid ?_
  have q2 := q1.trans (hb2.mono q1.size)
  have hE2 := hE1.below hb2
  have kc2 := kc1.below hb2 kc1.1
  have kd2 := kd1.below hb2 kd1.1
  clear b0 b1 b2 b3 b4 bf
  have kk2 := kd2
  obtain ⟨cl2, ⟨b0, b1, b2, b3, b4⟩, bf⟩ := kk2
  go_wp2_with (first | (go_at_call 11; refine (HD.out _).mono ?_; rintro e w3 ⟨rfl, hb3⟩; refine Hid.out ?_))
  refine Lib.hid ?_
  have q3 := q2.trans (hb3.mono q2.size)
  have hE3 := hE2.below hb3
  have kc3 := kc2.below hb3 kc2.1
  have kd3 := kd2.below hb3 kd2.1
  clear b0 b1 b2 b3 b4 bf
  have kk3 := kc3
  obtain ⟨cl3, ⟨b0, b1, b2, b3, b4⟩, bf⟩ := kk3
  go_wp2_with (first | (go_at_call 9; refine (E1.out _).mono ?_; rintro e w4 ⟨rfl, hb4⟩; refine Hid.out ?_))
  refine Lib.hid ?_
  have q4 := q3.trans (hb4.mono q3.size)
  have hE4 := hE3.below hb4
  have kc4 := kc3.below hb4 kc3.1
  have kd4 := kd3.below hb4 kd3.1
  clear b0 b1 b2 b3 b4 bf
  have kk4 := kc4
  obtain ⟨cl4, ⟨b0, b1, b2, b3, b4⟩, bf⟩ := kk4
  go_wp2_with (first | (go_at_call 10; refine (T1.out _ hE4).mono ?_; rintro e w5 ⟨rfl, hb5⟩; refine Hid.out ?_))
  refine Lib.hid ?_
  have q5 := q4.trans (hb5.mono q4.size)
  have hE5 := hE4.below hb5
  have kc5 := kc4.below hb5 kc4.1
  have kd5 := kd4.below hb5 kd4.1
  clear b0 b1 b2 b3 b4 bf
  have kk5 := kd5
  obtain ⟨cl5, ⟨b0, b1, b2, b3, b4⟩, bf⟩ := kk5
  go_wp2_with (first | (go_at_call 9; refine (E2.out _).mono ?_; rintro e w6 ⟨rfl, hb6⟩; refine Hid.out ?_))
  refine Lib.hid ?_
  have q6 := q5.trans (hb6.mono q5.size)
  have hE6 := hE5.below hb6
  have kc6 := kc5.below hb6 kc5.1
  have kd6 := kd5.below hb6 kd5.1
  clear b0 b1 b2 b3 b4 bf
  have kk6 := kd6
  obtain ⟨cl6, ⟨b0, b1, b2, b3, b4⟩, bf⟩ := kk6
  go_wp2_with (first | (go_at_call 10; refine (T2.out _ hE6).mono ?_; rintro e w7 ⟨rfl, hb7⟩; refine Hid.out ?_))
  refine Lib.hid ?_
  have q7 := q6.trans (hb7.mono q6.size)
  have hE7 := hE6.below hb7
  have kc7 := kc6.below hb7 kc6.1
  have kd7 := kd6.below hb7 kd6.1
  clear b0 b1 b2 b3 b4 bf
  go_wp2_with (first | (go_at_call 14; refine (D1'.out _).mono ?_; rintro e w8 ⟨rfl, hb8⟩; refine Hid.out ?_))
  refine Lib.hid ?_
  have q8 := q7.trans (hb8.mono q7.size)
  have hx := At5.new w8 c 23
  have hbx : Below w8.heap.size w8 (w8.alloc (.cells #[.int .i64 c.op, .int .i64 c.a, .int .i64 c.b, .int .i64 c.c, .int .i64 c.n] 23)) := (Below.refl _ _).alloc (Nat.le_refl _) _
  have hE8 := (hE7.below hb8).below hbx
  have kc8 := (kc7.below hb8 kc7.1).below hbx (kc7.below hb8 kc7.1).1
  have kd8 := (kd7.below hb8 kd7.1).below hbx (kd7.below hb8 kd7.1).1
  have q8x := q8.trans (hbx.mono q8.size)
  go_wp2_with (first | (go_at_call 16; refine (P1'.out _ hE8).mono ?_; rintro e w9 ⟨rfl, hb9⟩; refine Hid.out ?_))
  refine Lib.hid ?_
  have q9 := q8x.trans (hb9.mono q8x.size)
  have hby : Below w9.heap.size w9 (w9.alloc (.cells #[.int .i64 c.op, .int .i64 c.a, .int .i64 c.b, .int .i64 c.c, .int .i64 c.n] 23)) := (Below.refl _ _).alloc (Nat.le_refl _) _
  have q9y := q9.trans (hby.mono q9.size)
  have hx9 := (hx.below hb9 (by simp))
  have kc9 := kc8.below hb9 kc8.1
  have kd9 := kd8.below hb9 kd8.1
  obtain ⟨xl, ⟨x0, x1, x2, x3, x4⟩, xf⟩ := hx9
  obtain ⟨cl, ⟨c0, c1, c2, c3, c4⟩, cf⟩ := kc9
  obtain ⟨dl, ⟨d0, d1, d2, d3, d4⟩, df⟩ := kd9
  go_wp2
  all_goals first
    | (exfalso; refine hne (cod_ext ?_ ?_ ?_ ?_ ?_) <;> assumption)
    | skip
  all_goals
    go_ret
    exact ⟨rfl, q9.alloc q9.size _⟩
theorem IsaBack_any (hL : Lives) (c d : Cod) (w : World) (hE : Env w) : Calls Tryd.prog 5 #[c.v, d.v] w fun e w' => e = .returned (.bool true) ∧ Below w.heap.size w w' := by
  by_cases hc : rightC c = true
  · by_cases hd : rightC d = true
    · by_cases he : c = d
      · subst he; exact IsaBack_eq hL c w hE hc
      · exact IsaBack_ne hL c d w hE hc hd he
    · exact IsaBack_no hL c d w hE (.inr (by simpa using hd))
  · exact IsaBack_no hL c d w hE (.inl (by simpa using hc))
end Go.Proofs.YtanppddkigeepaaDoor
