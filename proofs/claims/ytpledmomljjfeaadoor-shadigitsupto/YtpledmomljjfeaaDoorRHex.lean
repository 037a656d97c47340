/- Bytes as digits, as the reference writes them. -/
import Derived.Test.YtpledmomljjfeaaDoorDigit
namespace Go.Proofs.YtpledmomljjfeaaDoor
open Go.RowKit Go.Sort
theorem exec_call1 {o : Oper} {ev : Operand → Value} {f : Nat} {x0 : Operand} {ts : Array TypeId} {v0 : Value} {w : World} (ho : o.op = .call { callee := .value (.func f), args := #[x0], argTypes := ts }) (hf : ev (.func f) = .func (.func f) #[] #[]) (h0 : ev x0 = v0) (eg : ∀ args w, (callFunc f args).run Tryd.prog w = .ok (.enter f args) w) : (execOp ev o).run Tryd.prog w = .ok (.enter f #[v0]) w := by
  unfold execOp
  simp [ho, resolve, invoke, hf, h0, eg, go_sem]
set_option maxRecDepth 100000 in
set_option maxHeartbeats 2000000 in
theorem refHex_any (s : ByteArray) (w : World) (hs : s.size ≤ 16777216) : Calls Tryd.prog 20 #[.string s] w fun e w' => e = .returned (.string ⟨(hexN s.data.toList).toArray⟩) ∧ Below w.heap.size w w' := by
  obtain ⟨i0, hi, hz0, hz1, hz2⟩ := info_parts' byteInfo
  have hO0 : (w.alloc (.cells #[] 5)).ownsRow w.heap.size 5 1 (.slice (some ⟨w.heap.size, 0, none⟩) 0 0) (2 * 0) (B (hexN (s.data.toList.take 0))) := World.ownsRow_lit (base := w.heap.size) (e := 5) (size := 1) w #[] 0 (Nat.le_refl _) (by unfold maxLen; omega) rfl
  have hB0 : Below w.heap.size w (w.alloc (.cells #[] 5)) := (Below.refl _ _).alloc (Nat.le_refl _) _
  go_enter Tryd.func20, Tryd.ntmps20
  go_wp2_with fail
  go_loopw [3, 4] (fun r i wr => ∃ k : Nat, i = .int .i64 k ∧ k ≤ s.size ∧ wr.ownsRow w.heap.size 5 1 r (2 * k) (B (hexN (s.data.toList.take k))) ∧ Below w.heap.size w wr) (fun _ i _ => (s.size - intOf i).toNat)
  case atStart => exact ⟨0, rfl, by omega, hO0, hB0⟩
  case round =>
    obtain ⟨k, rfl, hk, hown, hbr⟩ := hrel
    clear hO0 hB0
    by_cases hlt : k < s.size
    · have hki : (k : Int) < (s.size : Int) := by omega
      obtain ⟨b, hb⟩ : ∃ b, s[k] = b := ⟨_, rfl⟩
      have hbl := b.toNat_lt
      have hds : s.data.toList.length = s.size := by simp
      have hbk : s.data.toList[k]'(by omega) = b := by rw [← hb]; rfl
      have HT : Hid (hexN (s.data.toList.take (k + 1)) = hexN (s.data.toList.take k) ++ [digN (b.toNat / 16), digN (b.toNat % 16)]) := Lib.hid (by
        rw [List.take_succ_eq_append_getElem (by omega), hbk, hex_snoc])
      have HD1 := Lib.hid (fun W => digit_any (b.toNat / 16) W (by omega))
      have HD2 := Lib.hid (fun W => digit_any (b.toNat % 16) W (by omega))
      have HL : Hid (b.toNat / 16 < 16 ∧ b.toNat % 16 < 16) := Lib.hid ⟨by omega, by omega⟩
      obtain ⟨d1, hd1⟩ : ∃ d1, digN (b.toNat / 16) = d1 := ⟨_, rfl⟩
      obtain ⟨d2, hd2⟩ : ∃ d2, digN (b.toNat % 16) = d2 := ⟨_, rfl⟩
      rw [hd1] at HT HD1
      rw [hd2] at HT HD2
      have HWp : Hid (IntKind.u8.wrap ((b.toNat : Int) / 16) = (b.toNat : Int) / 16) := Lib.hid (by rw [IntKind.wrap_u8']; omega)
      have HTm : Hid ((b.toNat : Int).tmod 16 = (b.toNat : Int) % 16) := Lib.hid (Int.tmod_eq_emod_of_nonneg (by omega))
      have HD1' : Hid (∀ Y, Calls Tryd.prog 33 #[.int .u8 ((b.toNat / 16 : Nat) : Int)] Y fun e w' => ∃ v, e = .returned v ∧ Below Y.heap.size Y w' ∧ v = .int .u8 (d1.toNat : Int)) := fun Y => (HD1.out Y).mono fun e w' h => ⟨_, h.1, by rw [h.2]; exact Below.refl _ _, rfl⟩
      have HD2' : Hid (∀ Y, Calls Tryd.prog 33 #[.int .u8 ((b.toNat % 16 : Nat) : Int)] Y fun e w' => ∃ v, e = .returned v ∧ Below Y.heap.size Y w' ∧ v = .int .u8 (d2.toNat : Int)) := fun Y => (HD2.out Y).mono fun e w' h => ⟨_, h.1, by rw [h.2]; exact Below.refl _ _, rfl⟩
      obtain ⟨sp, cap, rfl⟩ := row_form hown
      have HOwn := Lib.hid hown
      have HB := Lib.hid hbr
      have HS := Lib.hid (show s.size ≤ 16777216 from hs)
      have HK := Lib.hid hlt
      have HG : Hid (s[k] = b) := Lib.hid hb
      clear hown hbr hd1 hd2 hds hbk hbl hb hs
      go_upto_region 5 with fail
      refine wp_region_monoT 12 12 (fun kq uq Xq => match kq with | 12 => uq = .slice sp (2 * k) cap | 13 => uq = .string s | 14 => uq = .int .i64 k | 15 => uq = .int .u8 (b.toNat : Int) | 16 => uq = .int .u8 ((b.toNat / 16 : Nat) : Int) | 17 => uq = .int .u8 (d1.toNat : Int) | 18 => uq = .string s | 19 => uq = .int .i64 k | 20 => uq = .int .u8 (b.toNat : Int) | 21 => uq = .int .u8 ((b.toNat % 16 : Nat) : Int) | 22 => uq = .int .u8 (d2.toNat : Int) | 23 => Two8 d1 d2 (uq) Xq | _ => True) (by kernel_rfl) (by kernel_rfl) (by kernel_rfl) (by kernel_rfl) (by simp) (by kernel_rfl) ?_ ?_ ?_
      · intro kq v W W' h hb
        revert h
        try dsimp only
        split
        · intro h; exact h
        · intro h; exact h
        · intro h; exact h
        · intro h; exact h
        · intro h; exact h
        · intro h; exact h
        · intro h; exact h
        · intro h; exact h
        · intro h; exact h
        · intro h; exact h
        · intro h; exact h
        · intro h; exact Two8.mono h hb
        · intro h; trivial
      · intro a' X hB hs hk i o d ho hd hG
        match i, ho with
        | 0, ho =>
          obtain rfl : _ = o := Option.some.inj ho
          obtain rfl : 12 = d := Option.some.inj hd
          have g3 : a'.eval (.tmp 3) = .slice sp (2 * k) cap := hk 3 (by kernel_rfl)
          obtain ⟨ev, hev⟩ : ∃ ev, a'.eval = ev := ⟨_, rfl⟩
          rw [hev] at g3 ⊢
          clear hev hG hk
          have hwp := HWp.out
          have htm := HTm.out
          exact .inr ⟨rfl, .inl ⟨.slice sp (2 * k) cap, X, by clear hs; go_simp, Below.refl _ _, rfl⟩⟩
        | 1, ho =>
          obtain rfl : _ = o := Option.some.inj ho
          obtain rfl : 13 = d := Option.some.inj hd
          have g0 : a'.eval (.tmp 0) = .string s := hk 0 (by kernel_rfl)
          obtain ⟨ev, hev⟩ : ∃ ev, a'.eval = ev := ⟨_, rfl⟩
          rw [hev] at g0 ⊢
          clear hev hG hk
          have hwp := HWp.out
          have htm := HTm.out
          exact .inr ⟨rfl, .inl ⟨.string s, X, by clear hs; go_simp, Below.refl _ _, rfl⟩⟩
        | 2, ho =>
          obtain rfl : _ = o := Option.some.inj ho
          obtain rfl : 14 = d := Option.some.inj hd
          have g4 : a'.eval (.tmp 4) = .int .i64 k := hk 4 (by kernel_rfl)
          obtain ⟨ev, hev⟩ : ∃ ev, a'.eval = ev := ⟨_, rfl⟩
          rw [hev] at g4 ⊢
          clear hev hG hk
          have hwp := HWp.out
          have htm := HTm.out
          exact .inr ⟨rfl, .inl ⟨.int .i64 k, X, by clear hs; go_simp, Below.refl _ _, rfl⟩⟩
        | 3, ho =>
          obtain rfl : _ = o := Option.some.inj ho
          obtain rfl : 15 = d := Option.some.inj hd
          have g13 : a'.eval (.tmp 13) = .string s := hG ⟨1, .data⟩ (by simp) rfl 13 rfl
          have g14 : a'.eval (.tmp 14) = .int .i64 k := hG ⟨2, .data⟩ (by simp) rfl 14 rfl
          obtain ⟨ev, hev⟩ : ∃ ev, a'.eval = ev := ⟨_, rfl⟩
          rw [hev] at g13 g14 ⊢
          clear hev hG hk
          exact .inr ⟨rfl, .inl ⟨.int .u8 (b.toNat : Int), X, by rw [← HG.out]; exact exec_index_str (s := s) (i := k) rfl g13 g14 HK.out X, Below.refl _ _, rfl⟩⟩
        | 4, ho =>
          obtain rfl : _ = o := Option.some.inj ho
          obtain rfl : 16 = d := Option.some.inj hd
          have g15 : a'.eval (.tmp 15) = .int .u8 (b.toNat : Int) := hG ⟨3, .data⟩ (by simp) rfl 15 rfl
          have k0 : a'.eval (.const (.int .u8 16)) = (.int .u8 16) := rfl
          obtain ⟨ev, hev⟩ : ∃ ev, a'.eval = ev := ⟨_, rfl⟩
          rw [hev] at g15 k0 ⊢
          clear hev hG hk
          have hwp := HWp.out
          have htm := HTm.out
          exact .inr ⟨rfl, .inl ⟨.int .u8 ((b.toNat / 16 : Nat) : Int), X, by clear hs; go_simp, Below.refl _ _, rfl⟩⟩
        | 5, ho =>
          obtain rfl : _ = o := Option.some.inj ho
          obtain rfl : 17 = d := Option.some.inj hd
          have g16 : a'.eval (.tmp 16) = .int .u8 ((b.toNat / 16 : Nat) : Int) := hG ⟨4, .data⟩ (by simp) rfl 16 rfl
          refine .inr ⟨rfl, .inr ⟨33, #[.int .u8 ((b.toNat / 16 : Nat) : Int)], ?_, ?_⟩⟩
          · have gF : a'.eval (.func 33) = .func (.func 33) #[] #[] := rfl
            obtain ⟨ev, hev⟩ : ∃ ev, a'.eval = ev := ⟨_, rfl⟩
            rw [hev] at gF g16 ⊢
            exact exec_call1 rfl gF g16 (enters_of Tryd.func33 (by kernel_rfl) rfl)
          · exact HD1'.out X
        | 6, ho =>
          obtain rfl : _ = o := Option.some.inj ho
          obtain rfl : 18 = d := Option.some.inj hd
          have g0 : a'.eval (.tmp 0) = .string s := hk 0 (by kernel_rfl)
          obtain ⟨ev, hev⟩ : ∃ ev, a'.eval = ev := ⟨_, rfl⟩
          rw [hev] at g0 ⊢
          clear hev hG hk
          have hwp := HWp.out
          have htm := HTm.out
          exact .inr ⟨rfl, .inl ⟨.string s, X, by clear hs; go_simp, Below.refl _ _, rfl⟩⟩
        | 7, ho =>
          obtain rfl : _ = o := Option.some.inj ho
          obtain rfl : 19 = d := Option.some.inj hd
          have g4 : a'.eval (.tmp 4) = .int .i64 k := hk 4 (by kernel_rfl)
          obtain ⟨ev, hev⟩ : ∃ ev, a'.eval = ev := ⟨_, rfl⟩
          rw [hev] at g4 ⊢
          clear hev hG hk
          have hwp := HWp.out
          have htm := HTm.out
          exact .inr ⟨rfl, .inl ⟨.int .i64 k, X, by clear hs; go_simp, Below.refl _ _, rfl⟩⟩
        | 8, ho =>
          obtain rfl : _ = o := Option.some.inj ho
          obtain rfl : 20 = d := Option.some.inj hd
          have g18 : a'.eval (.tmp 18) = .string s := hG ⟨6, .data⟩ (by simp) rfl 18 rfl
          have g19 : a'.eval (.tmp 19) = .int .i64 k := hG ⟨7, .data⟩ (by simp) rfl 19 rfl
          obtain ⟨ev, hev⟩ : ∃ ev, a'.eval = ev := ⟨_, rfl⟩
          rw [hev] at g18 g19 ⊢
          clear hev hG hk
          exact .inr ⟨rfl, .inl ⟨.int .u8 (b.toNat : Int), X, by rw [← HG.out]; exact exec_index_str (s := s) (i := k) rfl g18 g19 HK.out X, Below.refl _ _, rfl⟩⟩
        | 9, ho =>
          obtain rfl : _ = o := Option.some.inj ho
          obtain rfl : 21 = d := Option.some.inj hd
          have g20 : a'.eval (.tmp 20) = .int .u8 (b.toNat : Int) := hG ⟨8, .data⟩ (by simp) rfl 20 rfl
          have k0 : a'.eval (.const (.int .u8 16)) = (.int .u8 16) := rfl
          obtain ⟨ev, hev⟩ : ∃ ev, a'.eval = ev := ⟨_, rfl⟩
          rw [hev] at g20 k0 ⊢
          clear hev hG hk
          have hwp := HWp.out
          have htm := HTm.out
          exact .inr ⟨rfl, .inl ⟨.int .u8 ((b.toNat % 16 : Nat) : Int), X, by clear hs; go_simp, Below.refl _ _, rfl⟩⟩
        | 10, ho =>
          obtain rfl : _ = o := Option.some.inj ho
          obtain rfl : 22 = d := Option.some.inj hd
          have g21 : a'.eval (.tmp 21) = .int .u8 ((b.toNat % 16 : Nat) : Int) := hG ⟨9, .data⟩ (by simp) rfl 21 rfl
          refine .inr ⟨rfl, .inr ⟨33, #[.int .u8 ((b.toNat % 16 : Nat) : Int)], ?_, ?_⟩⟩
          · have gF : a'.eval (.func 33) = .func (.func 33) #[] #[] := rfl
            obtain ⟨ev, hev⟩ : ∃ ev, a'.eval = ev := ⟨_, rfl⟩
            rw [hev] at gF g21 ⊢
            exact exec_call1 rfl gF g21 (enters_of Tryd.func33 (by kernel_rfl) rfl)
          · exact HD2'.out X
        | 11, ho =>
          obtain rfl : _ = o := Option.some.inj ho
          obtain rfl : 23 = d := Option.some.inj hd
          have g17 : a'.eval (.tmp 17) = .int .u8 (d1.toNat : Int) := hG ⟨5, .data⟩ (by simp) rfl 17 rfl
          have g22 : a'.eval (.tmp 22) = .int .u8 (d2.toNat : Int) := hG ⟨10, .data⟩ (by simp) rfl 22 rfl
          obtain ⟨ev, hev⟩ : ∃ ev, a'.eval = ev := ⟨_, rfl⟩
          rw [hev] at g17 g22 ⊢
          clear hev hG hk
          refine .inr ⟨rfl, .inl ⟨.slice (some ⟨X.heap.size, 0, none⟩) 2 2, X.alloc (.cells #[.int .u8 (d1.toNat : Int), .int .u8 (d2.toNat : Int)] 5), by clear hs; go_simp, (Below.refl _ _).alloc (Nat.le_refl _) _, ?_⟩⟩
          exact ⟨X.heap.size, rfl, by simp, by simp [go_sem], by simp [go_sem]⟩
        | j + 12, ho => simp at ho
      · intro a' X hB hs hdf hk hG
        obtain ⟨tm, df⟩ := a'
        obtain rfl : df = [] := hdf
        have e0 : tm.getD 0 undef = .string s := hk 0 (by kernel_rfl)
        have e1 : tm.getD 1 undef = undef := hk 1 (by kernel_rfl)
        have e2 : tm.getD 2 undef = .string { data := #[] } := hk 2 (by kernel_rfl)
        have e3 : tm.getD 3 undef = .slice sp (2 * k) cap := hk 3 (by kernel_rfl)
        have e4 : tm.getD 4 undef = .int .i64 k := hk 4 (by kernel_rfl)
        have e5 : tm.getD 5 undef = .slice (some ⟨w.heap.size, 0, none⟩) 0 0 := hk 5 (by kernel_rfl)
        have e6 : tm.getD 6 undef = .int .i64 k := hk 6 (by kernel_rfl)
        have e7 : tm.getD 7 undef = .string s := hk 7 (by kernel_rfl)
        have e8 : tm.getD 8 undef = .int .i64 s.size := hk 8 (by kernel_rfl)
        have e9 : tm.getD 9 undef = .bool true := hk 9 (by kernel_rfl)
        have e10 : tm.getD 10 undef = u10 := hk 10 (by kernel_rfl)
        have e11 : tm.getD 11 undef = u11 := hk 11 (by kernel_rfl)
        have e24 : tm.getD 24 undef = u24 := hk 24 (by kernel_rfl)
        have e25 : tm.getD 25 undef = undef := hk 25 (by kernel_rfl)
        have e26 : tm.getD 26 undef = undef := hk 26 (by kernel_rfl)
        have g12 : (tm.getD 12 undef) = .slice sp (2 * k) cap := hG 0 12 (by decide) rfl
        have g13 : (tm.getD 13 undef) = .string s := hG 1 13 (by decide) rfl
        have g14 : (tm.getD 14 undef) = .int .i64 k := hG 2 14 (by decide) rfl
        have g15 : (tm.getD 15 undef) = .int .u8 (b.toNat : Int) := hG 3 15 (by decide) rfl
        have g16 : (tm.getD 16 undef) = .int .u8 ((b.toNat / 16 : Nat) : Int) := hG 4 16 (by decide) rfl
        have g17 : (tm.getD 17 undef) = .int .u8 (d1.toNat : Int) := hG 5 17 (by decide) rfl
        have g18 : (tm.getD 18 undef) = .string s := hG 6 18 (by decide) rfl
        have g19 : (tm.getD 19 undef) = .int .i64 k := hG 7 19 (by decide) rfl
        have g20 : (tm.getD 20 undef) = .int .u8 (b.toNat : Int) := hG 8 20 (by decide) rfl
        have g21 : (tm.getD 21 undef) = .int .u8 ((b.toNat % 16 : Nat) : Int) := hG 9 21 (by decide) rfl
        have g22 : (tm.getD 22 undef) = .int .u8 (d2.toNat : Int) := hG 10 22 (by decide) rfl
        have g23 : Two8 d1 d2 ((tm.getD 23 undef)) X := hG 11 23 (by decide) rfl
        have htm := arr_of tm ((.string s : Value) :: (undef : Value) :: (.string { data := #[] } : Value) :: (.slice sp (2 * k) cap : Value) :: (.int .i64 k : Value) :: (.slice (some ⟨w.heap.size, 0, none⟩) 0 0 : Value) :: (.int .i64 k : Value) :: (.string s : Value) :: (.int .i64 s.size : Value) :: (.bool true : Value) :: (u10 : Value) :: (u11 : Value) :: (tm.getD 12 undef : Value) :: (tm.getD 13 undef : Value) :: (tm.getD 14 undef : Value) :: (tm.getD 15 undef : Value) :: (tm.getD 16 undef : Value) :: (tm.getD 17 undef : Value) :: (tm.getD 18 undef : Value) :: (tm.getD 19 undef : Value) :: (tm.getD 20 undef : Value) :: (tm.getD 21 undef : Value) :: (tm.getD 22 undef : Value) :: (tm.getD 23 undef : Value) :: (u24 : Value) :: (undef : Value) :: (undef : Value) :: []) hs (by show (tm.getD 0 undef :: tm.getD 1 undef :: tm.getD 2 undef :: tm.getD 3 undef :: tm.getD 4 undef :: tm.getD 5 undef :: tm.getD 6 undef :: tm.getD 7 undef :: tm.getD 8 undef :: tm.getD 9 undef :: tm.getD 10 undef :: tm.getD 11 undef :: tm.getD 12 undef :: tm.getD 13 undef :: tm.getD 14 undef :: tm.getD 15 undef :: tm.getD 16 undef :: tm.getD 17 undef :: tm.getD 18 undef :: tm.getD 19 undef :: tm.getD 20 undef :: tm.getD 21 undef :: tm.getD 22 undef :: tm.getD 23 undef :: tm.getD 24 undef :: tm.getD 25 undef :: tm.getD 26 undef :: []) = _; rw [e0, e1, e2, e3, e4, e5, e6, e7, e8, e9, e10, e11, e24, e25, e26]; try rfl)
        clear hs hk hG e0 e1 e2 e3 e4 e5 e6 e7 e8 e9 e10 e11 e24 e25 e26
        generalize tm.getD 12 undef = t12 at htm g12
        generalize tm.getD 13 undef = t13 at htm g13
        generalize tm.getD 14 undef = t14 at htm g14
        generalize tm.getD 15 undef = t15 at htm g15
        generalize tm.getD 16 undef = t16 at htm g16
        generalize tm.getD 17 undef = t17 at htm g17
        generalize tm.getD 18 undef = t18 at htm g18
        generalize tm.getD 19 undef = t19 at htm g19
        generalize tm.getD 20 undef = t20 at htm g20
        generalize tm.getD 21 undef = t21 at htm g21
        generalize tm.getD 22 undef = t22 at htm g22
        generalize tm.getD 23 undef = t23 at htm g23
        subst htm
        subst g12
        subst g13
        subst g14
        subst g15
        subst g16
        subst g17
        subst g18
        subst g19
        subst g20
        subst g21
        subst g22
        simp only [List.drop_succ_cons, List.drop_zero]
        obtain ⟨gn, rfl, hgl, hc0, hc1⟩ := g23
        have HOX := Lib.hid (row_same HOwn.out (fun j hj => hB.block j (HOwn.out.lt j hj).2))
        have HBX := Lib.hid (HB.out.trans (hB.mono HB.out.size))
        have HXz : w.heap.size ≤ X.heap.size := HBX.out.size
        have HN : Hid (∀ j u, [Value.int .u8 (d1.toNat : Int), .int .u8 (d2.toNat : Int)][j]? = some u → X.cell? ((⟨gn, 0, none⟩ : Addr).add j) = some u) := fun j u hu => by
          match j, hu with
          | 0, hu => simp at hu; subst hu; simpa [Addr.add] using hc0
          | 1, hu => simp at hu; subst hu; simpa [Addr.add] using hc1
        have hK := HK.out
        have hS := HS.out
        clear hc0 hc1 hgl hB
        go_wp2_with (at_builtin; refine wpList_append_own _ rfl _ _ 43 rfl w.heap.size 5 i0 (.int .u8 0) 1 1 Tryd.underlying43 hi hz0 hz1 hz2 rfl (by decide) _ _ _ rfl HOX.out ⟨gn, 0, none⟩ 2 2 [.int .u8 (d1.toNat : Int), .int .u8 (d2.toNat : Int)] rfl rfl HN.out (by intro u hu; simp at hu; rcases hu with rfl | rfl <;> rfl) (by unfold maxLen; omega) (by omega) HXz ?_; intro v' w' HO HG2 hnil)
        refine ⟨⟨k + 1, by go_num, by omega, ?_, Below.grown HBX.out HG2 HXz (fun j hj => (HOX.out.lt j hj).1)⟩, by simp only [intOf]; omega⟩
        rw [HT.out, show B (hexN (s.data.toList.take k) ++ [d1, d2]) = B (hexN (s.data.toList.take k)) ++ [.int .u8 (d1.toNat : Int), .int .u8 (d2.toNat : Int)] from by unfold B; rw [List.map_append]; rfl]
        exact HO
    · obtain rfl : k = s.size := by omega
      have hki : ¬ (s.size : Int) < (s.size : Int) := by omega
      rw [List.take_of_length_le (by simp)] at hown
      have hl := hex_len s.data.toList
      have hds : s.data.toList.length = s.size := by simp
      rw [hds] at hl
      have hcv := own_str hown
      obtain ⟨sp, cap, rfl⟩ := row_form hown
      clear hown hl hds
      go_wp2
      go_ret
      exact ⟨rfl, hbr⟩
end Go.Proofs.YtpledmomljjfeaaDoor
