/- Bytes as digits, as package sha writes them. -/
import Derived.Test.YtfcmgodeehjnoaaDoorHexM
import Derived.Test.YtfcmgodeehjnoaaDoorFillM
import Derived.Test.YtfcmgodeehjnoaaDoorMonoT
import Derived.OwnWalk
import Derived.Laws.OwnMore
import Derived.Laws.AppendOwnNone
import Derived.Lib.AppendZeros
namespace Go.Proofs.YtfcmgodeehjnoaaDoor
open Go.RowKit Go.Sort
theorem byteInfo : (Tryd.prog.info? 5).map (fun i => (i.zero, i.size, i.bytes)) = some (some (.int .u8 0), 1, 1) := by kernel_rfl
theorem info_parts' {t : TypeId} {z : Value} {s b : Nat} (h : (Tryd.prog.info? t).map (fun i => (i.zero, i.size, i.bytes)) = some (some z, s, b)) : ∃ i, Tryd.prog.info? t = some i ∧ i.zero = some z ∧ i.size = s ∧ i.bytes = b := by
  obtain ⟨i, h1, h2⟩ := Option.map_eq_some_iff.1 h
  simp only [Prod.mk.injEq] at h2
  exact ⟨i, h1, h2.1, h2.2.1, h2.2.2⟩
def digS : ByteArray := ⟨#[48, 49, 50, 51, 52, 53, 54, 55, 56, 57, 97, 98, 99, 100, 101, 102]⟩
theorem dig_get : ∀ i, (h : i < 16) → (digS[i]'h) = digN i := by
  intro i h
  match i, h with
  | 0, _ => rfl
  | 1, _ => rfl
  | 2, _ => rfl
  | 3, _ => rfl
  | 4, _ => rfl
  | 5, _ => rfl
  | 6, _ => rfl
  | 7, _ => rfl
  | 8, _ => rfl
  | 9, _ => rfl
  | 10, _ => rfl
  | 11, _ => rfl
  | 12, _ => rfl
  | 13, _ => rfl
  | 14, _ => rfl
  | 15, _ => rfl
  | i + 16, h => omega
theorem exec_index_str {o : Oper} {ev : Operand → Value} {x y : Operand} {s : ByteArray} {k : IntKind} {i : Nat} (ho : o.op = Op.index 9 x y) (hx : ev x = .string s) (hy : ev y = .int k (i : Int)) (h : i < s.size) (w : World) :
    (execOp ev o).run Tryd.prog w = .ok (.value (.int .u8 (s[i].toNat : Int))) w := by
  have h1 : (i : Int) < (s.size : Int) := by omega
  simp [execOp, ho, hx, hy, go_sem, h1]
/-- Two bytes in a new row. -/
def Two8 (b c : UInt8) (v : Value) (X : World) : Prop := ∃ g : Nat, v = .slice (some ⟨g, 0, none⟩) 2 2 ∧ g < X.heap.size ∧ X.cell? ⟨g, 0, none⟩ = some (.int .u8 (b.toNat : Int)) ∧ X.cell? ⟨g, 1, none⟩ = some (.int .u8 (c.toNat : Int))
theorem Two8.mono {b c : UInt8} {v : Value} {X Y : World} (h : Two8 b c v X) (hb : Below X.heap.size X Y) : Two8 b c v Y := by
  obtain ⟨g, h1, h2, h3, h4⟩ := h
  exact ⟨g, h1, Nat.lt_of_lt_of_le h2 hb.size, (hb.cell (p := ⟨g, 0, none⟩) h2).trans h3, (hb.cell (p := ⟨g, 1, none⟩) h2).trans h4⟩
theorem own_str {w : World} {base n : Nat} {v : Value} {l : List UInt8} (h : w.ownsRow base 5 1 v n (B l)) : (Go.convert 35 9 v).run Tryd.prog w = .ok (.string ⟨l.toArray⟩) w := by
  have hl := h.1
  rw [B_len, Nat.mul_one] at hl
  subst hl
  have hc := h
  rcases h.2 with ⟨rfl, h0⟩ | ⟨g, cap, cur, rfl, _⟩
  · obtain rfl := List.eq_nil_of_length_eq_zero h0
    rw [run_convert_bytes_string w 35 9 5 none 0 0 Tryd.underlying35 Tryd.underlying5 Tryd.underlying9]
    simp [Conv.bytesToString]; try rfl
  · refine run_convert_bytes_back w _ _ 5 ⟨g, 0, none⟩ cap l Tryd.underlying35 Tryd.underlying5 Tryd.underlying9 (fun j hj => ?_)
    have h1 := hc.cellAt j (by omega)
    rw [Addr.add_mid, Nat.zero_add, h1]
    unfold B; rw [List.getElem?_map, List.getElem?_eq_getElem hj]; rfl
theorem hex_snoc (l : List UInt8) (b : UInt8) : hexN (l ++ [b]) = hexN l ++ [digN (b.toNat / 16), digN (b.toNat % 16)] := by
  unfold hexN; rw [List.flatMap_append]; rfl
set_option maxRecDepth 100000 in
set_option maxHeartbeats 2000000 in
theorem Hex_any (s : ByteArray) (w : World) (hs : s.size ≤ 16777216) : Calls Tryd.prog 11 #[.string s] w fun e w' => e = .returned (.string ⟨(hexN s.data.toList).toArray⟩) ∧ Below w.heap.size w w' := by
  obtain ⟨i0, hi, hz0, hz1, hz2⟩ := info_parts' byteInfo
  have hml : 2 * s.size ≤ maxLen := by unfold maxLen; omega
  have hm2 : i0.bytes * (2 * s.size) ≤ 281474976710656 := by rw [hz2]; omega
  have hc2 : IntKind.i64.wrap (2 * (s.size : Int)) = ((2 * s.size : Nat) : Int) := by rw [IntKind.wrap_i64]; omega
  go_enter Tryd.func11, Tryd.ntmps11
  go_wp2_with (at_make; refine wpList_make_own _ rfl _ _ 35 rfl w.heap.size 5 i0 (.int .u8 0) 1 Tryd.underlying35 hi hz0 hz1 .i64 .i64 _ (2 * s.size) rfl rfl (by omega) hm2 hml (Nat.le_refl _) ?_; intro w0 hown0 hgrow0)
  have hb0 : Below w.heap.size w w0 := Below.grown (Below.refl _ _) hgrow0 (Nat.le_refl _) (fun j hj => by cases hj)
  clear hgrow0 hml hm2 hc2
  go_loopw [3, 11] (fun r i wr => ∃ k : Nat, i = .int .i64 k ∧ k ≤ s.size ∧ wr.ownsRow w.heap.size 5 1 r (2 * k) (B (hexN (s.data.toList.take k))) ∧ Below w.heap.size w wr) (fun _ i _ => (s.size - intOf i).toNat)
  case atStart => exact ⟨0, rfl, by omega, hown0, hb0⟩
  case round =>
    obtain ⟨k, rfl, hk, hown, hbr⟩ := hrel
    clear hown0 hb0
    by_cases hlt : k < s.size
    · have hki : (k : Int) < (s.size : Int) := by omega
      obtain ⟨b, hb⟩ : ∃ b, s[k] = b := ⟨_, rfl⟩
      have hbl := b.toNat_lt
      have hds : s.data.toList.length = s.size := by simp
      have hbk : s.data.toList[k]'(by omega) = b := by rw [← hb]; rfl
      have HT : Hid (hexN (s.data.toList.take (k + 1)) = hexN (s.data.toList.take k) ++ [digN (b.toNat / 16), digN (b.toNat % 16)]) := Lib.hid (by
        rw [List.take_succ_eq_append_getElem (by omega), hbk, hex_snoc])
      have HD1 := Lib.hid (fun h => dig_get (b.toNat / 16) h)
      have HD2 := Lib.hid (fun h => dig_get (b.toNat % 16) h)
      have HL : Hid (b.toNat / 16 < 16 ∧ b.toNat % 16 < 16) := Lib.hid ⟨by omega, by omega⟩
      obtain ⟨d1, hd1⟩ : ∃ d1, digN (b.toNat / 16) = d1 := ⟨_, rfl⟩
      obtain ⟨d2, hd2⟩ : ∃ d2, digN (b.toNat % 16) = d2 := ⟨_, rfl⟩
      rw [hd1] at HT HD1
      rw [hd2] at HT HD2
      have HAnd : Hid (bits .and .u8 (b.toNat : Int) 15 = ((b.toNat % 16 : Nat) : Int)) := Lib.hid (by
        have := u8_and_nat b.toNat 15 hbl (by decide)
        rw [nat_mask4] at this
        exact this)
      obtain ⟨sp, cap, rfl⟩ := row_form hown
      have HOwn := Lib.hid hown
      have HB := Lib.hid hbr
      have HS := Lib.hid (show s.size ≤ 16777216 from hs)
      have HK := Lib.hid hlt
      have HG : Hid (s[k] = b) := Lib.hid hb
      clear hown hbr hd1 hd2 hds hbk hbl hb hs
      go_upto_region 5 with fail
      refine wp_region_monoT 12 12 (fun kq uq Xq => match kq with | 14 => uq = .slice sp (2 * k) cap | 15 => uq = .string s | 16 => uq = .int .i64 k | 17 => uq = .int .u8 (b.toNat : Int) | 18 => uq = .int .u8 ((b.toNat / 16 : Nat) : Int) | 19 => uq = .int .u8 (d1.toNat : Int) | 20 => uq = .string s | 21 => uq = .int .i64 k | 22 => uq = .int .u8 (b.toNat : Int) | 23 => uq = .int .u8 ((b.toNat % 16 : Nat) : Int) | 24 => uq = .int .u8 (d2.toNat : Int) | 25 => Two8 d1 d2 (uq) Xq | _ => True) (by kernel_rfl) (by kernel_rfl) (by kernel_rfl) (by kernel_rfl) (by simp) (by kernel_rfl) ?_ ?_ ?_
      · intro kq v W W' h hb
        revert h
        try dsimp only
        split
        · intro h; exact h
        · intro h; exact h
        · intro h; exact h
        · intro h; exact h
        · intro h; exact h
        · intro h; exact h
        · intro h; exact h
        · intro h; exact h
        · intro h; exact h
        · intro h; exact h
        · intro h; exact h
        · intro h; exact Two8.mono h hb
        · intro h; trivial
      · intro a' X hB hs hk i o d ho hd hG
        match i, ho with
        | 0, ho =>
          obtain rfl : _ = o := Option.some.inj ho
          obtain rfl : 14 = d := Option.some.inj hd
          have g3 : a'.eval (.tmp 3) = .slice sp (2 * k) cap := hk 3 (by kernel_rfl)
          obtain ⟨ev, hev⟩ : ∃ ev, a'.eval = ev := ⟨_, rfl⟩
          rw [hev] at g3 ⊢
          clear hev hG hk
          exact .inr ⟨rfl, .inl ⟨.slice sp (2 * k) cap, X, by clear hs; go_simp, Below.refl _ _, rfl⟩⟩
        | 1, ho =>
          obtain rfl : _ = o := Option.some.inj ho
          obtain rfl : 15 = d := Option.some.inj hd
          have g0 : a'.eval (.tmp 0) = .string s := hk 0 (by kernel_rfl)
          obtain ⟨ev, hev⟩ : ∃ ev, a'.eval = ev := ⟨_, rfl⟩
          rw [hev] at g0 ⊢
          clear hev hG hk
          exact .inr ⟨rfl, .inl ⟨.string s, X, by clear hs; go_simp, Below.refl _ _, rfl⟩⟩
        | 2, ho =>
          obtain rfl : _ = o := Option.some.inj ho
          obtain rfl : 16 = d := Option.some.inj hd
          have g4 : a'.eval (.tmp 4) = .int .i64 k := hk 4 (by kernel_rfl)
          obtain ⟨ev, hev⟩ : ∃ ev, a'.eval = ev := ⟨_, rfl⟩
          rw [hev] at g4 ⊢
          clear hev hG hk
          exact .inr ⟨rfl, .inl ⟨.int .i64 k, X, by clear hs; go_simp, Below.refl _ _, rfl⟩⟩
        | 3, ho =>
          obtain rfl : _ = o := Option.some.inj ho
          obtain rfl : 17 = d := Option.some.inj hd
          have g15 : a'.eval (.tmp 15) = .string s := hG ⟨1, .data⟩ (by simp) rfl 15 rfl
          have g16 : a'.eval (.tmp 16) = .int .i64 k := hG ⟨2, .data⟩ (by simp) rfl 16 rfl
          obtain ⟨ev, hev⟩ : ∃ ev, a'.eval = ev := ⟨_, rfl⟩
          rw [hev] at g15 g16 ⊢
          clear hev hG hk
          exact .inr ⟨rfl, .inl ⟨.int .u8 (b.toNat : Int), X, by rw [← HG.out]; exact exec_index_str (s := s) (i := k) rfl g15 g16 HK.out X, Below.refl _ _, rfl⟩⟩
        | 4, ho =>
          obtain rfl : _ = o := Option.some.inj ho
          obtain rfl : 18 = d := Option.some.inj hd
          have g17 : a'.eval (.tmp 17) = .int .u8 (b.toNat : Int) := hG ⟨3, .data⟩ (by simp) rfl 17 rfl
          have k0 : a'.eval (.const (.int .u64 4)) = (.int .u64 4) := rfl
          obtain ⟨ev, hev⟩ : ∃ ev, a'.eval = ev := ⟨_, rfl⟩
          rw [hev] at g17 k0 ⊢
          clear hev hG hk
          exact .inr ⟨rfl, .inl ⟨.int .u8 ((b.toNat / 16 : Nat) : Int), X, by clear hs; go_simp, Below.refl _ _, rfl⟩⟩
        | 5, ho =>
          obtain rfl : _ = o := Option.some.inj ho
          obtain rfl : 19 = d := Option.some.inj hd
          have g18 : a'.eval (.tmp 18) = .int .u8 ((b.toNat / 16 : Nat) : Int) := hG ⟨4, .data⟩ (by simp) rfl 18 rfl
          have k0 : a'.eval (.const (.string ⟨#[48, 49, 50, 51, 52, 53, 54, 55, 56, 57, 97, 98, 99, 100, 101, 102]⟩)) = (.string ⟨#[48, 49, 50, 51, 52, 53, 54, 55, 56, 57, 97, 98, 99, 100, 101, 102]⟩) := rfl
          obtain ⟨ev, hev⟩ : ∃ ev, a'.eval = ev := ⟨_, rfl⟩
          rw [hev] at g18 k0 ⊢
          clear hev hG hk
          exact .inr ⟨rfl, .inl ⟨.int .u8 (d1.toNat : Int), X, by rw [← HD1.out HL.out.1]; exact exec_index_str (s := digS) (i := b.toNat / 16) rfl k0 g18 HL.out.1 X, Below.refl _ _, rfl⟩⟩
        | 6, ho =>
          obtain rfl : _ = o := Option.some.inj ho
          obtain rfl : 20 = d := Option.some.inj hd
          have g0 : a'.eval (.tmp 0) = .string s := hk 0 (by kernel_rfl)
          obtain ⟨ev, hev⟩ : ∃ ev, a'.eval = ev := ⟨_, rfl⟩
          rw [hev] at g0 ⊢
          clear hev hG hk
          exact .inr ⟨rfl, .inl ⟨.string s, X, by clear hs; go_simp, Below.refl _ _, rfl⟩⟩
        | 7, ho =>
          obtain rfl : _ = o := Option.some.inj ho
          obtain rfl : 21 = d := Option.some.inj hd
          have g4 : a'.eval (.tmp 4) = .int .i64 k := hk 4 (by kernel_rfl)
          obtain ⟨ev, hev⟩ : ∃ ev, a'.eval = ev := ⟨_, rfl⟩
          rw [hev] at g4 ⊢
          clear hev hG hk
          exact .inr ⟨rfl, .inl ⟨.int .i64 k, X, by clear hs; go_simp, Below.refl _ _, rfl⟩⟩
        | 8, ho =>
          obtain rfl : _ = o := Option.some.inj ho
          obtain rfl : 22 = d := Option.some.inj hd
          have g20 : a'.eval (.tmp 20) = .string s := hG ⟨6, .data⟩ (by simp) rfl 20 rfl
          have g21 : a'.eval (.tmp 21) = .int .i64 k := hG ⟨7, .data⟩ (by simp) rfl 21 rfl
          obtain ⟨ev, hev⟩ : ∃ ev, a'.eval = ev := ⟨_, rfl⟩
          rw [hev] at g20 g21 ⊢
          clear hev hG hk
          exact .inr ⟨rfl, .inl ⟨.int .u8 (b.toNat : Int), X, by rw [← HG.out]; exact exec_index_str (s := s) (i := k) rfl g20 g21 HK.out X, Below.refl _ _, rfl⟩⟩
        | 9, ho =>
          obtain rfl : _ = o := Option.some.inj ho
          obtain rfl : 23 = d := Option.some.inj hd
          have g22 : a'.eval (.tmp 22) = .int .u8 (b.toNat : Int) := hG ⟨8, .data⟩ (by simp) rfl 22 rfl
          have k0 : a'.eval (.const (.int .u8 15)) = (.int .u8 15) := rfl
          obtain ⟨ev, hev⟩ : ∃ ev, a'.eval = ev := ⟨_, rfl⟩
          rw [hev] at g22 k0 ⊢
          clear hev hG hk
          have hand := HAnd.out
          exact .inr ⟨rfl, .inl ⟨.int .u8 ((b.toNat % 16 : Nat) : Int), X, by clear hs; go_simp, Below.refl _ _, rfl⟩⟩
        | 10, ho =>
          obtain rfl : _ = o := Option.some.inj ho
          obtain rfl : 24 = d := Option.some.inj hd
          have g23 : a'.eval (.tmp 23) = .int .u8 ((b.toNat % 16 : Nat) : Int) := hG ⟨9, .data⟩ (by simp) rfl 23 rfl
          have k0 : a'.eval (.const (.string ⟨#[48, 49, 50, 51, 52, 53, 54, 55, 56, 57, 97, 98, 99, 100, 101, 102]⟩)) = (.string ⟨#[48, 49, 50, 51, 52, 53, 54, 55, 56, 57, 97, 98, 99, 100, 101, 102]⟩) := rfl
          obtain ⟨ev, hev⟩ : ∃ ev, a'.eval = ev := ⟨_, rfl⟩
          rw [hev] at g23 k0 ⊢
          clear hev hG hk
          exact .inr ⟨rfl, .inl ⟨.int .u8 (d2.toNat : Int), X, by rw [← HD2.out HL.out.2]; exact exec_index_str (s := digS) (i := b.toNat % 16) rfl k0 g23 HL.out.2 X, Below.refl _ _, rfl⟩⟩
        | 11, ho =>
          obtain rfl : _ = o := Option.some.inj ho
          obtain rfl : 25 = d := Option.some.inj hd
          have g19 : a'.eval (.tmp 19) = .int .u8 (d1.toNat : Int) := hG ⟨5, .data⟩ (by simp) rfl 19 rfl
          have g24 : a'.eval (.tmp 24) = .int .u8 (d2.toNat : Int) := hG ⟨10, .data⟩ (by simp) rfl 24 rfl
          obtain ⟨ev, hev⟩ : ∃ ev, a'.eval = ev := ⟨_, rfl⟩
          rw [hev] at g19 g24 ⊢
          clear hev hG hk
          refine .inr ⟨rfl, .inl ⟨.slice (some ⟨X.heap.size, 0, none⟩) 2 2, X.alloc (.cells #[.int .u8 (d1.toNat : Int), .int .u8 (d2.toNat : Int)] 5), by clear hs; go_simp, (Below.refl _ _).alloc (Nat.le_refl _) _, ?_⟩⟩
          exact ⟨X.heap.size, rfl, by simp, by simp [go_sem], by simp [go_sem]⟩
        | j + 12, ho => simp at ho
      · intro a' X hB hs hdf hk hG
        obtain ⟨tm, df⟩ := a'
        obtain rfl : df = [] := hdf
        have e0 : tm.getD 0 undef = .string s := hk 0 (by kernel_rfl)
        have e1 : tm.getD 1 undef = undef := hk 1 (by kernel_rfl)
        have e2 : tm.getD 2 undef = .string { data := #[] } := hk 2 (by kernel_rfl)
        have e3 : tm.getD 3 undef = .slice sp (2 * k) cap := hk 3 (by kernel_rfl)
        have e4 : tm.getD 4 undef = .int .i64 k := hk 4 (by kernel_rfl)
        have e5 : tm.getD 5 undef = .string s := hk 5 (by kernel_rfl)
        have e6 : tm.getD 6 undef = .int .i64 s.size := hk 6 (by kernel_rfl)
        have e7 : tm.getD 7 undef = .int .i64 (2 * s.size) := hk 7 (by kernel_rfl)
        have e8 : tm.getD 8 undef = .slice (some ⟨w.heap.size, 0, none⟩) 0 (2 * s.size) := hk 8 (by kernel_rfl)
        have e9 : tm.getD 9 undef = .string s := hk 9 (by kernel_rfl)
        have e10 : tm.getD 10 undef = .int .i64 s.size := hk 10 (by kernel_rfl)
        have e11 : tm.getD 11 undef = .int .i64 k := hk 11 (by kernel_rfl)
        have e12 : tm.getD 12 undef = .bool true := hk 12 (by kernel_rfl)
        have e13 : tm.getD 13 undef = .int .i64 k := hk 13 (by kernel_rfl)
        have e26 : tm.getD 26 undef = u26 := hk 26 (by kernel_rfl)
        have e27 : tm.getD 27 undef = u27 := hk 27 (by kernel_rfl)
        have e28 : tm.getD 28 undef = undef := hk 28 (by kernel_rfl)
        have e29 : tm.getD 29 undef = undef := hk 29 (by kernel_rfl)
        have g14 : (tm.getD 14 undef) = .slice sp (2 * k) cap := hG 0 14 (by decide) rfl
        have g15 : (tm.getD 15 undef) = .string s := hG 1 15 (by decide) rfl
        have g16 : (tm.getD 16 undef) = .int .i64 k := hG 2 16 (by decide) rfl
        have g17 : (tm.getD 17 undef) = .int .u8 (b.toNat : Int) := hG 3 17 (by decide) rfl
        have g18 : (tm.getD 18 undef) = .int .u8 ((b.toNat / 16 : Nat) : Int) := hG 4 18 (by decide) rfl
        have g19 : (tm.getD 19 undef) = .int .u8 (d1.toNat : Int) := hG 5 19 (by decide) rfl
        have g20 : (tm.getD 20 undef) = .string s := hG 6 20 (by decide) rfl
        have g21 : (tm.getD 21 undef) = .int .i64 k := hG 7 21 (by decide) rfl
        have g22 : (tm.getD 22 undef) = .int .u8 (b.toNat : Int) := hG 8 22 (by decide) rfl
        have g23 : (tm.getD 23 undef) = .int .u8 ((b.toNat % 16 : Nat) : Int) := hG 9 23 (by decide) rfl
        have g24 : (tm.getD 24 undef) = .int .u8 (d2.toNat : Int) := hG 10 24 (by decide) rfl
        have g25 : Two8 d1 d2 ((tm.getD 25 undef)) X := hG 11 25 (by decide) rfl
        have htm := arr_of tm ((.string s : Value) :: (undef : Value) :: (.string { data := #[] } : Value) :: (.slice sp (2 * k) cap : Value) :: (.int .i64 k : Value) :: (.string s : Value) :: (.int .i64 s.size : Value) :: (.int .i64 (2 * s.size) : Value) :: (.slice (some ⟨w.heap.size, 0, none⟩) 0 (2 * s.size) : Value) :: (.string s : Value) :: (.int .i64 s.size : Value) :: (.int .i64 k : Value) :: (.bool true : Value) :: (.int .i64 k : Value) :: (tm.getD 14 undef : Value) :: (tm.getD 15 undef : Value) :: (tm.getD 16 undef : Value) :: (tm.getD 17 undef : Value) :: (tm.getD 18 undef : Value) :: (tm.getD 19 undef : Value) :: (tm.getD 20 undef : Value) :: (tm.getD 21 undef : Value) :: (tm.getD 22 undef : Value) :: (tm.getD 23 undef : Value) :: (tm.getD 24 undef : Value) :: (tm.getD 25 undef : Value) :: (u26 : Value) :: (u27 : Value) :: (undef : Value) :: (undef : Value) :: []) hs (by show (tm.getD 0 undef :: tm.getD 1 undef :: tm.getD 2 undef :: tm.getD 3 undef :: tm.getD 4 undef :: tm.getD 5 undef :: tm.getD 6 undef :: tm.getD 7 undef :: tm.getD 8 undef :: tm.getD 9 undef :: tm.getD 10 undef :: tm.getD 11 undef :: tm.getD 12 undef :: tm.getD 13 undef :: tm.getD 14 undef :: tm.getD 15 undef :: tm.getD 16 undef :: tm.getD 17 undef :: tm.getD 18 undef :: tm.getD 19 undef :: tm.getD 20 undef :: tm.getD 21 undef :: tm.getD 22 undef :: tm.getD 23 undef :: tm.getD 24 undef :: tm.getD 25 undef :: tm.getD 26 undef :: tm.getD 27 undef :: tm.getD 28 undef :: tm.getD 29 undef :: []) = _; rw [e0, e1, e2, e3, e4, e5, e6, e7, e8, e9, e10, e11, e12, e13, e26, e27, e28, e29]; try rfl)
        clear hs hk hG e0 e1 e2 e3 e4 e5 e6 e7 e8 e9 e10 e11 e12 e13 e26 e27 e28 e29
        generalize tm.getD 14 undef = t14 at htm g14
        generalize tm.getD 15 undef = t15 at htm g15
        generalize tm.getD 16 undef = t16 at htm g16
        generalize tm.getD 17 undef = t17 at htm g17
        generalize tm.getD 18 undef = t18 at htm g18
        generalize tm.getD 19 undef = t19 at htm g19
        generalize tm.getD 20 undef = t20 at htm g20
        generalize tm.getD 21 undef = t21 at htm g21
        generalize tm.getD 22 undef = t22 at htm g22
        generalize tm.getD 23 undef = t23 at htm g23
        generalize tm.getD 24 undef = t24 at htm g24
        generalize tm.getD 25 undef = t25 at htm g25
        subst htm
        subst g14
        subst g15
        subst g16
        subst g17
        subst g18
        subst g19
        subst g20
        subst g21
        subst g22
        subst g23
        subst g24
        simp only [List.drop_succ_cons, List.drop_zero]
        obtain ⟨gn, rfl, hgl, hc0, hc1⟩ := g25
        have HOX := Lib.hid (row_same HOwn.out (fun j hj => hB.block j (HOwn.out.lt j hj).2))
        have HBX := Lib.hid (HB.out.trans (hB.mono HB.out.size))
        have HXz : w.heap.size ≤ X.heap.size := HBX.out.size
        have HN : Hid (∀ j u, [Value.int .u8 (d1.toNat : Int), .int .u8 (d2.toNat : Int)][j]? = some u → X.cell? ((⟨gn, 0, none⟩ : Addr).add j) = some u) := fun j u hu => by
          match j, hu with
          | 0, hu => simp at hu; subst hu; simpa [Addr.add] using hc0
          | 1, hu => simp at hu; subst hu; simpa [Addr.add] using hc1
        have hK := HK.out
        have hS := HS.out
        clear hc0 hc1 hgl hB
        go_wp2_with (at_builtin; refine wpList_append_own _ rfl _ _ 35 rfl w.heap.size 5 i0 (.int .u8 0) 1 1 Tryd.underlying35 hi hz0 hz1 hz2 rfl (by decide) _ _ _ rfl HOX.out ⟨gn, 0, none⟩ 2 2 [.int .u8 (d1.toNat : Int), .int .u8 (d2.toNat : Int)] rfl rfl HN.out (by intro u hu; simp at hu; rcases hu with rfl | rfl <;> rfl) (by unfold maxLen; omega) (by omega) HXz ?_; intro v' w' HO HG2 hnil)
        refine ⟨⟨k + 1, by go_num, by omega, ?_, Below.grown HBX.out HG2 HXz (fun j hj => (HOX.out.lt j hj).1)⟩, by simp only [intOf]; omega⟩
        rw [HT.out, show B (hexN (s.data.toList.take k) ++ [d1, d2]) = B (hexN (s.data.toList.take k)) ++ [.int .u8 (d1.toNat : Int), .int .u8 (d2.toNat : Int)] from by unfold B; rw [List.map_append]; rfl]
        exact HO
    · obtain rfl : k = s.size := by omega
      have hki : ¬ (s.size : Int) < (s.size : Int) := by omega
      rw [List.take_of_length_le (by simp)] at hown
      have hl := hex_len s.data.toList
      have hds : s.data.toList.length = s.size := by simp
      rw [hds] at hl
      have hcv := own_str hown
      obtain ⟨sp, cap, rfl⟩ := row_form hown
      clear hown hl hds
      go_wp2
      go_ret
      exact ⟨rfl, hbr⟩
end Go.Proofs.YtfcmgodeehjnoaaDoor
