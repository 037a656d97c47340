/- One step on both: Write and SetWord. -/
import Derived.Test.YtpedinpjdepjdaaStepR
import Derived.Deep.CutBlock
namespace Go.Proofs.Ytpedinpjdepjdaa
open Go.RowKit Go.Lib
/-- What Write of both answers. -/
theorem writes_both (b0 Bb : Nat) (v : Value) (d : List UInt8) (a : Int) (l : List ByteArray) (hd : d.length ≤ 4096) (hs : sumL l < 1099511627776) (hl : l.length < 1099511627776) (ha : a ≤ 9223372036854775807) : ∃ (E : Int) (d' : List UInt8), d'.length ≤ 4096 ∧
    (∀ W ls p cap, BAt W b0 Bb d ls → PsAt W p l → Calls Try.prog 13 #[.pointer (some ⟨Bb, 0, none⟩), .int .i64 a, .slice p l.length cap] W fun e w' => e = .returned (.int .i64 E) ∧ (∃ ls', BAt w' b0 Bb d' ls') ∧ Below b0 W w' ∧ Fr W w') ∧
    (∀ W, W.ownsRow 0 5 1 v d.length (u8s d) → Calls Try.prog 19 #[v, .int .i64 a, .string ⟨(catL l).toArray⟩] W fun e w' => ∃ v', e = .returned (.tuple #[v', .int .i64 E]) ∧ w'.ownsRow 0 5 1 v' d'.length (u8s d') ∧ Below W.heap.size W w') := by
  have hsc : (⟨(catL l).toArray⟩ : ByteArray).size = sumL l := by rw [← catL_len l]; simp [ByteArray.size]
  cases hf : fitR d.length a (sumL l) with
  | true =>
    refine ⟨0, over d a.toNat (catL l), ?_, fun W ls p cap hA hp => ?_, fun W hr => ?_⟩
    · rw [over_len]; exact hd
    · have := Write_any b0 Bb d ls p cap a l W hA hp (by omega) (by omega) ha
      simp only [fit_eq, hf, if_true] at this
      exact this
    · have := refWrite_any 0 v d a ⟨(catL l).toArray⟩ W hd hr (by rw [hsc]; exact hf) (by rw [hsc]; omega)
      exact this.mono fun e w' ⟨v', h1, h2, h3⟩ => ⟨v', h1, row_mono h2 (Nat.zero_le _), h3⟩
  | false =>
    refine ⟨9, d, hd, fun W ls p cap hA hp => ?_, fun W hr => ?_⟩
    · have := Write_any b0 Bb d ls p cap a l W hA hp (by omega) (by omega) ha
      simp only [fit_eq, hf, Bool.false_eq_true, if_false] at this
      exact this.mono fun e w' ⟨h1, h2⟩ => ⟨h1, by rw [h2]; exact ⟨ls, hA⟩, by rw [h2]; exact Below.refl _ _, by rw [h2]; exact Fr.refl _⟩
    · have := refWrite_no 0 v d a ⟨(catL l).toArray⟩ W hd hr (by rw [hsc]; exact hf)
      exact this.mono fun e w' ⟨h1, h2⟩ => ⟨v, h1, by rw [h2]; exact hr, by rw [h2]; exact Below.refl _ _⟩
set_option maxRecDepth 100000 in
set_option maxHeartbeats 4000000 in
theorem step_write (b0 Bb : Nat) (v : Value) (d : List UInt8) (a n x : Int) (p : Option Addr) (cap : Nat) (l : List ByteArray) (w : World) (h : Both w b0 Bb v d) (hb : b0 ≤ w.heap.size) (hp : CsAt w p l) (hpb : l ≠ [] → ∀ ad, p = some ad → ad.block < b0) (hnil : l = [] → p = none → cap = 0) (hs : sumL l < 1099511627776) (hl : l.length < 1099511627776) (ha : a ≤ 9223372036854775807) :
    Calls Try.prog 9 #[.pointer (some ⟨Bb, 0, none⟩), v, .agg #[.int .i64 2, .int .i64 a, .int .i64 n, .slice p l.length cap, .int .u64 x]] w fun e w' => ∃ v' d', e = .returned (.tuple #[v', .bool true]) ∧ Both w' b0 Bb v' d' ∧ Below b0 w w' ∧ Fz w w' := by
  obtain ⟨⟨ls, hA⟩, hr, hd⟩ := h
  obtain ⟨E, d', hd', HWr, HRf⟩ := writes_both b0 Bb v d a l hd hs hl ha
  have hbA : Below w.heap.size w (w.alloc (.cells #[.int .i64 2, .int .i64 a, .int .i64 n, .slice p l.length cap, .int .u64 x] 35)) := (Below.refl _ _).alloc (Nat.le_refl _) _
  have HA := Lib.hid hA
  have HRow := Lib.hid hr
  clear hA hr
  go_enter Try.func9, Try.ntmps9
  obtain ⟨X, hX⟩ : ∃ X, w.alloc (.cells #[.int .i64 2, .int .i64 a, .int .i64 n, .slice p l.length cap, .int .u64 x] 35) = X := ⟨_, rfl⟩
  rw [hX] at hbA
  have hXs : X.heap.size = w.heap.size + 1 := by rw [← hX]; simp
  have hXo : X.heap[w.heap.size]? = some (.cells #[.int .i64 2, .int .i64 a, .int .i64 n, .slice p l.length cap, .int .u64 x] 35 (0, 0)) := by rw [← hX]; exact heap_new _ _
  have hO0 : (X.alloc (.cells #[] 9)).ownsRow X.heap.size 9 1 (.slice (some ⟨X.heap.size, 0, none⟩) 0 0) ([] : List ByteArray).length (sts []) := World.ownsRow_lit (base := X.heap.size) (e := 9) (size := 1) X #[] 0 (Nat.le_refl _) (by decide) rfl
  have hbX0 : Below X.heap.size X (X.alloc (.cells #[] 9)) := (Below.refl _ _).alloc (Nat.le_refl _) _
  have hzX : X.heap.size ≤ (X.alloc (.cells #[] 9)).heap.size := by simp
  have hpX := (hp.below hbA).below hbX0
  rw [hXs] at hO0 hbX0 hzX
  have HX := Lib.hid hX
  have HXs := Lib.hid hXs
  have HXo := Lib.hid hXo
  clear hX hXs hXo
  go_wp2_with (at_builtin; rw [HX.out]; refine app_st rfl _ _ rfl (w.heap.size + 1) _ p cap [] l rfl hO0 hzX (by simp; omega) rfl hpX hnil ?_; intro v2 w2 hown2 hb2; refine Hid.out ?_)
  refine Lib.hid ?_
  rw [List.nil_append] at hown2
  have hb12 := hbX0.trans hb2
  have hz2 := hb12.size
  rw [HXs.out] at hz2
  have hO2 := hown2.alloc (.cells #[.string ⟨#[115, 112, 97, 114, 101]⟩] 9)
  have hP2 : PsAt (w2.alloc (.cells #[.string ⟨#[115, 112, 97, 114, 101]⟩] 9)) (some ⟨w2.heap.size, 0, none⟩) [⟨#[115, 112, 97, 114, 101]⟩] := .inr ⟨_, 0, _, _, rfl, heap_new _ _, fun j hj => by
    have : j = 0 := by simpa using hj
    subst this; rfl⟩
  have hz2a : w.heap.size + 1 ≤ (w2.alloc (.cells #[.string ⟨#[115, 112, 97, 114, 101]⟩] 9)).heap.size := by simp; omega
  have hb2a : Below (w.heap.size + 1) X (w2.alloc (.cells #[.string ⟨#[115, 112, 97, 114, 101]⟩] 9)) := hb12.alloc hz2 _
  clear hO0 hbX0 hzX hpX hown2 hb2 hb12
  go_wp2_with (at_builtin; refine app_st rfl _ _ rfl (w.heap.size + 1) _ (some ⟨w2.heap.size, 0, none⟩) 1 l [⟨#[115, 112, 97, 114, 101]⟩] rfl hO2 hz2a (by simp; omega) rfl hP2.cs (fun h => by cases h) ?_; intro v3 w3 hown3 hb3; refine Hid.out ?_)
  refine Lib.hid ?_
  have hb13 : Below (w.heap.size + 1) X w3 := hb2a.trans hb3
  have hbw3 : Below w.heap.size w w3 := hbA.trans (hb13.mono (by omega))
  obtain ⟨g, c, cur, fz, rfl, hgc, hg3⟩ : ∃ g c cur fz, v3 = .slice (some ⟨g, 0, none⟩) (l.length + 1) c ∧ l.length + 1 ≤ c ∧ w3.heap[g]? = some (.cells cur 9 fz) := by
    rcases hown3.2 with ⟨_, h0⟩ | ⟨g, c, cur, hv, _, hgb, hle, _⟩
    · simp at h0
    · exact ⟨g, c, cur, _, by rw [hv]; simp, by simpa using hle, hgb⟩
  have hown3b : w3.ownsRow (w.heap.size + 1) 9 1 (.slice (some ⟨g, 0, none⟩) (l.length + 1) c) (l.length + 1) (sts (l ++ [(⟨#[115, 112, 97, 114, 101]⟩ : ByteArray)])) := by simpa using hown3
  have hcur : ∀ j (h : j < (l ++ [(⟨#[115, 112, 97, 114, 101]⟩ : ByteArray)]).length), cur[0 + j]? = some (.string (l ++ [(⟨#[115, 112, 97, 114, 101]⟩ : ByteArray)])[j]) := fun j h => by
    have hc := hown3b.cellAt j (by simpa using h)
    unfold sts at hc
    rw [List.getElem?_map, List.getElem?_eq_getElem h] at hc
    rw [Nat.zero_add]
    simpa [World.cell?, hg3] using hc
  have hP3 : PsAt w3 (some ⟨g, 0, none⟩) l := .inr ⟨g, 0, cur, fz, rfl, hg3, fun j hj => by rw [hcur j (by simp; omega), List.getElem_append_left hj]⟩
  have hsp : cur[l.length]? = some (.string ⟨#[115, 112, 97, 114, 101]⟩) := by have := hcur l.length (by simp); simpa using this
  have hXo3 : w3.heap[w.heap.size]? = some (.cells #[.int .i64 2, .int .i64 a, .int .i64 n, .slice p l.length cap, .int .u64 x] 35 (0, 0)) := (hb13.block _ (by omega)).trans HXo.out
  have k1 : w3.cell? ⟨w.heap.size, 1, none⟩ = some (.int .i64 a) := by simp [World.cell?, hXo3]
  have k3 : w3.cell? ⟨w.heap.size, 3, none⟩ = some (.slice p l.length cap) := by simp [World.cell?, hXo3]
  have hlc : (l.length : Int) ≤ (c : Int) := by omega
  have HG3 := Lib.hid hg3
  have HXo3 := Lib.hid hXo3
  have HSp := Lib.hid hsp
  have HP3 := Lib.hid (hp.below hbw3)
  have HPO := Lib.hid hP3
  have HRow3 := Lib.hid (row_below HRow.out hbw3)
  have HA3 := Lib.hid (HA.out.below hbw3)
  have HBW := Lib.hid hbw3
  have HWR := Lib.hid HWr
  have HRF := Lib.hid HRf
  have c8 : ∀ X, Below w3.heap.size w3 X → X.cell? ⟨w.heap.size, 1, none⟩ = some (.int .i64 a) ∧ X.cell? ⟨w.heap.size, 3, none⟩ = some (.slice p l.length cap) := fun X hX => by
    have h := (hX.block _ (Array.getElem?_eq_some_iff.1 HXo3.out).1).trans HXo3.out
    refine ⟨?_, ?_⟩ <;> simp [World.cell?, h]
  clear hown3 hb3 hb2a hb13 hcur hg3 hP3 hXo3 hsp hO2 hP2 k1 k3 hbw3 HWr HRf hown3b hgc
  go_upto_region 8 with fail
  refine wp_region_monoT 6 8 (fun kq uq Xq => match kq with | 63 => uq = .pointer (some ⟨Bb, 0, none⟩) | 64 => uq = .pointer (some ⟨w.heap.size, 1, none⟩) | 65 => uq = .int .i64 a | 66 => uq = .slice (some ⟨g, 0, none⟩) (l.length + 1) c | 67 => uq = .pointer (some ⟨w.heap.size, 3, none⟩) | 68 => uq = .slice p l.length cap | 69 => uq = .int .i64 (l.length : Int) | 70 => uq = .slice (some ⟨g, 0, none⟩) l.length c | _ => True) (by kernel_rfl) (by kernel_rfl) (by kernel_rfl) (by kernel_rfl) (by simp) (by kernel_rfl) ?_ ?_ ?_
  · intro kq v W W' h hb
    revert h
    try dsimp only
    split
    · intro h; exact h
    · intro h; exact h
    · intro h; exact h
    · intro h; exact h
    · intro h; exact h
    · intro h; exact h
    · intro h; exact h
    · intro h; exact h
    · intro h; trivial
  · intro a' X hB hs hk i o d ho hd hG
    match i, ho with
    | 0, ho =>
      obtain rfl : _ = o := Option.some.inj ho
      obtain rfl : 63 = d := Option.some.inj hd
      have g0 : a'.eval (.tmp 0) = .pointer (some ⟨Bb, 0, none⟩) := hk 0 (by kernel_rfl)
      obtain ⟨ev, hev⟩ : ∃ ev, a'.eval = ev := ⟨_, rfl⟩
      rw [hev] at g0 ⊢
      clear hev hG hk
      obtain ⟨c1, c3⟩ := c8 X hB
      exact .inr ⟨rfl, .inl ⟨.pointer (some ⟨Bb, 0, none⟩), X, by clear hs; go_simp, Below.refl _ _, rfl⟩⟩
    | 1, ho =>
      obtain rfl : _ = o := Option.some.inj ho
      obtain rfl : 64 = d := Option.some.inj hd
      have g5 : a'.eval (.tmp 5) = .pointer (some ⟨w.heap.size, 0, none⟩) := hk 5 (by kernel_rfl)
      obtain ⟨ev, hev⟩ : ∃ ev, a'.eval = ev := ⟨_, rfl⟩
      rw [hev] at g5 ⊢
      clear hev hG hk
      obtain ⟨c1, c3⟩ := c8 X hB
      exact .inr ⟨rfl, .inl ⟨.pointer (some ⟨w.heap.size, 1, none⟩), X, by clear hs; go_simp, Below.refl _ _, rfl⟩⟩
    | 2, ho =>
      obtain rfl : _ = o := Option.some.inj ho
      obtain rfl : 65 = d := Option.some.inj hd
      have g64 : a'.eval (.tmp 64) = .pointer (some ⟨w.heap.size, 1, none⟩) := hG ⟨1, .data⟩ (by simp) rfl 64 rfl
      obtain ⟨ev, hev⟩ : ∃ ev, a'.eval = ev := ⟨_, rfl⟩
      rw [hev] at g64 ⊢
      clear hev hG hk
      obtain ⟨c1, c3⟩ := c8 X hB
      exact .inr ⟨rfl, .inl ⟨.int .i64 a, X, by clear hs; go_simp, Below.refl _ _, rfl⟩⟩
    | 3, ho =>
      obtain rfl : _ = o := Option.some.inj ho
      obtain rfl : 66 = d := Option.some.inj hd
      have g12 : a'.eval (.tmp 12) = .slice (some ⟨g, 0, none⟩) (l.length + 1) c := hk 12 (by kernel_rfl)
      obtain ⟨ev, hev⟩ : ∃ ev, a'.eval = ev := ⟨_, rfl⟩
      rw [hev] at g12 ⊢
      clear hev hG hk
      obtain ⟨c1, c3⟩ := c8 X hB
      exact .inr ⟨rfl, .inl ⟨.slice (some ⟨g, 0, none⟩) (l.length + 1) c, X, by clear hs; go_simp, Below.refl _ _, rfl⟩⟩
    | 4, ho =>
      obtain rfl : _ = o := Option.some.inj ho
      obtain rfl : 67 = d := Option.some.inj hd
      have g5 : a'.eval (.tmp 5) = .pointer (some ⟨w.heap.size, 0, none⟩) := hk 5 (by kernel_rfl)
      obtain ⟨ev, hev⟩ : ∃ ev, a'.eval = ev := ⟨_, rfl⟩
      rw [hev] at g5 ⊢
      clear hev hG hk
      obtain ⟨c1, c3⟩ := c8 X hB
      exact .inr ⟨rfl, .inl ⟨.pointer (some ⟨w.heap.size, 3, none⟩), X, by clear hs; go_simp, Below.refl _ _, rfl⟩⟩
    | 5, ho =>
      obtain rfl : _ = o := Option.some.inj ho
      obtain rfl : 68 = d := Option.some.inj hd
      have g67 : a'.eval (.tmp 67) = .pointer (some ⟨w.heap.size, 3, none⟩) := hG ⟨4, .data⟩ (by simp) rfl 67 rfl
      obtain ⟨ev, hev⟩ : ∃ ev, a'.eval = ev := ⟨_, rfl⟩
      rw [hev] at g67 ⊢
      clear hev hG hk
      obtain ⟨c1, c3⟩ := c8 X hB
      exact .inr ⟨rfl, .inl ⟨.slice p l.length cap, X, by clear hs; go_simp, Below.refl _ _, rfl⟩⟩
    | 6, ho =>
      obtain rfl : _ = o := Option.some.inj ho
      obtain rfl : 69 = d := Option.some.inj hd
      have g68 : a'.eval (.tmp 68) = .slice p l.length cap := hG ⟨5, .data⟩ (by simp) rfl 68 rfl
      obtain ⟨ev, hev⟩ : ∃ ev, a'.eval = ev := ⟨_, rfl⟩
      rw [hev] at g68 ⊢
      clear hev hG hk
      obtain ⟨c1, c3⟩ := c8 X hB
      exact .inr ⟨rfl, .inl ⟨.int .i64 (l.length : Int), X, by clear hs; go_simp, Below.refl _ _, rfl⟩⟩
    | 7, ho =>
      obtain rfl : _ = o := Option.some.inj ho
      obtain rfl : 70 = d := Option.some.inj hd
      have g66 : a'.eval (.tmp 66) = .slice (some ⟨g, 0, none⟩) (l.length + 1) c := hG ⟨3, .data⟩ (by simp) rfl 66 rfl
      have g69 : a'.eval (.tmp 69) = .int .i64 (l.length : Int) := hG ⟨6, .data⟩ (by simp) rfl 69 rfl
      obtain ⟨ev, hev⟩ : ∃ ev, a'.eval = ev := ⟨_, rfl⟩
      rw [hev] at g66 g69 ⊢
      clear hev hG hk
      obtain ⟨c1, c3⟩ := c8 X hB
      exact .inr ⟨rfl, .inl ⟨.slice (some ⟨g, 0, none⟩) l.length c, X, by clear hs; go_simp, Below.refl _ _, rfl⟩⟩
    | j + 8, ho => simp at ho
  · intro a' X hB hs hdf hk hG
    obtain ⟨tm, df⟩ := a'
    obtain rfl : df = [] := hdf
    have e0 : tm.getD 0 undef = .pointer (some ⟨Bb, 0, none⟩) := hk 0 (by kernel_rfl)
    have e1 : tm.getD 1 undef = v := hk 1 (by kernel_rfl)
    have e2 : tm.getD 2 undef = .agg #[.int .i64 2, .int .i64 a, .int .i64 n, .slice p l.length cap, .int .u64 x] := hk 2 (by kernel_rfl)
    have e3 : tm.getD 3 undef = undef := hk 3 (by kernel_rfl)
    have e4 : tm.getD 4 undef = undef := hk 4 (by kernel_rfl)
    have e5 : tm.getD 5 undef = .pointer (some ⟨w.heap.size, 0, none⟩) := hk 5 (by kernel_rfl)
    have e6 : tm.getD 6 undef = .slice none 0 0 := hk 6 (by kernel_rfl)
    have e7 : tm.getD 7 undef = .bool false := hk 7 (by kernel_rfl)
    have e8 : tm.getD 8 undef = undef := hk 8 (by kernel_rfl)
    have e9 : tm.getD 9 undef = undef := hk 9 (by kernel_rfl)
    have e10 : tm.getD 10 undef = undef := hk 10 (by kernel_rfl)
    have e11 : tm.getD 11 undef = undef := hk 11 (by kernel_rfl)
    have e12 : tm.getD 12 undef = .slice (some ⟨g, 0, none⟩) (l.length + 1) c := hk 12 (by kernel_rfl)
    have e13 : tm.getD 13 undef = undef := hk 13 (by kernel_rfl)
    have e14 : tm.getD 14 undef = undef := hk 14 (by kernel_rfl)
    have e15 : tm.getD 15 undef = undef := hk 15 (by kernel_rfl)
    have e16 : tm.getD 16 undef = undef := hk 16 (by kernel_rfl)
    have e17 : tm.getD 17 undef = undef := hk 17 (by kernel_rfl)
    have e18 : tm.getD 18 undef = undef := hk 18 (by kernel_rfl)
    have e19 : tm.getD 19 undef = undef := hk 19 (by kernel_rfl)
    have e20 : tm.getD 20 undef = undef := hk 20 (by kernel_rfl)
    have e21 : tm.getD 21 undef = undef := hk 21 (by kernel_rfl)
    have e22 : tm.getD 22 undef = undef := hk 22 (by kernel_rfl)
    have e23 : tm.getD 23 undef = undef := hk 23 (by kernel_rfl)
    have e24 : tm.getD 24 undef = .pointer (some ⟨w.heap.size, 0, none⟩) := hk 24 (by kernel_rfl)
    have e25 : tm.getD 25 undef = .int .i64 2 := hk 25 (by kernel_rfl)
    have e26 : tm.getD 26 undef = .bool false := hk 26 (by kernel_rfl)
    have e27 : tm.getD 27 undef = .bool false := hk 27 (by kernel_rfl)
    have e28 : tm.getD 28 undef = undef := hk 28 (by kernel_rfl)
    have e29 : tm.getD 29 undef = undef := hk 29 (by kernel_rfl)
    have e30 : tm.getD 30 undef = undef := hk 30 (by kernel_rfl)
    have e31 : tm.getD 31 undef = undef := hk 31 (by kernel_rfl)
    have e32 : tm.getD 32 undef = undef := hk 32 (by kernel_rfl)
    have e33 : tm.getD 33 undef = undef := hk 33 (by kernel_rfl)
    have e34 : tm.getD 34 undef = undef := hk 34 (by kernel_rfl)
    have e35 : tm.getD 35 undef = undef := hk 35 (by kernel_rfl)
    have e36 : tm.getD 36 undef = undef := hk 36 (by kernel_rfl)
    have e37 : tm.getD 37 undef = undef := hk 37 (by kernel_rfl)
    have e38 : tm.getD 38 undef = undef := hk 38 (by kernel_rfl)
    have e39 : tm.getD 39 undef = undef := hk 39 (by kernel_rfl)
    have e40 : tm.getD 40 undef = undef := hk 40 (by kernel_rfl)
    have e41 : tm.getD 41 undef = undef := hk 41 (by kernel_rfl)
    have e42 : tm.getD 42 undef = undef := hk 42 (by kernel_rfl)
    have e43 : tm.getD 43 undef = undef := hk 43 (by kernel_rfl)
    have e44 : tm.getD 44 undef = undef := hk 44 (by kernel_rfl)
    have e45 : tm.getD 45 undef = undef := hk 45 (by kernel_rfl)
    have e46 : tm.getD 46 undef = undef := hk 46 (by kernel_rfl)
    have e47 : tm.getD 47 undef = undef := hk 47 (by kernel_rfl)
    have e48 : tm.getD 48 undef = undef := hk 48 (by kernel_rfl)
    have e49 : tm.getD 49 undef = undef := hk 49 (by kernel_rfl)
    have e50 : tm.getD 50 undef = undef := hk 50 (by kernel_rfl)
    have e51 : tm.getD 51 undef = undef := hk 51 (by kernel_rfl)
    have e52 : tm.getD 52 undef = undef := hk 52 (by kernel_rfl)
    have e53 : tm.getD 53 undef = undef := hk 53 (by kernel_rfl)
    have e54 : tm.getD 54 undef = undef := hk 54 (by kernel_rfl)
    have e55 : tm.getD 55 undef = .bool true := hk 55 (by kernel_rfl)
    have e56 : tm.getD 56 undef = .bool true := hk 56 (by kernel_rfl)
    have e57 : tm.getD 57 undef = .slice (some ⟨w.heap.size + 1, 0, none⟩) 0 0 := hk 57 (by kernel_rfl)
    have e58 : tm.getD 58 undef = .pointer (some ⟨w.heap.size, 3, none⟩) := hk 58 (by kernel_rfl)
    have e59 : tm.getD 59 undef = .slice p l.length cap := hk 59 (by kernel_rfl)
    have e60 : tm.getD 60 undef = v2 := hk 60 (by kernel_rfl)
    have e61 : tm.getD 61 undef = .slice (some ⟨w2.heap.size, 0, none⟩) 1 1 := hk 61 (by kernel_rfl)
    have e62 : tm.getD 62 undef = .slice (some ⟨g, 0, none⟩) (l.length + 1) c := hk 62 (by kernel_rfl)
    have e71 : tm.getD 71 undef = undef := hk 71 (by kernel_rfl)
    have e72 : tm.getD 72 undef = undef := hk 72 (by kernel_rfl)
    have e73 : tm.getD 73 undef = undef := hk 73 (by kernel_rfl)
    have e74 : tm.getD 74 undef = undef := hk 74 (by kernel_rfl)
    have e75 : tm.getD 75 undef = undef := hk 75 (by kernel_rfl)
    have e76 : tm.getD 76 undef = undef := hk 76 (by kernel_rfl)
    have e77 : tm.getD 77 undef = undef := hk 77 (by kernel_rfl)
    have e78 : tm.getD 78 undef = undef := hk 78 (by kernel_rfl)
    have e79 : tm.getD 79 undef = undef := hk 79 (by kernel_rfl)
    have e80 : tm.getD 80 undef = undef := hk 80 (by kernel_rfl)
    have e81 : tm.getD 81 undef = undef := hk 81 (by kernel_rfl)
    have e82 : tm.getD 82 undef = undef := hk 82 (by kernel_rfl)
    have e83 : tm.getD 83 undef = undef := hk 83 (by kernel_rfl)
    have e84 : tm.getD 84 undef = undef := hk 84 (by kernel_rfl)
    have e85 : tm.getD 85 undef = undef := hk 85 (by kernel_rfl)
    have e86 : tm.getD 86 undef = undef := hk 86 (by kernel_rfl)
    have e87 : tm.getD 87 undef = undef := hk 87 (by kernel_rfl)
    have e88 : tm.getD 88 undef = undef := hk 88 (by kernel_rfl)
    have e89 : tm.getD 89 undef = undef := hk 89 (by kernel_rfl)
    have e90 : tm.getD 90 undef = undef := hk 90 (by kernel_rfl)
    have e91 : tm.getD 91 undef = undef := hk 91 (by kernel_rfl)
    have e92 : tm.getD 92 undef = undef := hk 92 (by kernel_rfl)
    have e93 : tm.getD 93 undef = undef := hk 93 (by kernel_rfl)
    have e94 : tm.getD 94 undef = undef := hk 94 (by kernel_rfl)
    have e95 : tm.getD 95 undef = undef := hk 95 (by kernel_rfl)
    have e96 : tm.getD 96 undef = undef := hk 96 (by kernel_rfl)
    have e97 : tm.getD 97 undef = undef := hk 97 (by kernel_rfl)
    have e98 : tm.getD 98 undef = undef := hk 98 (by kernel_rfl)
    have e99 : tm.getD 99 undef = undef := hk 99 (by kernel_rfl)
    have e100 : tm.getD 100 undef = undef := hk 100 (by kernel_rfl)
    have e101 : tm.getD 101 undef = undef := hk 101 (by kernel_rfl)
    have e102 : tm.getD 102 undef = undef := hk 102 (by kernel_rfl)
    have e103 : tm.getD 103 undef = undef := hk 103 (by kernel_rfl)
    have e104 : tm.getD 104 undef = undef := hk 104 (by kernel_rfl)
    have e105 : tm.getD 105 undef = undef := hk 105 (by kernel_rfl)
    have e106 : tm.getD 106 undef = undef := hk 106 (by kernel_rfl)
    have e107 : tm.getD 107 undef = undef := hk 107 (by kernel_rfl)
    have e108 : tm.getD 108 undef = undef := hk 108 (by kernel_rfl)
    have e109 : tm.getD 109 undef = undef := hk 109 (by kernel_rfl)
    have e110 : tm.getD 110 undef = undef := hk 110 (by kernel_rfl)
    have e111 : tm.getD 111 undef = undef := hk 111 (by kernel_rfl)
    have e112 : tm.getD 112 undef = undef := hk 112 (by kernel_rfl)
    have e113 : tm.getD 113 undef = undef := hk 113 (by kernel_rfl)
    have e114 : tm.getD 114 undef = undef := hk 114 (by kernel_rfl)
    have e115 : tm.getD 115 undef = undef := hk 115 (by kernel_rfl)
    have e116 : tm.getD 116 undef = undef := hk 116 (by kernel_rfl)
    have e117 : tm.getD 117 undef = undef := hk 117 (by kernel_rfl)
    have e118 : tm.getD 118 undef = undef := hk 118 (by kernel_rfl)
    have e119 : tm.getD 119 undef = undef := hk 119 (by kernel_rfl)
    have e120 : tm.getD 120 undef = undef := hk 120 (by kernel_rfl)
    have e121 : tm.getD 121 undef = undef := hk 121 (by kernel_rfl)
    have e122 : tm.getD 122 undef = undef := hk 122 (by kernel_rfl)
    have e123 : tm.getD 123 undef = undef := hk 123 (by kernel_rfl)
    have e124 : tm.getD 124 undef = undef := hk 124 (by kernel_rfl)
    have e125 : tm.getD 125 undef = undef := hk 125 (by kernel_rfl)
    have e126 : tm.getD 126 undef = undef := hk 126 (by kernel_rfl)
    have e127 : tm.getD 127 undef = undef := hk 127 (by kernel_rfl)
    have e128 : tm.getD 128 undef = undef := hk 128 (by kernel_rfl)
    have e129 : tm.getD 129 undef = undef := hk 129 (by kernel_rfl)
    have e130 : tm.getD 130 undef = undef := hk 130 (by kernel_rfl)
    have e131 : tm.getD 131 undef = undef := hk 131 (by kernel_rfl)
    have e132 : tm.getD 132 undef = undef := hk 132 (by kernel_rfl)
    have e133 : tm.getD 133 undef = undef := hk 133 (by kernel_rfl)
    have e134 : tm.getD 134 undef = undef := hk 134 (by kernel_rfl)
    have e135 : tm.getD 135 undef = undef := hk 135 (by kernel_rfl)
    have e136 : tm.getD 136 undef = undef := hk 136 (by kernel_rfl)
    have e137 : tm.getD 137 undef = undef := hk 137 (by kernel_rfl)
    have e138 : tm.getD 138 undef = undef := hk 138 (by kernel_rfl)
    have e139 : tm.getD 139 undef = undef := hk 139 (by kernel_rfl)
    have e140 : tm.getD 140 undef = undef := hk 140 (by kernel_rfl)
    have e141 : tm.getD 141 undef = undef := hk 141 (by kernel_rfl)
    have e142 : tm.getD 142 undef = undef := hk 142 (by kernel_rfl)
    have e143 : tm.getD 143 undef = undef := hk 143 (by kernel_rfl)
    have e144 : tm.getD 144 undef = undef := hk 144 (by kernel_rfl)
    have e145 : tm.getD 145 undef = undef := hk 145 (by kernel_rfl)
    have e146 : tm.getD 146 undef = undef := hk 146 (by kernel_rfl)
    have e147 : tm.getD 147 undef = undef := hk 147 (by kernel_rfl)
    have e148 : tm.getD 148 undef = undef := hk 148 (by kernel_rfl)
    have e149 : tm.getD 149 undef = undef := hk 149 (by kernel_rfl)
    have e150 : tm.getD 150 undef = undef := hk 150 (by kernel_rfl)
    have e151 : tm.getD 151 undef = undef := hk 151 (by kernel_rfl)
    have e152 : tm.getD 152 undef = undef := hk 152 (by kernel_rfl)
    have e153 : tm.getD 153 undef = undef := hk 153 (by kernel_rfl)
    have e154 : tm.getD 154 undef = undef := hk 154 (by kernel_rfl)
    have e155 : tm.getD 155 undef = undef := hk 155 (by kernel_rfl)
    have e156 : tm.getD 156 undef = undef := hk 156 (by kernel_rfl)
    have e157 : tm.getD 157 undef = undef := hk 157 (by kernel_rfl)
    have g63 : (tm.getD 63 undef) = .pointer (some ⟨Bb, 0, none⟩) := hG 0 63 (by decide) rfl
    have g64 : (tm.getD 64 undef) = .pointer (some ⟨w.heap.size, 1, none⟩) := hG 1 64 (by decide) rfl
    have g65 : (tm.getD 65 undef) = .int .i64 a := hG 2 65 (by decide) rfl
    have g66 : (tm.getD 66 undef) = .slice (some ⟨g, 0, none⟩) (l.length + 1) c := hG 3 66 (by decide) rfl
    have g67 : (tm.getD 67 undef) = .pointer (some ⟨w.heap.size, 3, none⟩) := hG 4 67 (by decide) rfl
    have g68 : (tm.getD 68 undef) = .slice p l.length cap := hG 5 68 (by decide) rfl
    have g69 : (tm.getD 69 undef) = .int .i64 (l.length : Int) := hG 6 69 (by decide) rfl
    have g70 : (tm.getD 70 undef) = .slice (some ⟨g, 0, none⟩) l.length c := hG 7 70 (by decide) rfl
    have htm := arr_of tm ((.pointer (some ⟨Bb, 0, none⟩) : Value) :: (v : Value) :: (.agg #[.int .i64 2, .int .i64 a, .int .i64 n, .slice p l.length cap, .int .u64 x] : Value) :: (undef : Value) :: (undef : Value) :: (.pointer (some ⟨w.heap.size, 0, none⟩) : Value) :: (.slice none 0 0 : Value) :: (.bool false : Value) :: (undef : Value) :: (undef : Value) :: (undef : Value) :: (undef : Value) :: (.slice (some ⟨g, 0, none⟩) (l.length + 1) c : Value) :: (undef : Value) :: (undef : Value) :: (undef : Value) :: (undef : Value) :: (undef : Value) :: (undef : Value) :: (undef : Value) :: (undef : Value) :: (undef : Value) :: (undef : Value) :: (undef : Value) :: (.pointer (some ⟨w.heap.size, 0, none⟩) : Value) :: (.int .i64 2 : Value) :: (.bool false : Value) :: (.bool false : Value) :: (undef : Value) :: (undef : Value) :: (undef : Value) :: (undef : Value) :: (undef : Value) :: (undef : Value) :: (undef : Value) :: (undef : Value) :: (undef : Value) :: (undef : Value) :: (undef : Value) :: (undef : Value) :: (undef : Value) :: (undef : Value) :: (undef : Value) :: (undef : Value) :: (undef : Value) :: (undef : Value) :: (undef : Value) :: (undef : Value) :: (undef : Value) :: (undef : Value) :: (undef : Value) :: (undef : Value) :: (undef : Value) :: (undef : Value) :: (undef : Value) :: (.bool true : Value) :: (.bool true : Value) :: (.slice (some ⟨w.heap.size + 1, 0, none⟩) 0 0 : Value) :: (.pointer (some ⟨w.heap.size, 3, none⟩) : Value) :: (.slice p l.length cap : Value) :: (v2 : Value) :: (.slice (some ⟨w2.heap.size, 0, none⟩) 1 1 : Value) :: (.slice (some ⟨g, 0, none⟩) (l.length + 1) c : Value) :: (tm.getD 63 undef : Value) :: (tm.getD 64 undef : Value) :: (tm.getD 65 undef : Value) :: (tm.getD 66 undef : Value) :: (tm.getD 67 undef : Value) :: (tm.getD 68 undef : Value) :: (tm.getD 69 undef : Value) :: (tm.getD 70 undef : Value) :: (undef : Value) :: (undef : Value) :: (undef : Value) :: (undef : Value) :: (undef : Value) :: (undef : Value) :: (undef : Value) :: (undef : Value) :: (undef : Value) :: (undef : Value) :: (undef : Value) :: (undef : Value) :: (undef : Value) :: (undef : Value) :: (undef : Value) :: (undef : Value) :: (undef : Value) :: (undef : Value) :: (undef : Value) :: (undef : Value) :: (undef : Value) :: (undef : Value) :: (undef : Value) :: (undef : Value) :: (undef : Value) :: (undef : Value) :: (undef : Value) :: (undef : Value) :: (undef : Value) :: (undef : Value) :: (undef : Value) :: (undef : Value) :: (undef : Value) :: (undef : Value) :: (undef : Value) :: (undef : Value) :: (undef : Value) :: (undef : Value) :: (undef : Value) :: (undef : Value) :: (undef : Value) :: (undef : Value) :: (undef : Value) :: (undef : Value) :: (undef : Value) :: (undef : Value) :: (undef : Value) :: (undef : Value) :: (undef : Value) :: (undef : Value) :: (undef : Value) :: (undef : Value) :: (undef : Value) :: (undef : Value) :: (undef : Value) :: (undef : Value) :: (undef : Value) :: (undef : Value) :: (undef : Value) :: (undef : Value) :: (undef : Value) :: (undef : Value) :: (undef : Value) :: (undef : Value) :: (undef : Value) :: (undef : Value) :: (undef : Value) :: (undef : Value) :: (undef : Value) :: (undef : Value) :: (undef : Value) :: (undef : Value) :: (undef : Value) :: (undef : Value) :: (undef : Value) :: (undef : Value) :: (undef : Value) :: (undef : Value) :: (undef : Value) :: (undef : Value) :: (undef : Value) :: (undef : Value) :: (undef : Value) :: (undef : Value) :: (undef : Value) :: (undef : Value) :: (undef : Value) :: []) hs (by show (tm.getD 0 undef :: tm.getD 1 undef :: tm.getD 2 undef :: tm.getD 3 undef :: tm.getD 4 undef :: tm.getD 5 undef :: tm.getD 6 undef :: tm.getD 7 undef :: tm.getD 8 undef :: tm.getD 9 undef :: tm.getD 10 undef :: tm.getD 11 undef :: tm.getD 12 undef :: tm.getD 13 undef :: tm.getD 14 undef :: tm.getD 15 undef :: tm.getD 16 undef :: tm.getD 17 undef :: tm.getD 18 undef :: tm.getD 19 undef :: tm.getD 20 undef :: tm.getD 21 undef :: tm.getD 22 undef :: tm.getD 23 undef :: tm.getD 24 undef :: tm.getD 25 undef :: tm.getD 26 undef :: tm.getD 27 undef :: tm.getD 28 undef :: tm.getD 29 undef :: tm.getD 30 undef :: tm.getD 31 undef :: tm.getD 32 undef :: tm.getD 33 undef :: tm.getD 34 undef :: tm.getD 35 undef :: tm.getD 36 undef :: tm.getD 37 undef :: tm.getD 38 undef :: tm.getD 39 undef :: tm.getD 40 undef :: tm.getD 41 undef :: tm.getD 42 undef :: tm.getD 43 undef :: tm.getD 44 undef :: tm.getD 45 undef :: tm.getD 46 undef :: tm.getD 47 undef :: tm.getD 48 undef :: tm.getD 49 undef :: tm.getD 50 undef :: tm.getD 51 undef :: tm.getD 52 undef :: tm.getD 53 undef :: tm.getD 54 undef :: tm.getD 55 undef :: tm.getD 56 undef :: tm.getD 57 undef :: tm.getD 58 undef :: tm.getD 59 undef :: tm.getD 60 undef :: tm.getD 61 undef :: tm.getD 62 undef :: tm.getD 63 undef :: tm.getD 64 undef :: tm.getD 65 undef :: tm.getD 66 undef :: tm.getD 67 undef :: tm.getD 68 undef :: tm.getD 69 undef :: tm.getD 70 undef :: tm.getD 71 undef :: tm.getD 72 undef :: tm.getD 73 undef :: tm.getD 74 undef :: tm.getD 75 undef :: tm.getD 76 undef :: tm.getD 77 undef :: tm.getD 78 undef :: tm.getD 79 undef :: tm.getD 80 undef :: tm.getD 81 undef :: tm.getD 82 undef :: tm.getD 83 undef :: tm.getD 84 undef :: tm.getD 85 undef :: tm.getD 86 undef :: tm.getD 87 undef :: tm.getD 88 undef :: tm.getD 89 undef :: tm.getD 90 undef :: tm.getD 91 undef :: tm.getD 92 undef :: tm.getD 93 undef :: tm.getD 94 undef :: tm.getD 95 undef :: tm.getD 96 undef :: tm.getD 97 undef :: tm.getD 98 undef :: tm.getD 99 undef :: tm.getD 100 undef :: tm.getD 101 undef :: tm.getD 102 undef :: tm.getD 103 undef :: tm.getD 104 undef :: tm.getD 105 undef :: tm.getD 106 undef :: tm.getD 107 undef :: tm.getD 108 undef :: tm.getD 109 undef :: tm.getD 110 undef :: tm.getD 111 undef :: tm.getD 112 undef :: tm.getD 113 undef :: tm.getD 114 undef :: tm.getD 115 undef :: tm.getD 116 undef :: tm.getD 117 undef :: tm.getD 118 undef :: tm.getD 119 undef :: tm.getD 120 undef :: tm.getD 121 undef :: tm.getD 122 undef :: tm.getD 123 undef :: tm.getD 124 undef :: tm.getD 125 undef :: tm.getD 126 undef :: tm.getD 127 undef :: tm.getD 128 undef :: tm.getD 129 undef :: tm.getD 130 undef :: tm.getD 131 undef :: tm.getD 132 undef :: tm.getD 133 undef :: tm.getD 134 undef :: tm.getD 135 undef :: tm.getD 136 undef :: tm.getD 137 undef :: tm.getD 138 undef :: tm.getD 139 undef :: tm.getD 140 undef :: tm.getD 141 undef :: tm.getD 142 undef :: tm.getD 143 undef :: tm.getD 144 undef :: tm.getD 145 undef :: tm.getD 146 undef :: tm.getD 147 undef :: tm.getD 148 undef :: tm.getD 149 undef :: tm.getD 150 undef :: tm.getD 151 undef :: tm.getD 152 undef :: tm.getD 153 undef :: tm.getD 154 undef :: tm.getD 155 undef :: tm.getD 156 undef :: tm.getD 157 undef :: []) = _; rw [e0, e1, e2, e3, e4, e5, e6, e7, e8, e9, e10, e11, e12, e13, e14, e15, e16, e17, e18, e19, e20, e21, e22, e23, e24, e25, e26, e27, e28, e29, e30, e31, e32, e33, e34, e35, e36, e37, e38, e39, e40, e41, e42, e43, e44, e45, e46, e47, e48, e49, e50, e51, e52, e53, e54, e55, e56, e57, e58, e59, e60, e61, e62, e71, e72, e73, e74, e75, e76, e77, e78, e79, e80, e81, e82, e83, e84, e85, e86, e87, e88, e89, e90, e91, e92, e93, e94, e95, e96, e97, e98, e99, e100, e101, e102, e103, e104, e105, e106, e107, e108, e109, e110, e111, e112, e113, e114, e115, e116, e117, e118, e119, e120, e121, e122, e123, e124, e125, e126, e127, e128, e129, e130, e131, e132, e133, e134, e135, e136, e137, e138, e139, e140, e141, e142, e143, e144, e145, e146, e147, e148, e149, e150, e151, e152, e153, e154, e155, e156, e157]; try rfl)
    clear hs hk hG e0 e1 e2 e3 e4 e5 e6 e7 e8 e9 e10 e11 e12 e13 e14 e15 e16 e17 e18 e19 e20 e21 e22 e23 e24 e25 e26 e27 e28 e29 e30 e31 e32 e33 e34 e35 e36 e37 e38 e39 e40 e41 e42 e43 e44 e45 e46 e47 e48 e49 e50 e51 e52 e53 e54 e55 e56 e57 e58 e59 e60 e61 e62 e71 e72 e73 e74 e75 e76 e77 e78 e79 e80 e81 e82 e83 e84 e85 e86 e87 e88 e89 e90 e91 e92 e93 e94 e95 e96 e97 e98 e99 e100 e101 e102 e103 e104 e105 e106 e107 e108 e109 e110 e111 e112 e113 e114 e115 e116 e117 e118 e119 e120 e121 e122 e123 e124 e125 e126 e127 e128 e129 e130 e131 e132 e133 e134 e135 e136 e137 e138 e139 e140 e141 e142 e143 e144 e145 e146 e147 e148 e149 e150 e151 e152 e153 e154 e155 e156 e157
    generalize tm.getD 63 undef = t63 at htm g63
    generalize tm.getD 64 undef = t64 at htm g64
    generalize tm.getD 65 undef = t65 at htm g65
    generalize tm.getD 66 undef = t66 at htm g66
    generalize tm.getD 67 undef = t67 at htm g67
    generalize tm.getD 68 undef = t68 at htm g68
    generalize tm.getD 69 undef = t69 at htm g69
    generalize tm.getD 70 undef = t70 at htm g70
    subst htm
    subst g63
    subst g64
    subst g65
    subst g66
    subst g67
    subst g68
    subst g69
    subst g70
    simp only [List.drop_succ_cons, List.drop_zero]
    have hA8 := HA3.out.below hB
    have hp8 := HPO.out.below hB
    have HW8 := Lib.hid (HWR.out X ls (some ⟨g, 0, none⟩) c hA8 hp8)
    have HB8 := Lib.hid hB
    clear hA8 hp8 hB
    go_wp2_with (go_at_call 13; refine HW8.out.mono ?_; rintro e w4 ⟨rfl, hA4, hb4, hf4⟩; refine Hid.out ?_)
    refine Lib.hid ?_
    have hXo4 : w4.heap[w.heap.size]? = some (.cells #[.int .i64 2, .int .i64 a, .int .i64 n, .slice p l.length cap, .int .u64 x] 35 (0, 0)) := hf4.block ((HB8.out.block _ (Array.getElem?_eq_some_iff.1 HXo3.out).1).trans HXo3.out) (by decide) (by decide)
    have hg4 : w4.heap[g]? = some (.cells cur 9 fz) := hf4.block ((HB8.out.block _ (Array.getElem?_eq_some_iff.1 HG3.out).1).trans HG3.out) (by decide) (by decide)
    have hp4 : CsAt w4 p l := (HP3.out.below HB8.out).upto hpb hb4
    have hr4 : w4.ownsRow 0 5 1 v d.length (u8s d) := row_fz (row_below HRow3.out HB8.out) hf4.fz
    have c9 : ∀ Y, Below w4.heap.size w4 Y → Y.cell? ⟨w.heap.size, 1, none⟩ = some (.int .i64 a) ∧ Y.cell? ⟨w.heap.size, 3, none⟩ = some (.slice p l.length cap) ∧ Y.cell? ⟨g, l.length, none⟩ = some (.string ⟨#[115, 112, 97, 114, 101]⟩) := fun Y hY => by
      have h := (hY.block _ (Array.getElem?_eq_some_iff.1 hXo4).1).trans hXo4
      have h2 := (hY.block _ (Array.getElem?_eq_some_iff.1 hg4).1).trans hg4
      refine ⟨?_, ?_, ?_⟩
      · simp [World.cell?, h]
      · simp [World.cell?, h]
      · simp [World.cell?, h2, HSp.out]
    have HR4 := Lib.hid hr4
    have HP4 := Lib.hid hp4
    have HA4 := Lib.hid hA4
    have hbX : Below w.heap.size w X := HBW.out.trans (HB8.out.mono HBW.out.size)
    have HB4 : Hid (Below b0 w w4) := Lib.hid ((hbX.mono hb).trans hb4)
    have HF4 : Hid (Fz w w4) := Lib.hid ((Fr.below hbX).fz.trans hf4.fz)
    clear hXo4 hg4 hp4 hr4 hA4 hb4 hf4 hbX
    go_upto_region 9 with fail
    refine wp_region_monoT 6 12 (fun kq uq Xq => match kq with | 73 => uq = v | 74 => uq = .pointer (some ⟨w.heap.size, 1, none⟩) | 75 => uq = .int .i64 a | 76 => uq = .pointer (some ⟨w.heap.size, 3, none⟩) | 77 => uq = .slice p l.length cap | 78 => uq = .string ⟨(catL l).toArray⟩ | 79 => (fun u (X : World) => ∃ v', u = .tuple #[v', .int .i64 E] ∧ X.ownsRow 0 5 1 v' d'.length (u8s d')) (uq) Xq | 72 => (fun u (X : World) => ∃ v', u = .tuple #[v', .int .i64 E] ∧ X.ownsRow 0 5 1 v' d'.length (u8s d')) (uq) Xq | 80 => (fun u (X : World) => X.ownsRow 0 5 1 u d'.length (u8s d')) (uq) Xq | 81 => uq = .int .i64 E | 14 => (fun u (X : World) => X.ownsRow 0 5 1 u d'.length (u8s d')) (uq) Xq | 15 => uq = .int .i64 E | _ => True) (by kernel_rfl) (by kernel_rfl) (by kernel_rfl) (by kernel_rfl) (by simp) (by kernel_rfl) ?_ ?_ ?_
    · intro kq v W W' h hb
      revert h
      try dsimp only
      split
      · intro h; exact h
      · intro h; exact h
      · intro h; exact h
      · intro h; exact h
      · intro h; exact h
      · intro h; exact h
      · intro h; exact (by obtain ⟨v', h1, h2⟩ := h; exact ⟨v', h1, row_below h2 hb⟩)
      · intro h; exact (by obtain ⟨v', h1, h2⟩ := h; exact ⟨v', h1, row_below h2 hb⟩)
      · intro h; exact row_below h hb
      · intro h; exact h
      · intro h; exact row_below h hb
      · intro h; exact h
      · intro h; trivial
    · intro a' X hB hs hk i o d ho hd hG
      match i, ho with
      | 0, ho =>
        obtain rfl : _ = o := Option.some.inj ho
        obtain rfl : 73 = d := Option.some.inj hd
        have g1 : a'.eval (.tmp 1) = v := hk 1 (by kernel_rfl)
        obtain ⟨ev, hev⟩ : ∃ ev, a'.eval = ev := ⟨_, rfl⟩
        rw [hev] at g1 ⊢
        clear hev hG hk
        obtain ⟨c1, c3, _⟩ := c9 X hB
        exact .inr ⟨rfl, .inl ⟨v, X, by clear hs; go_simp, Below.refl _ _, rfl⟩⟩
      | 1, ho =>
        obtain rfl : _ = o := Option.some.inj ho
        obtain rfl : 74 = d := Option.some.inj hd
        have g5 : a'.eval (.tmp 5) = .pointer (some ⟨w.heap.size, 0, none⟩) := hk 5 (by kernel_rfl)
        obtain ⟨ev, hev⟩ : ∃ ev, a'.eval = ev := ⟨_, rfl⟩
        rw [hev] at g5 ⊢
        clear hev hG hk
        obtain ⟨c1, c3, _⟩ := c9 X hB
        exact .inr ⟨rfl, .inl ⟨.pointer (some ⟨w.heap.size, 1, none⟩), X, by clear hs; go_simp, Below.refl _ _, rfl⟩⟩
      | 2, ho =>
        obtain rfl : _ = o := Option.some.inj ho
        obtain rfl : 75 = d := Option.some.inj hd
        have g74 : a'.eval (.tmp 74) = .pointer (some ⟨w.heap.size, 1, none⟩) := hG ⟨1, .data⟩ (by simp) rfl 74 rfl
        obtain ⟨ev, hev⟩ : ∃ ev, a'.eval = ev := ⟨_, rfl⟩
        rw [hev] at g74 ⊢
        clear hev hG hk
        obtain ⟨c1, c3, _⟩ := c9 X hB
        exact .inr ⟨rfl, .inl ⟨.int .i64 a, X, by clear hs; go_simp, Below.refl _ _, rfl⟩⟩
      | 3, ho =>
        obtain rfl : _ = o := Option.some.inj ho
        obtain rfl : 76 = d := Option.some.inj hd
        have g5 : a'.eval (.tmp 5) = .pointer (some ⟨w.heap.size, 0, none⟩) := hk 5 (by kernel_rfl)
        obtain ⟨ev, hev⟩ : ∃ ev, a'.eval = ev := ⟨_, rfl⟩
        rw [hev] at g5 ⊢
        clear hev hG hk
        obtain ⟨c1, c3, _⟩ := c9 X hB
        exact .inr ⟨rfl, .inl ⟨.pointer (some ⟨w.heap.size, 3, none⟩), X, by clear hs; go_simp, Below.refl _ _, rfl⟩⟩
      | 4, ho =>
        obtain rfl : _ = o := Option.some.inj ho
        obtain rfl : 77 = d := Option.some.inj hd
        have g76 : a'.eval (.tmp 76) = .pointer (some ⟨w.heap.size, 3, none⟩) := hG ⟨3, .data⟩ (by simp) rfl 76 rfl
        obtain ⟨ev, hev⟩ : ∃ ev, a'.eval = ev := ⟨_, rfl⟩
        rw [hev] at g76 ⊢
        clear hev hG hk
        obtain ⟨c1, c3, _⟩ := c9 X hB
        exact .inr ⟨rfl, .inl ⟨.slice p l.length cap, X, by clear hs; go_simp, Below.refl _ _, rfl⟩⟩
      | 5, ho =>
        obtain rfl : _ = o := Option.some.inj ho
        obtain rfl : 78 = d := Option.some.inj hd
        have g77 : a'.eval (.tmp 77) = .slice p l.length cap := hG ⟨4, .data⟩ (by simp) rfl 77 rfl
        refine .inr ⟨rfl, .inr ⟨20, #[.slice p l.length cap], ?_, ?_⟩⟩
        · have gF : a'.eval (.func 20) = .func (.func 20) #[] #[] := rfl
          obtain ⟨ev, hev⟩ : ∃ ev, a'.eval = ev := ⟨_, rfl⟩
          rw [hev] at gF g77 ⊢
          exact exec_call1 rfl gF g77 (enters_of Try.func20 (by kernel_rfl) rfl)
        exact (joined_any p cap l X (HP4.out.below hB) (by omega) (by omega)).mono fun e W' ⟨he, hb⟩ => ⟨_, he, hb, rfl⟩
      | 6, ho =>
        obtain rfl : _ = o := Option.some.inj ho
        obtain rfl : 79 = d := Option.some.inj hd
        have g73 : a'.eval (.tmp 73) = v := hG ⟨0, .data⟩ (by simp) rfl 73 rfl
        have g75 : a'.eval (.tmp 75) = .int .i64 a := hG ⟨2, .data⟩ (by simp) rfl 75 rfl
        have g78 : a'.eval (.tmp 78) = .string ⟨(catL l).toArray⟩ := hG ⟨5, .data⟩ (by simp) rfl 78 rfl
        refine .inr ⟨rfl, .inr ⟨19, #[v, .int .i64 a, .string ⟨(catL l).toArray⟩], ?_, ?_⟩⟩
        · have gF : a'.eval (.func 19) = .func (.func 19) #[] #[] := rfl
          obtain ⟨ev, hev⟩ : ∃ ev, a'.eval = ev := ⟨_, rfl⟩
          rw [hev] at gF g73 g75 g78 ⊢
          exact exec_call3 rfl gF g73 g75 g78 (enters_of Try.func19 (by kernel_rfl) rfl)
        exact (HRF.out X (row_below HR4.out hB)).mono fun e W' ⟨v', he, ho, hb⟩ => ⟨_, he, hb, v', rfl, ho⟩
      | 7, ho =>
        obtain rfl : _ = o := Option.some.inj ho
        obtain rfl : 72 = d := Option.some.inj hd
        have g79 : (fun u (X : World) => ∃ v', u = .tuple #[v', .int .i64 E] ∧ X.ownsRow 0 5 1 v' d'.length (u8s d')) (a'.eval (.tmp 79)) X := hG ⟨6, .data⟩ (by simp) rfl 79 rfl
        obtain ⟨ev, hev⟩ : ∃ ev, a'.eval = ev := ⟨_, rfl⟩
        rw [hev] at g79 ⊢
        clear hev hG hk
        obtain ⟨v', hv', ho⟩ := g79
        clear hs
        exact .inr ⟨rfl, .inl ⟨.tuple #[v', .int .i64 E], X, by go_simp, Below.refl _ _, v', rfl, ho⟩⟩
      | 8, ho =>
        obtain rfl : _ = o := Option.some.inj ho
        obtain rfl : 80 = d := Option.some.inj hd
        have g72 : (fun u (X : World) => ∃ v', u = .tuple #[v', .int .i64 E] ∧ X.ownsRow 0 5 1 v' d'.length (u8s d')) (a'.eval (.tmp 72)) X := hG ⟨7, .data⟩ (by simp) rfl 72 rfl
        obtain ⟨ev, hev⟩ : ∃ ev, a'.eval = ev := ⟨_, rfl⟩
        rw [hev] at g72 ⊢
        clear hev hG hk
        obtain ⟨v', hv', ho⟩ := g72
        clear hs
        exact .inr ⟨rfl, .inl ⟨v', X, by go_simp, Below.refl _ _, ho⟩⟩
      | 9, ho =>
        obtain rfl : _ = o := Option.some.inj ho
        obtain rfl : 81 = d := Option.some.inj hd
        have g72 : (fun u (X : World) => ∃ v', u = .tuple #[v', .int .i64 E] ∧ X.ownsRow 0 5 1 v' d'.length (u8s d')) (a'.eval (.tmp 72)) X := hG ⟨7, .data⟩ (by simp) rfl 72 rfl
        obtain ⟨ev, hev⟩ : ∃ ev, a'.eval = ev := ⟨_, rfl⟩
        rw [hev] at g72 ⊢
        clear hev hG hk
        obtain ⟨v', hv', ho⟩ := g72
        clear hs
        exact .inr ⟨rfl, .inl ⟨.int .i64 E, X, by go_simp, Below.refl _ _, rfl⟩⟩
      | 10, ho =>
        obtain rfl : _ = o := Option.some.inj ho
        obtain rfl : 14 = d := Option.some.inj hd
        have g80 : (fun u (X : World) => X.ownsRow 0 5 1 u d'.length (u8s d')) (a'.eval (.tmp 80)) X := hG ⟨8, .data⟩ (by simp) rfl 80 rfl
        obtain ⟨ev, hev⟩ : ∃ ev, a'.eval = ev := ⟨_, rfl⟩
        rw [hev] at g80 ⊢
        clear hev hG hk
        clear hs
        exact .inr ⟨rfl, .inl ⟨ev (.tmp 80), X, by go_simp, Below.refl _ _, g80⟩⟩
      | 11, ho =>
        obtain rfl : _ = o := Option.some.inj ho
        obtain rfl : 15 = d := Option.some.inj hd
        have g81 : a'.eval (.tmp 81) = .int .i64 E := hG ⟨9, .data⟩ (by simp) rfl 81 rfl
        obtain ⟨ev, hev⟩ : ∃ ev, a'.eval = ev := ⟨_, rfl⟩
        rw [hev] at g81 ⊢
        clear hev hG hk
        obtain ⟨c1, c3, _⟩ := c9 X hB
        exact .inr ⟨rfl, .inl ⟨.int .i64 E, X, by clear hs; go_simp, Below.refl _ _, rfl⟩⟩
      | j + 12, ho => simp at ho
    · intro a' X hB hs hdf hk hG
      obtain ⟨tm, df⟩ := a'
      obtain rfl : df = [] := hdf
      have e0 : tm.getD 0 undef = .pointer (some ⟨Bb, 0, none⟩) := hk 0 (by kernel_rfl)
      have e1 : tm.getD 1 undef = v := hk 1 (by kernel_rfl)
      have e2 : tm.getD 2 undef = .agg #[.int .i64 2, .int .i64 a, .int .i64 n, .slice p l.length cap, .int .u64 x] := hk 2 (by kernel_rfl)
      have e3 : tm.getD 3 undef = undef := hk 3 (by kernel_rfl)
      have e4 : tm.getD 4 undef = undef := hk 4 (by kernel_rfl)
      have e5 : tm.getD 5 undef = .pointer (some ⟨w.heap.size, 0, none⟩) := hk 5 (by kernel_rfl)
      have e6 : tm.getD 6 undef = .slice none 0 0 := hk 6 (by kernel_rfl)
      have e7 : tm.getD 7 undef = .bool false := hk 7 (by kernel_rfl)
      have e8 : tm.getD 8 undef = undef := hk 8 (by kernel_rfl)
      have e9 : tm.getD 9 undef = undef := hk 9 (by kernel_rfl)
      have e10 : tm.getD 10 undef = undef := hk 10 (by kernel_rfl)
      have e11 : tm.getD 11 undef = undef := hk 11 (by kernel_rfl)
      have e12 : tm.getD 12 undef = .slice (some ⟨g, 0, none⟩) (l.length + 1) c := hk 12 (by kernel_rfl)
      have e13 : tm.getD 13 undef = .int .i64 E := hk 13 (by kernel_rfl)
      have e16 : tm.getD 16 undef = undef := hk 16 (by kernel_rfl)
      have e17 : tm.getD 17 undef = undef := hk 17 (by kernel_rfl)
      have e18 : tm.getD 18 undef = undef := hk 18 (by kernel_rfl)
      have e19 : tm.getD 19 undef = undef := hk 19 (by kernel_rfl)
      have e20 : tm.getD 20 undef = undef := hk 20 (by kernel_rfl)
      have e21 : tm.getD 21 undef = undef := hk 21 (by kernel_rfl)
      have e22 : tm.getD 22 undef = undef := hk 22 (by kernel_rfl)
      have e23 : tm.getD 23 undef = undef := hk 23 (by kernel_rfl)
      have e24 : tm.getD 24 undef = .pointer (some ⟨w.heap.size, 0, none⟩) := hk 24 (by kernel_rfl)
      have e25 : tm.getD 25 undef = .int .i64 2 := hk 25 (by kernel_rfl)
      have e26 : tm.getD 26 undef = .bool false := hk 26 (by kernel_rfl)
      have e27 : tm.getD 27 undef = .bool false := hk 27 (by kernel_rfl)
      have e28 : tm.getD 28 undef = undef := hk 28 (by kernel_rfl)
      have e29 : tm.getD 29 undef = undef := hk 29 (by kernel_rfl)
      have e30 : tm.getD 30 undef = undef := hk 30 (by kernel_rfl)
      have e31 : tm.getD 31 undef = undef := hk 31 (by kernel_rfl)
      have e32 : tm.getD 32 undef = undef := hk 32 (by kernel_rfl)
      have e33 : tm.getD 33 undef = undef := hk 33 (by kernel_rfl)
      have e34 : tm.getD 34 undef = undef := hk 34 (by kernel_rfl)
      have e35 : tm.getD 35 undef = undef := hk 35 (by kernel_rfl)
      have e36 : tm.getD 36 undef = undef := hk 36 (by kernel_rfl)
      have e37 : tm.getD 37 undef = undef := hk 37 (by kernel_rfl)
      have e38 : tm.getD 38 undef = undef := hk 38 (by kernel_rfl)
      have e39 : tm.getD 39 undef = undef := hk 39 (by kernel_rfl)
      have e40 : tm.getD 40 undef = undef := hk 40 (by kernel_rfl)
      have e41 : tm.getD 41 undef = undef := hk 41 (by kernel_rfl)
      have e42 : tm.getD 42 undef = undef := hk 42 (by kernel_rfl)
      have e43 : tm.getD 43 undef = undef := hk 43 (by kernel_rfl)
      have e44 : tm.getD 44 undef = undef := hk 44 (by kernel_rfl)
      have e45 : tm.getD 45 undef = undef := hk 45 (by kernel_rfl)
      have e46 : tm.getD 46 undef = undef := hk 46 (by kernel_rfl)
      have e47 : tm.getD 47 undef = undef := hk 47 (by kernel_rfl)
      have e48 : tm.getD 48 undef = undef := hk 48 (by kernel_rfl)
      have e49 : tm.getD 49 undef = undef := hk 49 (by kernel_rfl)
      have e50 : tm.getD 50 undef = undef := hk 50 (by kernel_rfl)
      have e51 : tm.getD 51 undef = undef := hk 51 (by kernel_rfl)
      have e52 : tm.getD 52 undef = undef := hk 52 (by kernel_rfl)
      have e53 : tm.getD 53 undef = undef := hk 53 (by kernel_rfl)
      have e54 : tm.getD 54 undef = undef := hk 54 (by kernel_rfl)
      have e55 : tm.getD 55 undef = .bool true := hk 55 (by kernel_rfl)
      have e56 : tm.getD 56 undef = .bool true := hk 56 (by kernel_rfl)
      have e57 : tm.getD 57 undef = .slice (some ⟨w.heap.size + 1, 0, none⟩) 0 0 := hk 57 (by kernel_rfl)
      have e58 : tm.getD 58 undef = .pointer (some ⟨w.heap.size, 3, none⟩) := hk 58 (by kernel_rfl)
      have e59 : tm.getD 59 undef = .slice p l.length cap := hk 59 (by kernel_rfl)
      have e60 : tm.getD 60 undef = v2 := hk 60 (by kernel_rfl)
      have e61 : tm.getD 61 undef = .slice (some ⟨w2.heap.size, 0, none⟩) 1 1 := hk 61 (by kernel_rfl)
      have e62 : tm.getD 62 undef = .slice (some ⟨g, 0, none⟩) (l.length + 1) c := hk 62 (by kernel_rfl)
      have e63 : tm.getD 63 undef = .pointer (some ⟨Bb, 0, none⟩) := hk 63 (by kernel_rfl)
      have e64 : tm.getD 64 undef = .pointer (some ⟨w.heap.size, 1, none⟩) := hk 64 (by kernel_rfl)
      have e65 : tm.getD 65 undef = .int .i64 a := hk 65 (by kernel_rfl)
      have e66 : tm.getD 66 undef = .slice (some ⟨g, 0, none⟩) (l.length + 1) c := hk 66 (by kernel_rfl)
      have e67 : tm.getD 67 undef = .pointer (some ⟨w.heap.size, 3, none⟩) := hk 67 (by kernel_rfl)
      have e68 : tm.getD 68 undef = .slice p l.length cap := hk 68 (by kernel_rfl)
      have e69 : tm.getD 69 undef = .int .i64 l.length := hk 69 (by kernel_rfl)
      have e70 : tm.getD 70 undef = .slice (some ⟨g, 0, none⟩) l.length c := hk 70 (by kernel_rfl)
      have e71 : tm.getD 71 undef = .int .i64 E := hk 71 (by kernel_rfl)
      have e82 : tm.getD 82 undef = undef := hk 82 (by kernel_rfl)
      have e83 : tm.getD 83 undef = undef := hk 83 (by kernel_rfl)
      have e84 : tm.getD 84 undef = undef := hk 84 (by kernel_rfl)
      have e85 : tm.getD 85 undef = undef := hk 85 (by kernel_rfl)
      have e86 : tm.getD 86 undef = undef := hk 86 (by kernel_rfl)
      have e87 : tm.getD 87 undef = undef := hk 87 (by kernel_rfl)
      have e88 : tm.getD 88 undef = undef := hk 88 (by kernel_rfl)
      have e89 : tm.getD 89 undef = undef := hk 89 (by kernel_rfl)
      have e90 : tm.getD 90 undef = undef := hk 90 (by kernel_rfl)
      have e91 : tm.getD 91 undef = undef := hk 91 (by kernel_rfl)
      have e92 : tm.getD 92 undef = undef := hk 92 (by kernel_rfl)
      have e93 : tm.getD 93 undef = undef := hk 93 (by kernel_rfl)
      have e94 : tm.getD 94 undef = undef := hk 94 (by kernel_rfl)
      have e95 : tm.getD 95 undef = undef := hk 95 (by kernel_rfl)
      have e96 : tm.getD 96 undef = undef := hk 96 (by kernel_rfl)
      have e97 : tm.getD 97 undef = undef := hk 97 (by kernel_rfl)
      have e98 : tm.getD 98 undef = undef := hk 98 (by kernel_rfl)
      have e99 : tm.getD 99 undef = undef := hk 99 (by kernel_rfl)
      have e100 : tm.getD 100 undef = undef := hk 100 (by kernel_rfl)
      have e101 : tm.getD 101 undef = undef := hk 101 (by kernel_rfl)
      have e102 : tm.getD 102 undef = undef := hk 102 (by kernel_rfl)
      have e103 : tm.getD 103 undef = undef := hk 103 (by kernel_rfl)
      have e104 : tm.getD 104 undef = undef := hk 104 (by kernel_rfl)
      have e105 : tm.getD 105 undef = undef := hk 105 (by kernel_rfl)
      have e106 : tm.getD 106 undef = undef := hk 106 (by kernel_rfl)
      have e107 : tm.getD 107 undef = undef := hk 107 (by kernel_rfl)
      have e108 : tm.getD 108 undef = undef := hk 108 (by kernel_rfl)
      have e109 : tm.getD 109 undef = undef := hk 109 (by kernel_rfl)
      have e110 : tm.getD 110 undef = undef := hk 110 (by kernel_rfl)
      have e111 : tm.getD 111 undef = undef := hk 111 (by kernel_rfl)
      have e112 : tm.getD 112 undef = undef := hk 112 (by kernel_rfl)
      have e113 : tm.getD 113 undef = undef := hk 113 (by kernel_rfl)
      have e114 : tm.getD 114 undef = undef := hk 114 (by kernel_rfl)
      have e115 : tm.getD 115 undef = undef := hk 115 (by kernel_rfl)
      have e116 : tm.getD 116 undef = undef := hk 116 (by kernel_rfl)
      have e117 : tm.getD 117 undef = undef := hk 117 (by kernel_rfl)
      have e118 : tm.getD 118 undef = undef := hk 118 (by kernel_rfl)
      have e119 : tm.getD 119 undef = undef := hk 119 (by kernel_rfl)
      have e120 : tm.getD 120 undef = undef := hk 120 (by kernel_rfl)
      have e121 : tm.getD 121 undef = undef := hk 121 (by kernel_rfl)
      have e122 : tm.getD 122 undef = undef := hk 122 (by kernel_rfl)
      have e123 : tm.getD 123 undef = undef := hk 123 (by kernel_rfl)
      have e124 : tm.getD 124 undef = undef := hk 124 (by kernel_rfl)
      have e125 : tm.getD 125 undef = undef := hk 125 (by kernel_rfl)
      have e126 : tm.getD 126 undef = undef := hk 126 (by kernel_rfl)
      have e127 : tm.getD 127 undef = undef := hk 127 (by kernel_rfl)
      have e128 : tm.getD 128 undef = undef := hk 128 (by kernel_rfl)
      have e129 : tm.getD 129 undef = undef := hk 129 (by kernel_rfl)
      have e130 : tm.getD 130 undef = undef := hk 130 (by kernel_rfl)
      have e131 : tm.getD 131 undef = undef := hk 131 (by kernel_rfl)
      have e132 : tm.getD 132 undef = undef := hk 132 (by kernel_rfl)
      have e133 : tm.getD 133 undef = undef := hk 133 (by kernel_rfl)
      have e134 : tm.getD 134 undef = undef := hk 134 (by kernel_rfl)
      have e135 : tm.getD 135 undef = undef := hk 135 (by kernel_rfl)
      have e136 : tm.getD 136 undef = undef := hk 136 (by kernel_rfl)
      have e137 : tm.getD 137 undef = undef := hk 137 (by kernel_rfl)
      have e138 : tm.getD 138 undef = undef := hk 138 (by kernel_rfl)
      have e139 : tm.getD 139 undef = undef := hk 139 (by kernel_rfl)
      have e140 : tm.getD 140 undef = undef := hk 140 (by kernel_rfl)
      have e141 : tm.getD 141 undef = undef := hk 141 (by kernel_rfl)
      have e142 : tm.getD 142 undef = undef := hk 142 (by kernel_rfl)
      have e143 : tm.getD 143 undef = undef := hk 143 (by kernel_rfl)
      have e144 : tm.getD 144 undef = undef := hk 144 (by kernel_rfl)
      have e145 : tm.getD 145 undef = undef := hk 145 (by kernel_rfl)
      have e146 : tm.getD 146 undef = undef := hk 146 (by kernel_rfl)
      have e147 : tm.getD 147 undef = undef := hk 147 (by kernel_rfl)
      have e148 : tm.getD 148 undef = undef := hk 148 (by kernel_rfl)
      have e149 : tm.getD 149 undef = undef := hk 149 (by kernel_rfl)
      have e150 : tm.getD 150 undef = undef := hk 150 (by kernel_rfl)
      have e151 : tm.getD 151 undef = undef := hk 151 (by kernel_rfl)
      have e152 : tm.getD 152 undef = undef := hk 152 (by kernel_rfl)
      have e153 : tm.getD 153 undef = undef := hk 153 (by kernel_rfl)
      have e154 : tm.getD 154 undef = undef := hk 154 (by kernel_rfl)
      have e155 : tm.getD 155 undef = undef := hk 155 (by kernel_rfl)
      have e156 : tm.getD 156 undef = undef := hk 156 (by kernel_rfl)
      have e157 : tm.getD 157 undef = undef := hk 157 (by kernel_rfl)
      have g73 : (tm.getD 73 undef) = v := hG 0 73 (by decide) rfl
      have g74 : (tm.getD 74 undef) = .pointer (some ⟨w.heap.size, 1, none⟩) := hG 1 74 (by decide) rfl
      have g75 : (tm.getD 75 undef) = .int .i64 a := hG 2 75 (by decide) rfl
      have g76 : (tm.getD 76 undef) = .pointer (some ⟨w.heap.size, 3, none⟩) := hG 3 76 (by decide) rfl
      have g77 : (tm.getD 77 undef) = .slice p l.length cap := hG 4 77 (by decide) rfl
      have g78 : (tm.getD 78 undef) = .string ⟨(catL l).toArray⟩ := hG 5 78 (by decide) rfl
      have g79 : (fun u (X : World) => ∃ v', u = .tuple #[v', .int .i64 E] ∧ X.ownsRow 0 5 1 v' d'.length (u8s d')) ((tm.getD 79 undef)) X := hG 6 79 (by decide) rfl
      have g72 : (fun u (X : World) => ∃ v', u = .tuple #[v', .int .i64 E] ∧ X.ownsRow 0 5 1 v' d'.length (u8s d')) ((tm.getD 72 undef)) X := hG 7 72 (by decide) rfl
      have g80 : (fun u (X : World) => X.ownsRow 0 5 1 u d'.length (u8s d')) ((tm.getD 80 undef)) X := hG 8 80 (by decide) rfl
      have g81 : (tm.getD 81 undef) = .int .i64 E := hG 9 81 (by decide) rfl
      have g14 : (fun u (X : World) => X.ownsRow 0 5 1 u d'.length (u8s d')) ((tm.getD 14 undef)) X := hG 10 14 (by decide) rfl
      have g15 : (tm.getD 15 undef) = .int .i64 E := hG 11 15 (by decide) rfl
      have htm := arr_of tm ((.pointer (some ⟨Bb, 0, none⟩) : Value) :: (v : Value) :: (.agg #[.int .i64 2, .int .i64 a, .int .i64 n, .slice p l.length cap, .int .u64 x] : Value) :: (undef : Value) :: (undef : Value) :: (.pointer (some ⟨w.heap.size, 0, none⟩) : Value) :: (.slice none 0 0 : Value) :: (.bool false : Value) :: (undef : Value) :: (undef : Value) :: (undef : Value) :: (undef : Value) :: (.slice (some ⟨g, 0, none⟩) (l.length + 1) c : Value) :: (.int .i64 E : Value) :: (tm.getD 14 undef : Value) :: (tm.getD 15 undef : Value) :: (undef : Value) :: (undef : Value) :: (undef : Value) :: (undef : Value) :: (undef : Value) :: (undef : Value) :: (undef : Value) :: (undef : Value) :: (.pointer (some ⟨w.heap.size, 0, none⟩) : Value) :: (.int .i64 2 : Value) :: (.bool false : Value) :: (.bool false : Value) :: (undef : Value) :: (undef : Value) :: (undef : Value) :: (undef : Value) :: (undef : Value) :: (undef : Value) :: (undef : Value) :: (undef : Value) :: (undef : Value) :: (undef : Value) :: (undef : Value) :: (undef : Value) :: (undef : Value) :: (undef : Value) :: (undef : Value) :: (undef : Value) :: (undef : Value) :: (undef : Value) :: (undef : Value) :: (undef : Value) :: (undef : Value) :: (undef : Value) :: (undef : Value) :: (undef : Value) :: (undef : Value) :: (undef : Value) :: (undef : Value) :: (.bool true : Value) :: (.bool true : Value) :: (.slice (some ⟨w.heap.size + 1, 0, none⟩) 0 0 : Value) :: (.pointer (some ⟨w.heap.size, 3, none⟩) : Value) :: (.slice p l.length cap : Value) :: (v2 : Value) :: (.slice (some ⟨w2.heap.size, 0, none⟩) 1 1 : Value) :: (.slice (some ⟨g, 0, none⟩) (l.length + 1) c : Value) :: (.pointer (some ⟨Bb, 0, none⟩) : Value) :: (.pointer (some ⟨w.heap.size, 1, none⟩) : Value) :: (.int .i64 a : Value) :: (.slice (some ⟨g, 0, none⟩) (l.length + 1) c : Value) :: (.pointer (some ⟨w.heap.size, 3, none⟩) : Value) :: (.slice p l.length cap : Value) :: (.int .i64 l.length : Value) :: (.slice (some ⟨g, 0, none⟩) l.length c : Value) :: (.int .i64 E : Value) :: (tm.getD 72 undef : Value) :: (tm.getD 73 undef : Value) :: (tm.getD 74 undef : Value) :: (tm.getD 75 undef : Value) :: (tm.getD 76 undef : Value) :: (tm.getD 77 undef : Value) :: (tm.getD 78 undef : Value) :: (tm.getD 79 undef : Value) :: (tm.getD 80 undef : Value) :: (tm.getD 81 undef : Value) :: (undef : Value) :: (undef : Value) :: (undef : Value) :: (undef : Value) :: (undef : Value) :: (undef : Value) :: (undef : Value) :: (undef : Value) :: (undef : Value) :: (undef : Value) :: (undef : Value) :: (undef : Value) :: (undef : Value) :: (undef : Value) :: (undef : Value) :: (undef : Value) :: (undef : Value) :: (undef : Value) :: (undef : Value) :: (undef : Value) :: (undef : Value) :: (undef : Value) :: (undef : Value) :: (undef : Value) :: (undef : Value) :: (undef : Value) :: (undef : Value) :: (undef : Value) :: (undef : Value) :: (undef : Value) :: (undef : Value) :: (undef : Value) :: (undef : Value) :: (undef : Value) :: (undef : Value) :: (undef : Value) :: (undef : Value) :: (undef : Value) :: (undef : Value) :: (undef : Value) :: (undef : Value) :: (undef : Value) :: (undef : Value) :: (undef : Value) :: (undef : Value) :: (undef : Value) :: (undef : Value) :: (undef : Value) :: (undef : Value) :: (undef : Value) :: (undef : Value) :: (undef : Value) :: (undef : Value) :: (undef : Value) :: (undef : Value) :: (undef : Value) :: (undef : Value) :: (undef : Value) :: (undef : Value) :: (undef : Value) :: (undef : Value) :: (undef : Value) :: (undef : Value) :: (undef : Value) :: (undef : Value) :: (undef : Value) :: (undef : Value) :: (undef : Value) :: (undef : Value) :: (undef : Value) :: (undef : Value) :: (undef : Value) :: (undef : Value) :: (undef : Value) :: (undef : Value) :: (undef : Value) :: []) hs (by show (tm.getD 0 undef :: tm.getD 1 undef :: tm.getD 2 undef :: tm.getD 3 undef :: tm.getD 4 undef :: tm.getD 5 undef :: tm.getD 6 undef :: tm.getD 7 undef :: tm.getD 8 undef :: tm.getD 9 undef :: tm.getD 10 undef :: tm.getD 11 undef :: tm.getD 12 undef :: tm.getD 13 undef :: tm.getD 14 undef :: tm.getD 15 undef :: tm.getD 16 undef :: tm.getD 17 undef :: tm.getD 18 undef :: tm.getD 19 undef :: tm.getD 20 undef :: tm.getD 21 undef :: tm.getD 22 undef :: tm.getD 23 undef :: tm.getD 24 undef :: tm.getD 25 undef :: tm.getD 26 undef :: tm.getD 27 undef :: tm.getD 28 undef :: tm.getD 29 undef :: tm.getD 30 undef :: tm.getD 31 undef :: tm.getD 32 undef :: tm.getD 33 undef :: tm.getD 34 undef :: tm.getD 35 undef :: tm.getD 36 undef :: tm.getD 37 undef :: tm.getD 38 undef :: tm.getD 39 undef :: tm.getD 40 undef :: tm.getD 41 undef :: tm.getD 42 undef :: tm.getD 43 undef :: tm.getD 44 undef :: tm.getD 45 undef :: tm.getD 46 undef :: tm.getD 47 undef :: tm.getD 48 undef :: tm.getD 49 undef :: tm.getD 50 undef :: tm.getD 51 undef :: tm.getD 52 undef :: tm.getD 53 undef :: tm.getD 54 undef :: tm.getD 55 undef :: tm.getD 56 undef :: tm.getD 57 undef :: tm.getD 58 undef :: tm.getD 59 undef :: tm.getD 60 undef :: tm.getD 61 undef :: tm.getD 62 undef :: tm.getD 63 undef :: tm.getD 64 undef :: tm.getD 65 undef :: tm.getD 66 undef :: tm.getD 67 undef :: tm.getD 68 undef :: tm.getD 69 undef :: tm.getD 70 undef :: tm.getD 71 undef :: tm.getD 72 undef :: tm.getD 73 undef :: tm.getD 74 undef :: tm.getD 75 undef :: tm.getD 76 undef :: tm.getD 77 undef :: tm.getD 78 undef :: tm.getD 79 undef :: tm.getD 80 undef :: tm.getD 81 undef :: tm.getD 82 undef :: tm.getD 83 undef :: tm.getD 84 undef :: tm.getD 85 undef :: tm.getD 86 undef :: tm.getD 87 undef :: tm.getD 88 undef :: tm.getD 89 undef :: tm.getD 90 undef :: tm.getD 91 undef :: tm.getD 92 undef :: tm.getD 93 undef :: tm.getD 94 undef :: tm.getD 95 undef :: tm.getD 96 undef :: tm.getD 97 undef :: tm.getD 98 undef :: tm.getD 99 undef :: tm.getD 100 undef :: tm.getD 101 undef :: tm.getD 102 undef :: tm.getD 103 undef :: tm.getD 104 undef :: tm.getD 105 undef :: tm.getD 106 undef :: tm.getD 107 undef :: tm.getD 108 undef :: tm.getD 109 undef :: tm.getD 110 undef :: tm.getD 111 undef :: tm.getD 112 undef :: tm.getD 113 undef :: tm.getD 114 undef :: tm.getD 115 undef :: tm.getD 116 undef :: tm.getD 117 undef :: tm.getD 118 undef :: tm.getD 119 undef :: tm.getD 120 undef :: tm.getD 121 undef :: tm.getD 122 undef :: tm.getD 123 undef :: tm.getD 124 undef :: tm.getD 125 undef :: tm.getD 126 undef :: tm.getD 127 undef :: tm.getD 128 undef :: tm.getD 129 undef :: tm.getD 130 undef :: tm.getD 131 undef :: tm.getD 132 undef :: tm.getD 133 undef :: tm.getD 134 undef :: tm.getD 135 undef :: tm.getD 136 undef :: tm.getD 137 undef :: tm.getD 138 undef :: tm.getD 139 undef :: tm.getD 140 undef :: tm.getD 141 undef :: tm.getD 142 undef :: tm.getD 143 undef :: tm.getD 144 undef :: tm.getD 145 undef :: tm.getD 146 undef :: tm.getD 147 undef :: tm.getD 148 undef :: tm.getD 149 undef :: tm.getD 150 undef :: tm.getD 151 undef :: tm.getD 152 undef :: tm.getD 153 undef :: tm.getD 154 undef :: tm.getD 155 undef :: tm.getD 156 undef :: tm.getD 157 undef :: []) = _; rw [e0, e1, e2, e3, e4, e5, e6, e7, e8, e9, e10, e11, e12, e13, e16, e17, e18, e19, e20, e21, e22, e23, e24, e25, e26, e27, e28, e29, e30, e31, e32, e33, e34, e35, e36, e37, e38, e39, e40, e41, e42, e43, e44, e45, e46, e47, e48, e49, e50, e51, e52, e53, e54, e55, e56, e57, e58, e59, e60, e61, e62, e63, e64, e65, e66, e67, e68, e69, e70, e71, e82, e83, e84, e85, e86, e87, e88, e89, e90, e91, e92, e93, e94, e95, e96, e97, e98, e99, e100, e101, e102, e103, e104, e105, e106, e107, e108, e109, e110, e111, e112, e113, e114, e115, e116, e117, e118, e119, e120, e121, e122, e123, e124, e125, e126, e127, e128, e129, e130, e131, e132, e133, e134, e135, e136, e137, e138, e139, e140, e141, e142, e143, e144, e145, e146, e147, e148, e149, e150, e151, e152, e153, e154, e155, e156, e157]; try rfl)
      clear hs hk hG e0 e1 e2 e3 e4 e5 e6 e7 e8 e9 e10 e11 e12 e13 e16 e17 e18 e19 e20 e21 e22 e23 e24 e25 e26 e27 e28 e29 e30 e31 e32 e33 e34 e35 e36 e37 e38 e39 e40 e41 e42 e43 e44 e45 e46 e47 e48 e49 e50 e51 e52 e53 e54 e55 e56 e57 e58 e59 e60 e61 e62 e63 e64 e65 e66 e67 e68 e69 e70 e71 e82 e83 e84 e85 e86 e87 e88 e89 e90 e91 e92 e93 e94 e95 e96 e97 e98 e99 e100 e101 e102 e103 e104 e105 e106 e107 e108 e109 e110 e111 e112 e113 e114 e115 e116 e117 e118 e119 e120 e121 e122 e123 e124 e125 e126 e127 e128 e129 e130 e131 e132 e133 e134 e135 e136 e137 e138 e139 e140 e141 e142 e143 e144 e145 e146 e147 e148 e149 e150 e151 e152 e153 e154 e155 e156 e157
      generalize tm.getD 73 undef = t73 at htm g73
      generalize tm.getD 74 undef = t74 at htm g74
      generalize tm.getD 75 undef = t75 at htm g75
      generalize tm.getD 76 undef = t76 at htm g76
      generalize tm.getD 77 undef = t77 at htm g77
      generalize tm.getD 78 undef = t78 at htm g78
      generalize tm.getD 79 undef = t79 at htm g79
      generalize tm.getD 72 undef = t72 at htm g72
      generalize tm.getD 80 undef = t80 at htm g80
      generalize tm.getD 81 undef = t81 at htm g81
      generalize tm.getD 14 undef = t14 at htm g14
      generalize tm.getD 15 undef = t15 at htm g15
      subst htm
      subst g73
      subst g74
      subst g75
      subst g76
      subst g77
      subst g78
      subst g81
      subst g15
      simp only [List.drop_succ_cons, List.drop_zero]
      have HB9 := Lib.hid hB
      have HT14 := Lib.hid g14
      clear hB g79 g72 g80 g14
      have c10 : ∀ Y, Below X.heap.size X Y → Y.cell? ⟨w.heap.size, 3, none⟩ = some (.slice p l.length cap) ∧ Y.cell? ⟨g, l.length, none⟩ = some (.string ⟨#[115, 112, 97, 114, 101]⟩) := fun Y hY => (c9 Y (HB9.out.trans (hY.mono HB9.out.size))).2
      go_upto_region 10 with fail
      refine wp_region_monoT 6 15 (fun kq uq Xq => match kq with | 82 => uq = t14 | 83 => uq = .int .i64 E | 84 => uq = .int .i64 E | 85 => uq = .bool true | 86 => uq = .bool true | 87 => uq = .slice (some ⟨g, 0, none⟩) (l.length + 1) c | 88 => uq = .pointer (some ⟨w.heap.size, 3, none⟩) | 89 => uq = .slice p l.length cap | 90 => uq = .int .i64 (l.length : Int) | 91 => uq = .pointer (some ⟨g, l.length, none⟩) | 92 => uq = .string ⟨#[115, 112, 97, 114, 101]⟩ | 93 => uq = .bool true | 94 => uq = .bool true | 6 => uq = t14 | 7 => uq = .bool true | _ => True) (by kernel_rfl) (by kernel_rfl) (by kernel_rfl) (by kernel_rfl) (by simp) (by kernel_rfl) ?_ ?_ ?_
      · intro kq v W W' h hb
        revert h
        try dsimp only
        split
        · intro h; exact h
        · intro h; exact h
        · intro h; exact h
        · intro h; exact h
        · intro h; exact h
        · intro h; exact h
        · intro h; exact h
        · intro h; exact h
        · intro h; exact h
        · intro h; exact h
        · intro h; exact h
        · intro h; exact h
        · intro h; exact h
        · intro h; exact h
        · intro h; exact h
        · intro h; trivial
      · intro a' X hB hs hk i o d ho hd hG
        match i, ho with
        | 0, ho =>
          obtain rfl : _ = o := Option.some.inj ho
          obtain rfl : 82 = d := Option.some.inj hd
          have g14 : a'.eval (.tmp 14) = t14 := hk 14 (by kernel_rfl)
          obtain ⟨ev, hev⟩ : ∃ ev, a'.eval = ev := ⟨_, rfl⟩
          rw [hev] at g14 ⊢
          clear hev hG hk
          obtain ⟨c3, c4⟩ := c10 X hB
          have hnl : ¬ ((l.length : Int) + 1 ≤ (l.length : Int)) := by omega
          exact .inr ⟨rfl, .inl ⟨t14, X, by clear hs; go_simp, Below.refl _ _, rfl⟩⟩
        | 1, ho =>
          obtain rfl : _ = o := Option.some.inj ho
          obtain rfl : 83 = d := Option.some.inj hd
          have g13 : a'.eval (.tmp 13) = .int .i64 E := hk 13 (by kernel_rfl)
          obtain ⟨ev, hev⟩ : ∃ ev, a'.eval = ev := ⟨_, rfl⟩
          rw [hev] at g13 ⊢
          clear hev hG hk
          obtain ⟨c3, c4⟩ := c10 X hB
          have hnl : ¬ ((l.length : Int) + 1 ≤ (l.length : Int)) := by omega
          exact .inr ⟨rfl, .inl ⟨.int .i64 E, X, by clear hs; go_simp, Below.refl _ _, rfl⟩⟩
        | 2, ho =>
          obtain rfl : _ = o := Option.some.inj ho
          obtain rfl : 84 = d := Option.some.inj hd
          have g15 : a'.eval (.tmp 15) = .int .i64 E := hk 15 (by kernel_rfl)
          obtain ⟨ev, hev⟩ : ∃ ev, a'.eval = ev := ⟨_, rfl⟩
          rw [hev] at g15 ⊢
          clear hev hG hk
          obtain ⟨c3, c4⟩ := c10 X hB
          have hnl : ¬ ((l.length : Int) + 1 ≤ (l.length : Int)) := by omega
          exact .inr ⟨rfl, .inl ⟨.int .i64 E, X, by clear hs; go_simp, Below.refl _ _, rfl⟩⟩
        | 3, ho =>
          obtain rfl : _ = o := Option.some.inj ho
          obtain rfl : 85 = d := Option.some.inj hd
          have g83 : a'.eval (.tmp 83) = .int .i64 E := hG ⟨1, .data⟩ (by simp) rfl 83 rfl
          have g84 : a'.eval (.tmp 84) = .int .i64 E := hG ⟨2, .data⟩ (by simp) rfl 84 rfl
          obtain ⟨ev, hev⟩ : ∃ ev, a'.eval = ev := ⟨_, rfl⟩
          rw [hev] at g83 g84 ⊢
          clear hev hG hk
          obtain ⟨c3, c4⟩ := c10 X hB
          have hnl : ¬ ((l.length : Int) + 1 ≤ (l.length : Int)) := by omega
          exact .inr ⟨rfl, .inl ⟨.bool true, X, by clear hs; go_simp, Below.refl _ _, rfl⟩⟩
        | 4, ho =>
          obtain rfl : _ = o := Option.some.inj ho
          obtain rfl : 86 = d := Option.some.inj hd
          have g85 : a'.eval (.tmp 85) = .bool true := hG ⟨3, .data⟩ (by simp) rfl 85 rfl
          obtain ⟨ev, hev⟩ : ∃ ev, a'.eval = ev := ⟨_, rfl⟩
          rw [hev] at g85 ⊢
          clear hev hG hk
          obtain ⟨c3, c4⟩ := c10 X hB
          have hnl : ¬ ((l.length : Int) + 1 ≤ (l.length : Int)) := by omega
          exact .inr ⟨rfl, .inl ⟨.bool true, X, by clear hs; go_simp, Below.refl _ _, rfl⟩⟩
        | 5, ho =>
          obtain rfl : _ = o := Option.some.inj ho
          obtain rfl : 87 = d := Option.some.inj hd
          have g12 : a'.eval (.tmp 12) = .slice (some ⟨g, 0, none⟩) (l.length + 1) c := hk 12 (by kernel_rfl)
          have gg : a'.eval (.tmp 86) = .bool true := hG ⟨4, .guard⟩ (by simp) rfl 86 rfl
          refine .inr ⟨want_yes (n := 158) (d := 86) rfl hs (by decide) rfl gg, .inl ⟨.slice (some ⟨g, 0, none⟩) (l.length + 1) c, X, ?_, Below.refl _ _, rfl⟩⟩
          obtain ⟨ev, hev⟩ : ∃ ev, a'.eval = ev := ⟨_, rfl⟩
          rw [hev] at g12 ⊢
          clear hev hG hk hs gg
          obtain ⟨c3, c4⟩ := c10 X hB
          have hnl : ¬ ((l.length : Int) + 1 ≤ (l.length : Int)) := by omega
          go_simp
        | 6, ho =>
          obtain rfl : _ = o := Option.some.inj ho
          obtain rfl : 88 = d := Option.some.inj hd
          have g5 : a'.eval (.tmp 5) = .pointer (some ⟨w.heap.size, 0, none⟩) := hk 5 (by kernel_rfl)
          have gg : a'.eval (.tmp 86) = .bool true := hG ⟨4, .guard⟩ (by simp) rfl 86 rfl
          refine .inr ⟨want_yes (n := 158) (d := 86) rfl hs (by decide) rfl gg, .inl ⟨.pointer (some ⟨w.heap.size, 3, none⟩), X, ?_, Below.refl _ _, rfl⟩⟩
          obtain ⟨ev, hev⟩ : ∃ ev, a'.eval = ev := ⟨_, rfl⟩
          rw [hev] at g5 ⊢
          clear hev hG hk hs gg
          obtain ⟨c3, c4⟩ := c10 X hB
          have hnl : ¬ ((l.length : Int) + 1 ≤ (l.length : Int)) := by omega
          go_simp
        | 7, ho =>
          obtain rfl : _ = o := Option.some.inj ho
          obtain rfl : 89 = d := Option.some.inj hd
          have g88 : a'.eval (.tmp 88) = .pointer (some ⟨w.heap.size, 3, none⟩) := hG ⟨6, .data⟩ (by simp) rfl 88 rfl
          have gg : a'.eval (.tmp 86) = .bool true := hG ⟨4, .guard⟩ (by simp) rfl 86 rfl
          refine .inr ⟨want_yes (n := 158) (d := 86) rfl hs (by decide) rfl gg, .inl ⟨.slice p l.length cap, X, ?_, Below.refl _ _, rfl⟩⟩
          obtain ⟨ev, hev⟩ : ∃ ev, a'.eval = ev := ⟨_, rfl⟩
          rw [hev] at g88 ⊢
          clear hev hG hk hs gg
          obtain ⟨c3, c4⟩ := c10 X hB
          have hnl : ¬ ((l.length : Int) + 1 ≤ (l.length : Int)) := by omega
          go_simp
        | 8, ho =>
          obtain rfl : _ = o := Option.some.inj ho
          obtain rfl : 90 = d := Option.some.inj hd
          have g89 : a'.eval (.tmp 89) = .slice p l.length cap := hG ⟨7, .data⟩ (by simp) rfl 89 rfl
          have gg : a'.eval (.tmp 86) = .bool true := hG ⟨4, .guard⟩ (by simp) rfl 86 rfl
          refine .inr ⟨want_yes (n := 158) (d := 86) rfl hs (by decide) rfl gg, .inl ⟨.int .i64 (l.length : Int), X, ?_, Below.refl _ _, rfl⟩⟩
          obtain ⟨ev, hev⟩ : ∃ ev, a'.eval = ev := ⟨_, rfl⟩
          rw [hev] at g89 ⊢
          clear hev hG hk hs gg
          obtain ⟨c3, c4⟩ := c10 X hB
          have hnl : ¬ ((l.length : Int) + 1 ≤ (l.length : Int)) := by omega
          go_simp
        | 9, ho =>
          obtain rfl : _ = o := Option.some.inj ho
          obtain rfl : 91 = d := Option.some.inj hd
          have g87 : a'.eval (.tmp 87) = .slice (some ⟨g, 0, none⟩) (l.length + 1) c := hG ⟨5, .data⟩ (by simp) rfl 87 rfl
          have g90 : a'.eval (.tmp 90) = .int .i64 (l.length : Int) := hG ⟨8, .data⟩ (by simp) rfl 90 rfl
          have gg : a'.eval (.tmp 86) = .bool true := hG ⟨4, .guard⟩ (by simp) rfl 86 rfl
          refine .inr ⟨want_yes (n := 158) (d := 86) rfl hs (by decide) rfl gg, .inl ⟨.pointer (some ⟨g, l.length, none⟩), X, ?_, Below.refl _ _, rfl⟩⟩
          obtain ⟨ev, hev⟩ : ∃ ev, a'.eval = ev := ⟨_, rfl⟩
          rw [hev] at g87 g90 ⊢
          clear hev hG hk hs gg
          obtain ⟨c3, c4⟩ := c10 X hB
          have hnl : ¬ ((l.length : Int) + 1 ≤ (l.length : Int)) := by omega
          go_simp
        | 10, ho =>
          obtain rfl : _ = o := Option.some.inj ho
          obtain rfl : 92 = d := Option.some.inj hd
          have g91 : a'.eval (.tmp 91) = .pointer (some ⟨g, l.length, none⟩) := hG ⟨9, .data⟩ (by simp) rfl 91 rfl
          have gg : a'.eval (.tmp 86) = .bool true := hG ⟨4, .guard⟩ (by simp) rfl 86 rfl
          refine .inr ⟨want_yes (n := 158) (d := 86) rfl hs (by decide) rfl gg, .inl ⟨.string ⟨#[115, 112, 97, 114, 101]⟩, X, ?_, Below.refl _ _, rfl⟩⟩
          obtain ⟨ev, hev⟩ : ∃ ev, a'.eval = ev := ⟨_, rfl⟩
          rw [hev] at g91 ⊢
          clear hev hG hk hs gg
          obtain ⟨c3, c4⟩ := c10 X hB
          have hnl : ¬ ((l.length : Int) + 1 ≤ (l.length : Int)) := by omega
          go_simp
        | 11, ho =>
          obtain rfl : _ = o := Option.some.inj ho
          obtain rfl : 93 = d := Option.some.inj hd
          have g92 : a'.eval (.tmp 92) = .string ⟨#[115, 112, 97, 114, 101]⟩ := hG ⟨10, .data⟩ (by simp) rfl 92 rfl
          have k0 : a'.eval (.const (.string ⟨#[115, 112, 97, 114, 101]⟩)) = (.string ⟨#[115, 112, 97, 114, 101]⟩) := rfl
          have gg : a'.eval (.tmp 86) = .bool true := hG ⟨4, .guard⟩ (by simp) rfl 86 rfl
          refine .inr ⟨want_yes (n := 158) (d := 86) rfl hs (by decide) rfl gg, .inl ⟨.bool true, X, ?_, Below.refl _ _, rfl⟩⟩
          obtain ⟨ev, hev⟩ : ∃ ev, a'.eval = ev := ⟨_, rfl⟩
          rw [hev] at g92 k0 ⊢
          clear hev hG hk hs gg
          obtain ⟨c3, c4⟩ := c10 X hB
          have hnl : ¬ ((l.length : Int) + 1 ≤ (l.length : Int)) := by omega
          go_simp
        | 12, ho =>
          obtain rfl : _ = o := Option.some.inj ho
          obtain rfl : 94 = d := Option.some.inj hd
          have g86 : a'.eval (.tmp 86) = .bool true := hG ⟨4, .data⟩ (by simp) rfl 86 rfl
          have g93 : a'.eval (.tmp 93) = .bool true := hG ⟨11, .data⟩ (by simp) rfl 93 rfl
          have k0 : a'.eval (.const (.bool false)) = (.bool false) := rfl
          obtain ⟨ev, hev⟩ : ∃ ev, a'.eval = ev := ⟨_, rfl⟩
          rw [hev] at g86 g93 k0 ⊢
          clear hev hG hk
          obtain ⟨c3, c4⟩ := c10 X hB
          have hnl : ¬ ((l.length : Int) + 1 ≤ (l.length : Int)) := by omega
          exact .inr ⟨rfl, .inl ⟨.bool true, X, by clear hs; go_simp, Below.refl _ _, rfl⟩⟩
        | 13, ho =>
          obtain rfl : _ = o := Option.some.inj ho
          obtain rfl : 6 = d := Option.some.inj hd
          have g82 : a'.eval (.tmp 82) = t14 := hG ⟨0, .data⟩ (by simp) rfl 82 rfl
          obtain ⟨ev, hev⟩ : ∃ ev, a'.eval = ev := ⟨_, rfl⟩
          rw [hev] at g82 ⊢
          clear hev hG hk
          obtain ⟨c3, c4⟩ := c10 X hB
          have hnl : ¬ ((l.length : Int) + 1 ≤ (l.length : Int)) := by omega
          exact .inr ⟨rfl, .inl ⟨t14, X, by clear hs; go_simp, Below.refl _ _, rfl⟩⟩
        | 14, ho =>
          obtain rfl : _ = o := Option.some.inj ho
          obtain rfl : 7 = d := Option.some.inj hd
          have g94 : a'.eval (.tmp 94) = .bool true := hG ⟨12, .data⟩ (by simp) rfl 94 rfl
          obtain ⟨ev, hev⟩ : ∃ ev, a'.eval = ev := ⟨_, rfl⟩
          rw [hev] at g94 ⊢
          clear hev hG hk
          obtain ⟨c3, c4⟩ := c10 X hB
          have hnl : ¬ ((l.length : Int) + 1 ≤ (l.length : Int)) := by omega
          exact .inr ⟨rfl, .inl ⟨.bool true, X, by clear hs; go_simp, Below.refl _ _, rfl⟩⟩
        | j + 15, ho => simp at ho
      · intro a' X hB hs hdf hk hG
        obtain ⟨tm, df⟩ := a'
        obtain rfl : df = [] := hdf
        have e0 : tm.getD 0 undef = .pointer (some ⟨Bb, 0, none⟩) := hk 0 (by kernel_rfl)
        have e1 : tm.getD 1 undef = t73 := hk 1 (by kernel_rfl)
        have e2 : tm.getD 2 undef = .agg #[.int .i64 2, .int .i64 a, .int .i64 n, .slice p l.length cap, .int .u64 x] := hk 2 (by kernel_rfl)
        have e3 : tm.getD 3 undef = undef := hk 3 (by kernel_rfl)
        have e4 : tm.getD 4 undef = undef := hk 4 (by kernel_rfl)
        have e5 : tm.getD 5 undef = .pointer (some ⟨w.heap.size, 0, none⟩) := hk 5 (by kernel_rfl)
        have e8 : tm.getD 8 undef = undef := hk 8 (by kernel_rfl)
        have e9 : tm.getD 9 undef = undef := hk 9 (by kernel_rfl)
        have e10 : tm.getD 10 undef = undef := hk 10 (by kernel_rfl)
        have e11 : tm.getD 11 undef = undef := hk 11 (by kernel_rfl)
        have e12 : tm.getD 12 undef = .slice (some ⟨g, 0, none⟩) (l.length + 1) c := hk 12 (by kernel_rfl)
        have e13 : tm.getD 13 undef = .int .i64 E := hk 13 (by kernel_rfl)
        have e14 : tm.getD 14 undef = t14 := hk 14 (by kernel_rfl)
        have e15 : tm.getD 15 undef = .int .i64 E := hk 15 (by kernel_rfl)
        have e16 : tm.getD 16 undef = undef := hk 16 (by kernel_rfl)
        have e17 : tm.getD 17 undef = undef := hk 17 (by kernel_rfl)
        have e18 : tm.getD 18 undef = undef := hk 18 (by kernel_rfl)
        have e19 : tm.getD 19 undef = undef := hk 19 (by kernel_rfl)
        have e20 : tm.getD 20 undef = undef := hk 20 (by kernel_rfl)
        have e21 : tm.getD 21 undef = undef := hk 21 (by kernel_rfl)
        have e22 : tm.getD 22 undef = undef := hk 22 (by kernel_rfl)
        have e23 : tm.getD 23 undef = undef := hk 23 (by kernel_rfl)
        have e24 : tm.getD 24 undef = .pointer (some ⟨w.heap.size, 0, none⟩) := hk 24 (by kernel_rfl)
        have e25 : tm.getD 25 undef = .int .i64 2 := hk 25 (by kernel_rfl)
        have e26 : tm.getD 26 undef = .bool false := hk 26 (by kernel_rfl)
        have e27 : tm.getD 27 undef = .bool false := hk 27 (by kernel_rfl)
        have e28 : tm.getD 28 undef = undef := hk 28 (by kernel_rfl)
        have e29 : tm.getD 29 undef = undef := hk 29 (by kernel_rfl)
        have e30 : tm.getD 30 undef = undef := hk 30 (by kernel_rfl)
        have e31 : tm.getD 31 undef = undef := hk 31 (by kernel_rfl)
        have e32 : tm.getD 32 undef = undef := hk 32 (by kernel_rfl)
        have e33 : tm.getD 33 undef = undef := hk 33 (by kernel_rfl)
        have e34 : tm.getD 34 undef = undef := hk 34 (by kernel_rfl)
        have e35 : tm.getD 35 undef = undef := hk 35 (by kernel_rfl)
        have e36 : tm.getD 36 undef = undef := hk 36 (by kernel_rfl)
        have e37 : tm.getD 37 undef = undef := hk 37 (by kernel_rfl)
        have e38 : tm.getD 38 undef = undef := hk 38 (by kernel_rfl)
        have e39 : tm.getD 39 undef = undef := hk 39 (by kernel_rfl)
        have e40 : tm.getD 40 undef = undef := hk 40 (by kernel_rfl)
        have e41 : tm.getD 41 undef = undef := hk 41 (by kernel_rfl)
        have e42 : tm.getD 42 undef = undef := hk 42 (by kernel_rfl)
        have e43 : tm.getD 43 undef = undef := hk 43 (by kernel_rfl)
        have e44 : tm.getD 44 undef = undef := hk 44 (by kernel_rfl)
        have e45 : tm.getD 45 undef = undef := hk 45 (by kernel_rfl)
        have e46 : tm.getD 46 undef = undef := hk 46 (by kernel_rfl)
        have e47 : tm.getD 47 undef = undef := hk 47 (by kernel_rfl)
        have e48 : tm.getD 48 undef = undef := hk 48 (by kernel_rfl)
        have e49 : tm.getD 49 undef = undef := hk 49 (by kernel_rfl)
        have e50 : tm.getD 50 undef = undef := hk 50 (by kernel_rfl)
        have e51 : tm.getD 51 undef = undef := hk 51 (by kernel_rfl)
        have e52 : tm.getD 52 undef = undef := hk 52 (by kernel_rfl)
        have e53 : tm.getD 53 undef = undef := hk 53 (by kernel_rfl)
        have e54 : tm.getD 54 undef = undef := hk 54 (by kernel_rfl)
        have e55 : tm.getD 55 undef = .bool true := hk 55 (by kernel_rfl)
        have e56 : tm.getD 56 undef = .bool true := hk 56 (by kernel_rfl)
        have e57 : tm.getD 57 undef = .slice (some ⟨w.heap.size + 1, 0, none⟩) 0 0 := hk 57 (by kernel_rfl)
        have e58 : tm.getD 58 undef = .pointer (some ⟨w.heap.size, 3, none⟩) := hk 58 (by kernel_rfl)
        have e59 : tm.getD 59 undef = .slice p l.length cap := hk 59 (by kernel_rfl)
        have e60 : tm.getD 60 undef = v2 := hk 60 (by kernel_rfl)
        have e61 : tm.getD 61 undef = .slice (some ⟨w2.heap.size, 0, none⟩) 1 1 := hk 61 (by kernel_rfl)
        have e62 : tm.getD 62 undef = .slice (some ⟨g, 0, none⟩) (l.length + 1) c := hk 62 (by kernel_rfl)
        have e63 : tm.getD 63 undef = .pointer (some ⟨Bb, 0, none⟩) := hk 63 (by kernel_rfl)
        have e64 : tm.getD 64 undef = .pointer (some ⟨w.heap.size, 1, none⟩) := hk 64 (by kernel_rfl)
        have e65 : tm.getD 65 undef = .int .i64 a := hk 65 (by kernel_rfl)
        have e66 : tm.getD 66 undef = .slice (some ⟨g, 0, none⟩) (l.length + 1) c := hk 66 (by kernel_rfl)
        have e67 : tm.getD 67 undef = .pointer (some ⟨w.heap.size, 3, none⟩) := hk 67 (by kernel_rfl)
        have e68 : tm.getD 68 undef = .slice p l.length cap := hk 68 (by kernel_rfl)
        have e69 : tm.getD 69 undef = .int .i64 l.length := hk 69 (by kernel_rfl)
        have e70 : tm.getD 70 undef = .slice (some ⟨g, 0, none⟩) l.length c := hk 70 (by kernel_rfl)
        have e71 : tm.getD 71 undef = .int .i64 E := hk 71 (by kernel_rfl)
        have e72 : tm.getD 72 undef = t72 := hk 72 (by kernel_rfl)
        have e73 : tm.getD 73 undef = t73 := hk 73 (by kernel_rfl)
        have e74 : tm.getD 74 undef = .pointer (some ⟨w.heap.size, 1, none⟩) := hk 74 (by kernel_rfl)
        have e75 : tm.getD 75 undef = .int .i64 a := hk 75 (by kernel_rfl)
        have e76 : tm.getD 76 undef = .pointer (some ⟨w.heap.size, 3, none⟩) := hk 76 (by kernel_rfl)
        have e77 : tm.getD 77 undef = .slice p l.length cap := hk 77 (by kernel_rfl)
        have e78 : tm.getD 78 undef = .string { data := (catL l).toArray } := hk 78 (by kernel_rfl)
        have e79 : tm.getD 79 undef = t79 := hk 79 (by kernel_rfl)
        have e80 : tm.getD 80 undef = t80 := hk 80 (by kernel_rfl)
        have e81 : tm.getD 81 undef = .int .i64 E := hk 81 (by kernel_rfl)
        have e95 : tm.getD 95 undef = undef := hk 95 (by kernel_rfl)
        have e96 : tm.getD 96 undef = undef := hk 96 (by kernel_rfl)
        have e97 : tm.getD 97 undef = undef := hk 97 (by kernel_rfl)
        have e98 : tm.getD 98 undef = undef := hk 98 (by kernel_rfl)
        have e99 : tm.getD 99 undef = undef := hk 99 (by kernel_rfl)
        have e100 : tm.getD 100 undef = undef := hk 100 (by kernel_rfl)
        have e101 : tm.getD 101 undef = undef := hk 101 (by kernel_rfl)
        have e102 : tm.getD 102 undef = undef := hk 102 (by kernel_rfl)
        have e103 : tm.getD 103 undef = undef := hk 103 (by kernel_rfl)
        have e104 : tm.getD 104 undef = undef := hk 104 (by kernel_rfl)
        have e105 : tm.getD 105 undef = undef := hk 105 (by kernel_rfl)
        have e106 : tm.getD 106 undef = undef := hk 106 (by kernel_rfl)
        have e107 : tm.getD 107 undef = undef := hk 107 (by kernel_rfl)
        have e108 : tm.getD 108 undef = undef := hk 108 (by kernel_rfl)
        have e109 : tm.getD 109 undef = undef := hk 109 (by kernel_rfl)
        have e110 : tm.getD 110 undef = undef := hk 110 (by kernel_rfl)
        have e111 : tm.getD 111 undef = undef := hk 111 (by kernel_rfl)
        have e112 : tm.getD 112 undef = undef := hk 112 (by kernel_rfl)
        have e113 : tm.getD 113 undef = undef := hk 113 (by kernel_rfl)
        have e114 : tm.getD 114 undef = undef := hk 114 (by kernel_rfl)
        have e115 : tm.getD 115 undef = undef := hk 115 (by kernel_rfl)
        have e116 : tm.getD 116 undef = undef := hk 116 (by kernel_rfl)
        have e117 : tm.getD 117 undef = undef := hk 117 (by kernel_rfl)
        have e118 : tm.getD 118 undef = undef := hk 118 (by kernel_rfl)
        have e119 : tm.getD 119 undef = undef := hk 119 (by kernel_rfl)
        have e120 : tm.getD 120 undef = undef := hk 120 (by kernel_rfl)
        have e121 : tm.getD 121 undef = undef := hk 121 (by kernel_rfl)
        have e122 : tm.getD 122 undef = undef := hk 122 (by kernel_rfl)
        have e123 : tm.getD 123 undef = undef := hk 123 (by kernel_rfl)
        have e124 : tm.getD 124 undef = undef := hk 124 (by kernel_rfl)
        have e125 : tm.getD 125 undef = undef := hk 125 (by kernel_rfl)
        have e126 : tm.getD 126 undef = undef := hk 126 (by kernel_rfl)
        have e127 : tm.getD 127 undef = undef := hk 127 (by kernel_rfl)
        have e128 : tm.getD 128 undef = undef := hk 128 (by kernel_rfl)
        have e129 : tm.getD 129 undef = undef := hk 129 (by kernel_rfl)
        have e130 : tm.getD 130 undef = undef := hk 130 (by kernel_rfl)
        have e131 : tm.getD 131 undef = undef := hk 131 (by kernel_rfl)
        have e132 : tm.getD 132 undef = undef := hk 132 (by kernel_rfl)
        have e133 : tm.getD 133 undef = undef := hk 133 (by kernel_rfl)
        have e134 : tm.getD 134 undef = undef := hk 134 (by kernel_rfl)
        have e135 : tm.getD 135 undef = undef := hk 135 (by kernel_rfl)
        have e136 : tm.getD 136 undef = undef := hk 136 (by kernel_rfl)
        have e137 : tm.getD 137 undef = undef := hk 137 (by kernel_rfl)
        have e138 : tm.getD 138 undef = undef := hk 138 (by kernel_rfl)
        have e139 : tm.getD 139 undef = undef := hk 139 (by kernel_rfl)
        have e140 : tm.getD 140 undef = undef := hk 140 (by kernel_rfl)
        have e141 : tm.getD 141 undef = undef := hk 141 (by kernel_rfl)
        have e142 : tm.getD 142 undef = undef := hk 142 (by kernel_rfl)
        have e143 : tm.getD 143 undef = undef := hk 143 (by kernel_rfl)
        have e144 : tm.getD 144 undef = undef := hk 144 (by kernel_rfl)
        have e145 : tm.getD 145 undef = undef := hk 145 (by kernel_rfl)
        have e146 : tm.getD 146 undef = undef := hk 146 (by kernel_rfl)
        have e147 : tm.getD 147 undef = undef := hk 147 (by kernel_rfl)
        have e148 : tm.getD 148 undef = undef := hk 148 (by kernel_rfl)
        have e149 : tm.getD 149 undef = undef := hk 149 (by kernel_rfl)
        have e150 : tm.getD 150 undef = undef := hk 150 (by kernel_rfl)
        have e151 : tm.getD 151 undef = undef := hk 151 (by kernel_rfl)
        have e152 : tm.getD 152 undef = undef := hk 152 (by kernel_rfl)
        have e153 : tm.getD 153 undef = undef := hk 153 (by kernel_rfl)
        have e154 : tm.getD 154 undef = undef := hk 154 (by kernel_rfl)
        have e155 : tm.getD 155 undef = undef := hk 155 (by kernel_rfl)
        have e156 : tm.getD 156 undef = undef := hk 156 (by kernel_rfl)
        have e157 : tm.getD 157 undef = undef := hk 157 (by kernel_rfl)
        have g82 : (tm.getD 82 undef) = t14 := hG 0 82 (by decide) rfl
        have g83 : (tm.getD 83 undef) = .int .i64 E := hG 1 83 (by decide) rfl
        have g84 : (tm.getD 84 undef) = .int .i64 E := hG 2 84 (by decide) rfl
        have g85 : (tm.getD 85 undef) = .bool true := hG 3 85 (by decide) rfl
        have g86 : (tm.getD 86 undef) = .bool true := hG 4 86 (by decide) rfl
        have g87 : (tm.getD 87 undef) = .slice (some ⟨g, 0, none⟩) (l.length + 1) c := hG 5 87 (by decide) rfl
        have g88 : (tm.getD 88 undef) = .pointer (some ⟨w.heap.size, 3, none⟩) := hG 6 88 (by decide) rfl
        have g89 : (tm.getD 89 undef) = .slice p l.length cap := hG 7 89 (by decide) rfl
        have g90 : (tm.getD 90 undef) = .int .i64 (l.length : Int) := hG 8 90 (by decide) rfl
        have g91 : (tm.getD 91 undef) = .pointer (some ⟨g, l.length, none⟩) := hG 9 91 (by decide) rfl
        have g92 : (tm.getD 92 undef) = .string ⟨#[115, 112, 97, 114, 101]⟩ := hG 10 92 (by decide) rfl
        have g93 : (tm.getD 93 undef) = .bool true := hG 11 93 (by decide) rfl
        have g94 : (tm.getD 94 undef) = .bool true := hG 12 94 (by decide) rfl
        have g6 : (tm.getD 6 undef) = t14 := hG 13 6 (by decide) rfl
        have g7 : (tm.getD 7 undef) = .bool true := hG 14 7 (by decide) rfl
        have htm := arr_of tm ((.pointer (some ⟨Bb, 0, none⟩) : Value) :: (t73 : Value) :: (.agg #[.int .i64 2, .int .i64 a, .int .i64 n, .slice p l.length cap, .int .u64 x] : Value) :: (undef : Value) :: (undef : Value) :: (.pointer (some ⟨w.heap.size, 0, none⟩) : Value) :: (tm.getD 6 undef : Value) :: (tm.getD 7 undef : Value) :: (undef : Value) :: (undef : Value) :: (undef : Value) :: (undef : Value) :: (.slice (some ⟨g, 0, none⟩) (l.length + 1) c : Value) :: (.int .i64 E : Value) :: (t14 : Value) :: (.int .i64 E : Value) :: (undef : Value) :: (undef : Value) :: (undef : Value) :: (undef : Value) :: (undef : Value) :: (undef : Value) :: (undef : Value) :: (undef : Value) :: (.pointer (some ⟨w.heap.size, 0, none⟩) : Value) :: (.int .i64 2 : Value) :: (.bool false : Value) :: (.bool false : Value) :: (undef : Value) :: (undef : Value) :: (undef : Value) :: (undef : Value) :: (undef : Value) :: (undef : Value) :: (undef : Value) :: (undef : Value) :: (undef : Value) :: (undef : Value) :: (undef : Value) :: (undef : Value) :: (undef : Value) :: (undef : Value) :: (undef : Value) :: (undef : Value) :: (undef : Value) :: (undef : Value) :: (undef : Value) :: (undef : Value) :: (undef : Value) :: (undef : Value) :: (undef : Value) :: (undef : Value) :: (undef : Value) :: (undef : Value) :: (undef : Value) :: (.bool true : Value) :: (.bool true : Value) :: (.slice (some ⟨w.heap.size + 1, 0, none⟩) 0 0 : Value) :: (.pointer (some ⟨w.heap.size, 3, none⟩) : Value) :: (.slice p l.length cap : Value) :: (v2 : Value) :: (.slice (some ⟨w2.heap.size, 0, none⟩) 1 1 : Value) :: (.slice (some ⟨g, 0, none⟩) (l.length + 1) c : Value) :: (.pointer (some ⟨Bb, 0, none⟩) : Value) :: (.pointer (some ⟨w.heap.size, 1, none⟩) : Value) :: (.int .i64 a : Value) :: (.slice (some ⟨g, 0, none⟩) (l.length + 1) c : Value) :: (.pointer (some ⟨w.heap.size, 3, none⟩) : Value) :: (.slice p l.length cap : Value) :: (.int .i64 l.length : Value) :: (.slice (some ⟨g, 0, none⟩) l.length c : Value) :: (.int .i64 E : Value) :: (t72 : Value) :: (t73 : Value) :: (.pointer (some ⟨w.heap.size, 1, none⟩) : Value) :: (.int .i64 a : Value) :: (.pointer (some ⟨w.heap.size, 3, none⟩) : Value) :: (.slice p l.length cap : Value) :: (.string { data := (catL l).toArray } : Value) :: (t79 : Value) :: (t80 : Value) :: (.int .i64 E : Value) :: (tm.getD 82 undef : Value) :: (tm.getD 83 undef : Value) :: (tm.getD 84 undef : Value) :: (tm.getD 85 undef : Value) :: (tm.getD 86 undef : Value) :: (tm.getD 87 undef : Value) :: (tm.getD 88 undef : Value) :: (tm.getD 89 undef : Value) :: (tm.getD 90 undef : Value) :: (tm.getD 91 undef : Value) :: (tm.getD 92 undef : Value) :: (tm.getD 93 undef : Value) :: (tm.getD 94 undef : Value) :: (undef : Value) :: (undef : Value) :: (undef : Value) :: (undef : Value) :: (undef : Value) :: (undef : Value) :: (undef : Value) :: (undef : Value) :: (undef : Value) :: (undef : Value) :: (undef : Value) :: (undef : Value) :: (undef : Value) :: (undef : Value) :: (undef : Value) :: (undef : Value) :: (undef : Value) :: (undef : Value) :: (undef : Value) :: (undef : Value) :: (undef : Value) :: (undef : Value) :: (undef : Value) :: (undef : Value) :: (undef : Value) :: (undef : Value) :: (undef : Value) :: (undef : Value) :: (undef : Value) :: (undef : Value) :: (undef : Value) :: (undef : Value) :: (undef : Value) :: (undef : Value) :: (undef : Value) :: (undef : Value) :: (undef : Value) :: (undef : Value) :: (undef : Value) :: (undef : Value) :: (undef : Value) :: (undef : Value) :: (undef : Value) :: (undef : Value) :: (undef : Value) :: (undef : Value) :: (undef : Value) :: (undef : Value) :: (undef : Value) :: (undef : Value) :: (undef : Value) :: (undef : Value) :: (undef : Value) :: (undef : Value) :: (undef : Value) :: (undef : Value) :: (undef : Value) :: (undef : Value) :: (undef : Value) :: (undef : Value) :: (undef : Value) :: (undef : Value) :: (undef : Value) :: []) hs (by show (tm.getD 0 undef :: tm.getD 1 undef :: tm.getD 2 undef :: tm.getD 3 undef :: tm.getD 4 undef :: tm.getD 5 undef :: tm.getD 6 undef :: tm.getD 7 undef :: tm.getD 8 undef :: tm.getD 9 undef :: tm.getD 10 undef :: tm.getD 11 undef :: tm.getD 12 undef :: tm.getD 13 undef :: tm.getD 14 undef :: tm.getD 15 undef :: tm.getD 16 undef :: tm.getD 17 undef :: tm.getD 18 undef :: tm.getD 19 undef :: tm.getD 20 undef :: tm.getD 21 undef :: tm.getD 22 undef :: tm.getD 23 undef :: tm.getD 24 undef :: tm.getD 25 undef :: tm.getD 26 undef :: tm.getD 27 undef :: tm.getD 28 undef :: tm.getD 29 undef :: tm.getD 30 undef :: tm.getD 31 undef :: tm.getD 32 undef :: tm.getD 33 undef :: tm.getD 34 undef :: tm.getD 35 undef :: tm.getD 36 undef :: tm.getD 37 undef :: tm.getD 38 undef :: tm.getD 39 undef :: tm.getD 40 undef :: tm.getD 41 undef :: tm.getD 42 undef :: tm.getD 43 undef :: tm.getD 44 undef :: tm.getD 45 undef :: tm.getD 46 undef :: tm.getD 47 undef :: tm.getD 48 undef :: tm.getD 49 undef :: tm.getD 50 undef :: tm.getD 51 undef :: tm.getD 52 undef :: tm.getD 53 undef :: tm.getD 54 undef :: tm.getD 55 undef :: tm.getD 56 undef :: tm.getD 57 undef :: tm.getD 58 undef :: tm.getD 59 undef :: tm.getD 60 undef :: tm.getD 61 undef :: tm.getD 62 undef :: tm.getD 63 undef :: tm.getD 64 undef :: tm.getD 65 undef :: tm.getD 66 undef :: tm.getD 67 undef :: tm.getD 68 undef :: tm.getD 69 undef :: tm.getD 70 undef :: tm.getD 71 undef :: tm.getD 72 undef :: tm.getD 73 undef :: tm.getD 74 undef :: tm.getD 75 undef :: tm.getD 76 undef :: tm.getD 77 undef :: tm.getD 78 undef :: tm.getD 79 undef :: tm.getD 80 undef :: tm.getD 81 undef :: tm.getD 82 undef :: tm.getD 83 undef :: tm.getD 84 undef :: tm.getD 85 undef :: tm.getD 86 undef :: tm.getD 87 undef :: tm.getD 88 undef :: tm.getD 89 undef :: tm.getD 90 undef :: tm.getD 91 undef :: tm.getD 92 undef :: tm.getD 93 undef :: tm.getD 94 undef :: tm.getD 95 undef :: tm.getD 96 undef :: tm.getD 97 undef :: tm.getD 98 undef :: tm.getD 99 undef :: tm.getD 100 undef :: tm.getD 101 undef :: tm.getD 102 undef :: tm.getD 103 undef :: tm.getD 104 undef :: tm.getD 105 undef :: tm.getD 106 undef :: tm.getD 107 undef :: tm.getD 108 undef :: tm.getD 109 undef :: tm.getD 110 undef :: tm.getD 111 undef :: tm.getD 112 undef :: tm.getD 113 undef :: tm.getD 114 undef :: tm.getD 115 undef :: tm.getD 116 undef :: tm.getD 117 undef :: tm.getD 118 undef :: tm.getD 119 undef :: tm.getD 120 undef :: tm.getD 121 undef :: tm.getD 122 undef :: tm.getD 123 undef :: tm.getD 124 undef :: tm.getD 125 undef :: tm.getD 126 undef :: tm.getD 127 undef :: tm.getD 128 undef :: tm.getD 129 undef :: tm.getD 130 undef :: tm.getD 131 undef :: tm.getD 132 undef :: tm.getD 133 undef :: tm.getD 134 undef :: tm.getD 135 undef :: tm.getD 136 undef :: tm.getD 137 undef :: tm.getD 138 undef :: tm.getD 139 undef :: tm.getD 140 undef :: tm.getD 141 undef :: tm.getD 142 undef :: tm.getD 143 undef :: tm.getD 144 undef :: tm.getD 145 undef :: tm.getD 146 undef :: tm.getD 147 undef :: tm.getD 148 undef :: tm.getD 149 undef :: tm.getD 150 undef :: tm.getD 151 undef :: tm.getD 152 undef :: tm.getD 153 undef :: tm.getD 154 undef :: tm.getD 155 undef :: tm.getD 156 undef :: tm.getD 157 undef :: []) = _; rw [e0, e1, e2, e3, e4, e5, e8, e9, e10, e11, e12, e13, e14, e15, e16, e17, e18, e19, e20, e21, e22, e23, e24, e25, e26, e27, e28, e29, e30, e31, e32, e33, e34, e35, e36, e37, e38, e39, e40, e41, e42, e43, e44, e45, e46, e47, e48, e49, e50, e51, e52, e53, e54, e55, e56, e57, e58, e59, e60, e61, e62, e63, e64, e65, e66, e67, e68, e69, e70, e71, e72, e73, e74, e75, e76, e77, e78, e79, e80, e81, e95, e96, e97, e98, e99, e100, e101, e102, e103, e104, e105, e106, e107, e108, e109, e110, e111, e112, e113, e114, e115, e116, e117, e118, e119, e120, e121, e122, e123, e124, e125, e126, e127, e128, e129, e130, e131, e132, e133, e134, e135, e136, e137, e138, e139, e140, e141, e142, e143, e144, e145, e146, e147, e148, e149, e150, e151, e152, e153, e154, e155, e156, e157]; try rfl)
        clear hs hk hG e0 e1 e2 e3 e4 e5 e8 e9 e10 e11 e12 e13 e14 e15 e16 e17 e18 e19 e20 e21 e22 e23 e24 e25 e26 e27 e28 e29 e30 e31 e32 e33 e34 e35 e36 e37 e38 e39 e40 e41 e42 e43 e44 e45 e46 e47 e48 e49 e50 e51 e52 e53 e54 e55 e56 e57 e58 e59 e60 e61 e62 e63 e64 e65 e66 e67 e68 e69 e70 e71 e72 e73 e74 e75 e76 e77 e78 e79 e80 e81 e95 e96 e97 e98 e99 e100 e101 e102 e103 e104 e105 e106 e107 e108 e109 e110 e111 e112 e113 e114 e115 e116 e117 e118 e119 e120 e121 e122 e123 e124 e125 e126 e127 e128 e129 e130 e131 e132 e133 e134 e135 e136 e137 e138 e139 e140 e141 e142 e143 e144 e145 e146 e147 e148 e149 e150 e151 e152 e153 e154 e155 e156 e157
        generalize tm.getD 82 undef = t82 at htm g82
        generalize tm.getD 83 undef = t83 at htm g83
        generalize tm.getD 84 undef = t84 at htm g84
        generalize tm.getD 85 undef = t85 at htm g85
        generalize tm.getD 86 undef = t86 at htm g86
        generalize tm.getD 87 undef = t87 at htm g87
        generalize tm.getD 88 undef = t88 at htm g88
        generalize tm.getD 89 undef = t89 at htm g89
        generalize tm.getD 90 undef = t90 at htm g90
        generalize tm.getD 91 undef = t91 at htm g91
        generalize tm.getD 92 undef = t92 at htm g92
        generalize tm.getD 93 undef = t93 at htm g93
        generalize tm.getD 94 undef = t94 at htm g94
        generalize tm.getD 6 undef = t6 at htm g6
        generalize tm.getD 7 undef = t7 at htm g7
        subst htm
        subst g82
        subst g83
        subst g84
        subst g85
        subst g86
        subst g87
        subst g88
        subst g89
        subst g90
        subst g91
        subst g92
        subst g93
        subst g94
        subst g6
        subst g7
        simp only [List.drop_succ_cons, List.drop_zero]
        have HB10 := Lib.hid hB
        clear hB
        go_wp2_with fail
        go_ret2
        have hB : Below w4.heap.size w4 X := HB9.out.trans (HB10.out.mono HB9.out.size)
        obtain ⟨ls', hA'⟩ := HA4.out
        exact ⟨_, d', rfl, ⟨⟨ls', hA'.below hB⟩, row_below HT14.out HB10.out, hd'⟩, HB4.out.trans (hB.mono (Nat.le_trans hb HB4.out.size)), HF4.out.trans (Fr.below hB).fz⟩
theorem eightS (x : Nat) : Value.string ⟨(eightR (x : Int) 8).toArray⟩ = .string ⟨(catL [⟨(eight (x : Int)).toArray⟩]).toArray⟩ := by
  simp [catL, eight, eightR, byteOf, byteR]
theorem setword_of (b0 Bb : Nat) (a : Int) (x : Nat) {W : World} {d d' : List UInt8} {ls : List (Nat × Bool)} {E : Int} (hA : BAt W b0 Bb d ls)
    (hW : ∀ W ls p cap, BAt W b0 Bb d ls → PsAt W p [⟨(eight (x : Int)).toArray⟩] → Calls Try.prog 13 #[.pointer (some ⟨Bb, 0, none⟩), .int .i64 a, .slice p ([⟨(eight (x : Int)).toArray⟩] : List ByteArray).length cap] W fun e w' => e = .returned (.int .i64 E) ∧ (∃ ls', BAt w' b0 Bb d' ls') ∧ Below b0 W w' ∧ Fr W w') :
    Calls Try.prog 25 #[.pointer (some ⟨Bb, 0, none⟩), .int .i64 a, .int .u64 (x : Int)] W fun e w' => ∃ v, e = .returned v ∧ v = .int .i64 E ∧ (∃ ls', BAt w' b0 Bb d' ls') ∧ Below b0 W w' ∧ Fr W w' := by
  have hbb : b0 ≤ W.heap.size := size_of_blk hA
  refine SetWord_gen (some ⟨Bb, 0, none⟩) a x W (fun v w' => v = .int .i64 E ∧ (∃ ls', BAt w' b0 Bb d' ls') ∧ Below b0 W w' ∧ Fr W w') (fun W' hb' => ?_)
  have hb2 : Below W.heap.size W (W'.alloc (.cells #[.string ⟨(eight (x : Int)).toArray⟩] 9)) := hb'.alloc hb'.size _
  refine (hW _ ls (some ⟨W'.heap.size, 0, none⟩) 1 (hA.below hb2) (ps_new W' [⟨(eight (x : Int)).toArray⟩])).mono fun e w' ⟨h1, h2, h3, h4⟩ => ⟨_, h1, rfl, h2, (hb2.mono hbb).trans h3, (Fr.below hb2).trans h4⟩
set_option maxRecDepth 100000 in
set_option maxHeartbeats 4000000 in
theorem step_setword (b0 Bb : Nat) (vb : Value) (d : List UInt8) (a n : Int) (x : Nat) (pv : Value) (w : World) (h : Both w b0 Bb vb d) (hb : b0 ≤ w.heap.size) (ha : a ≤ 9223372036854775807) (hx : x < 18446744073709551616) :
    Calls Try.prog 9 #[.pointer (some ⟨Bb, 0, none⟩), vb, .agg #[.int .i64 5, .int .i64 a, .int .i64 n, pv, .int .u64 (x : Int)]] w fun e w' => ∃ v' d', e = .returned (.tuple #[v', .bool true]) ∧ Both w' b0 Bb v' d' ∧ Below b0 w w' ∧ Fz w w' := by
  obtain ⟨⟨ls, hA⟩, hr, hd⟩ := h
  obtain ⟨E, d', hd', HWr, HRf⟩ := writes_both b0 Bb vb d a [⟨(eight (x : Int)).toArray⟩] hd (by rw [sumE]; decide) (by simp) ha
  obtain ⟨X0, hX⟩ : ∃ X, w.alloc (.cells #[.int .i64 5, .int .i64 a, .int .i64 n, pv, .int .u64 (x : Int)] 35) = X := ⟨_, rfl⟩
  have hbA : Below w.heap.size w X0 := by rw [← hX]; exact (Below.refl _ _).alloc (Nat.le_refl _) _
  have hO : X0.heap[w.heap.size]? = some (.cells #[.int .i64 5, .int .i64 a, .int .i64 n, pv, .int .u64 (x : Int)] 35 (0, 0)) := by rw [← hX]; exact heap_new _ _
  have c0 : X0.cell? ⟨w.heap.size, 0, none⟩ = some (.int .i64 5) := by simp [World.cell?, hO]
  have cX : ∀ W, Below X0.heap.size X0 W → W.cell? ⟨w.heap.size, 1, none⟩ = some (.int .i64 a) ∧ W.cell? ⟨w.heap.size, 4, none⟩ = some (.int .u64 (x : Int)) := fun W hW => by
    have h := (hW.block _ (Array.getElem?_eq_some_iff.1 hO).1).trans hO
    refine ⟨?_, ?_⟩ <;> simp [World.cell?, h]
  have HA := Lib.hid hA
  have HRow := Lib.hid hr
  have HBX := Lib.hid hbA
  have HWR := Lib.hid HWr
  have HRF := Lib.hid HRf
  clear hA hr hbA hO HWr HRf
  go_enter Try.func9, Try.ntmps9
  go_upto_region 19 with fail
  refine wp_region_monoT 6 12 (fun kq uq Xq => match kq with | 139 => uq = vb | 140 => uq = .pointer (some ⟨w.heap.size, 1, none⟩) | 141 => uq = .int .i64 a | 142 => uq = .pointer (some ⟨w.heap.size, 4, none⟩) | 143 => uq = .int .u64 (x : Int) | 144 => uq = .string ⟨(catL [⟨(eight (x : Int)).toArray⟩]).toArray⟩ | 145 => (fun u (X : World) => ∃ v', u = .tuple #[v', .int .i64 E] ∧ X.ownsRow 0 5 1 v' d'.length (u8s d')) (uq) Xq | 138 => (fun u (X : World) => ∃ v', u = .tuple #[v', .int .i64 E] ∧ X.ownsRow 0 5 1 v' d'.length (u8s d')) (uq) Xq | 146 => (fun u (X : World) => X.ownsRow 0 5 1 u d'.length (u8s d')) (uq) Xq | 147 => uq = .int .i64 E | 22 => (fun u (X : World) => X.ownsRow 0 5 1 u d'.length (u8s d')) (uq) Xq | 23 => uq = .int .i64 E | _ => True) (by kernel_rfl) (by kernel_rfl) (by kernel_rfl) (by kernel_rfl) (by simp) (by kernel_rfl) ?_ ?_ ?_
  · intro kq v W W' h hb
    revert h
    try dsimp only
    split
    · intro h; exact h
    · intro h; exact h
    · intro h; exact h
    · intro h; exact h
    · intro h; exact h
    · intro h; exact h
    · intro h; exact (by obtain ⟨v', h1, h2⟩ := h; exact ⟨v', h1, row_below h2 hb⟩)
    · intro h; exact (by obtain ⟨v', h1, h2⟩ := h; exact ⟨v', h1, row_below h2 hb⟩)
    · intro h; exact row_below h hb
    · intro h; exact h
    · intro h; exact row_below h hb
    · intro h; exact h
    · intro h; trivial
  · intro a' X hB hs hk i o d ho hd hG
    match i, ho with
    | 0, ho =>
      obtain rfl : _ = o := Option.some.inj ho
      obtain rfl : 139 = d := Option.some.inj hd
      have g1 : a'.eval (.tmp 1) = vb := hk 1 (by kernel_rfl)
      obtain ⟨ev, hev⟩ : ∃ ev, a'.eval = ev := ⟨_, rfl⟩
      rw [hev] at g1 ⊢
      clear hev hG hk
      obtain ⟨c1, c4⟩ := cX X hB
      exact .inr ⟨rfl, .inl ⟨vb, X, by clear hs; go_simp, Below.refl _ _, rfl⟩⟩
    | 1, ho =>
      obtain rfl : _ = o := Option.some.inj ho
      obtain rfl : 140 = d := Option.some.inj hd
      have g5 : a'.eval (.tmp 5) = .pointer (some ⟨w.heap.size, 0, none⟩) := hk 5 (by kernel_rfl)
      obtain ⟨ev, hev⟩ : ∃ ev, a'.eval = ev := ⟨_, rfl⟩
      rw [hev] at g5 ⊢
      clear hev hG hk
      obtain ⟨c1, c4⟩ := cX X hB
      exact .inr ⟨rfl, .inl ⟨.pointer (some ⟨w.heap.size, 1, none⟩), X, by clear hs; go_simp, Below.refl _ _, rfl⟩⟩
    | 2, ho =>
      obtain rfl : _ = o := Option.some.inj ho
      obtain rfl : 141 = d := Option.some.inj hd
      have g140 : a'.eval (.tmp 140) = .pointer (some ⟨w.heap.size, 1, none⟩) := hG ⟨1, .data⟩ (by simp) rfl 140 rfl
      obtain ⟨ev, hev⟩ : ∃ ev, a'.eval = ev := ⟨_, rfl⟩
      rw [hev] at g140 ⊢
      clear hev hG hk
      obtain ⟨c1, c4⟩ := cX X hB
      exact .inr ⟨rfl, .inl ⟨.int .i64 a, X, by clear hs; go_simp, Below.refl _ _, rfl⟩⟩
    | 3, ho =>
      obtain rfl : _ = o := Option.some.inj ho
      obtain rfl : 142 = d := Option.some.inj hd
      have g5 : a'.eval (.tmp 5) = .pointer (some ⟨w.heap.size, 0, none⟩) := hk 5 (by kernel_rfl)
      obtain ⟨ev, hev⟩ : ∃ ev, a'.eval = ev := ⟨_, rfl⟩
      rw [hev] at g5 ⊢
      clear hev hG hk
      obtain ⟨c1, c4⟩ := cX X hB
      exact .inr ⟨rfl, .inl ⟨.pointer (some ⟨w.heap.size, 4, none⟩), X, by clear hs; go_simp, Below.refl _ _, rfl⟩⟩
    | 4, ho =>
      obtain rfl : _ = o := Option.some.inj ho
      obtain rfl : 143 = d := Option.some.inj hd
      have g142 : a'.eval (.tmp 142) = .pointer (some ⟨w.heap.size, 4, none⟩) := hG ⟨3, .data⟩ (by simp) rfl 142 rfl
      obtain ⟨ev, hev⟩ : ∃ ev, a'.eval = ev := ⟨_, rfl⟩
      rw [hev] at g142 ⊢
      clear hev hG hk
      obtain ⟨c1, c4⟩ := cX X hB
      exact .inr ⟨rfl, .inl ⟨.int .u64 (x : Int), X, by clear hs; go_simp, Below.refl _ _, rfl⟩⟩
    | 5, ho =>
      obtain rfl : _ = o := Option.some.inj ho
      obtain rfl : 144 = d := Option.some.inj hd
      have g143 : a'.eval (.tmp 143) = .int .u64 (x : Int) := hG ⟨4, .data⟩ (by simp) rfl 143 rfl
      refine .inr ⟨rfl, .inr ⟨24, #[.int .u64 (x : Int)], ?_, ?_⟩⟩
      · have gF : a'.eval (.func 24) = .func (.func 24) #[] #[] := rfl
        obtain ⟨ev, hev⟩ : ∃ ev, a'.eval = ev := ⟨_, rfl⟩
        rw [hev] at gF g143 ⊢
        exact exec_call1 rfl gF g143 (enters_of Try.func24 (by kernel_rfl) rfl)
      exact (Eight_any (x : Int) X (by omega) (by omega)).mono fun e W' ⟨he, hb⟩ => ⟨_, he, hb, eightS x⟩
    | 6, ho =>
      obtain rfl : _ = o := Option.some.inj ho
      obtain rfl : 145 = d := Option.some.inj hd
      have g139 : a'.eval (.tmp 139) = vb := hG ⟨0, .data⟩ (by simp) rfl 139 rfl
      have g141 : a'.eval (.tmp 141) = .int .i64 a := hG ⟨2, .data⟩ (by simp) rfl 141 rfl
      have g144 : a'.eval (.tmp 144) = .string ⟨(catL [⟨(eight (x : Int)).toArray⟩]).toArray⟩ := hG ⟨5, .data⟩ (by simp) rfl 144 rfl
      refine .inr ⟨rfl, .inr ⟨19, #[vb, .int .i64 a, .string ⟨(catL [⟨(eight (x : Int)).toArray⟩]).toArray⟩], ?_, ?_⟩⟩
      · have gF : a'.eval (.func 19) = .func (.func 19) #[] #[] := rfl
        obtain ⟨ev, hev⟩ : ∃ ev, a'.eval = ev := ⟨_, rfl⟩
        rw [hev] at gF g139 g141 g144 ⊢
        exact exec_call3 rfl gF g139 g141 g144 (enters_of Try.func19 (by kernel_rfl) rfl)
      exact (HRF.out X (row_below HRow.out (HBX.out.trans (hB.mono HBX.out.size)))).mono fun e W' ⟨v', he, ho, hb⟩ => ⟨_, he, hb, v', rfl, ho⟩
    | 7, ho =>
      obtain rfl : _ = o := Option.some.inj ho
      obtain rfl : 138 = d := Option.some.inj hd
      have g145 : (fun u (X : World) => ∃ v', u = .tuple #[v', .int .i64 E] ∧ X.ownsRow 0 5 1 v' d'.length (u8s d')) (a'.eval (.tmp 145)) X := hG ⟨6, .data⟩ (by simp) rfl 145 rfl
      obtain ⟨ev, hev⟩ : ∃ ev, a'.eval = ev := ⟨_, rfl⟩
      rw [hev] at g145 ⊢
      clear hev hG hk
      obtain ⟨v', hv', ho⟩ := g145
      clear hs
      exact .inr ⟨rfl, .inl ⟨.tuple #[v', .int .i64 E], X, by go_simp, Below.refl _ _, v', rfl, ho⟩⟩
    | 8, ho =>
      obtain rfl : _ = o := Option.some.inj ho
      obtain rfl : 146 = d := Option.some.inj hd
      have g138 : (fun u (X : World) => ∃ v', u = .tuple #[v', .int .i64 E] ∧ X.ownsRow 0 5 1 v' d'.length (u8s d')) (a'.eval (.tmp 138)) X := hG ⟨7, .data⟩ (by simp) rfl 138 rfl
      obtain ⟨ev, hev⟩ : ∃ ev, a'.eval = ev := ⟨_, rfl⟩
      rw [hev] at g138 ⊢
      clear hev hG hk
      obtain ⟨v', hv', ho⟩ := g138
      clear hs
      exact .inr ⟨rfl, .inl ⟨v', X, by go_simp, Below.refl _ _, ho⟩⟩
    | 9, ho =>
      obtain rfl : _ = o := Option.some.inj ho
      obtain rfl : 147 = d := Option.some.inj hd
      have g138 : (fun u (X : World) => ∃ v', u = .tuple #[v', .int .i64 E] ∧ X.ownsRow 0 5 1 v' d'.length (u8s d')) (a'.eval (.tmp 138)) X := hG ⟨7, .data⟩ (by simp) rfl 138 rfl
      obtain ⟨ev, hev⟩ : ∃ ev, a'.eval = ev := ⟨_, rfl⟩
      rw [hev] at g138 ⊢
      clear hev hG hk
      obtain ⟨v', hv', ho⟩ := g138
      clear hs
      exact .inr ⟨rfl, .inl ⟨.int .i64 E, X, by go_simp, Below.refl _ _, rfl⟩⟩
    | 10, ho =>
      obtain rfl : _ = o := Option.some.inj ho
      obtain rfl : 22 = d := Option.some.inj hd
      have g146 : (fun u (X : World) => X.ownsRow 0 5 1 u d'.length (u8s d')) (a'.eval (.tmp 146)) X := hG ⟨8, .data⟩ (by simp) rfl 146 rfl
      obtain ⟨ev, hev⟩ : ∃ ev, a'.eval = ev := ⟨_, rfl⟩
      rw [hev] at g146 ⊢
      clear hev hG hk
      clear hs
      exact .inr ⟨rfl, .inl ⟨ev (.tmp 146), X, by go_simp, Below.refl _ _, g146⟩⟩
    | 11, ho =>
      obtain rfl : _ = o := Option.some.inj ho
      obtain rfl : 23 = d := Option.some.inj hd
      have g147 : a'.eval (.tmp 147) = .int .i64 E := hG ⟨9, .data⟩ (by simp) rfl 147 rfl
      obtain ⟨ev, hev⟩ : ∃ ev, a'.eval = ev := ⟨_, rfl⟩
      rw [hev] at g147 ⊢
      clear hev hG hk
      obtain ⟨c1, c4⟩ := cX X hB
      exact .inr ⟨rfl, .inl ⟨.int .i64 E, X, by clear hs; go_simp, Below.refl _ _, rfl⟩⟩
    | j + 12, ho => simp at ho
  · intro a' X hB hs hdf hk hG
    obtain ⟨tm, df⟩ := a'
    obtain rfl : df = [] := hdf
    have e0 : tm.getD 0 undef = .pointer (some ⟨Bb, 0, none⟩) := hk 0 (by kernel_rfl)
    have e1 : tm.getD 1 undef = vb := hk 1 (by kernel_rfl)
    have e2 : tm.getD 2 undef = .agg #[.int .i64 5, .int .i64 a, .int .i64 n, pv, .int .u64 x] := hk 2 (by kernel_rfl)
    have e3 : tm.getD 3 undef = undef := hk 3 (by kernel_rfl)
    have e4 : tm.getD 4 undef = undef := hk 4 (by kernel_rfl)
    have e5 : tm.getD 5 undef = .pointer (some ⟨w.heap.size, 0, none⟩) := hk 5 (by kernel_rfl)
    have e6 : tm.getD 6 undef = .slice none 0 0 := hk 6 (by kernel_rfl)
    have e7 : tm.getD 7 undef = .bool false := hk 7 (by kernel_rfl)
    have e8 : tm.getD 8 undef = undef := hk 8 (by kernel_rfl)
    have e9 : tm.getD 9 undef = undef := hk 9 (by kernel_rfl)
    have e10 : tm.getD 10 undef = undef := hk 10 (by kernel_rfl)
    have e11 : tm.getD 11 undef = undef := hk 11 (by kernel_rfl)
    have e12 : tm.getD 12 undef = undef := hk 12 (by kernel_rfl)
    have e13 : tm.getD 13 undef = undef := hk 13 (by kernel_rfl)
    have e14 : tm.getD 14 undef = undef := hk 14 (by kernel_rfl)
    have e15 : tm.getD 15 undef = undef := hk 15 (by kernel_rfl)
    have e16 : tm.getD 16 undef = undef := hk 16 (by kernel_rfl)
    have e17 : tm.getD 17 undef = undef := hk 17 (by kernel_rfl)
    have e18 : tm.getD 18 undef = undef := hk 18 (by kernel_rfl)
    have e19 : tm.getD 19 undef = undef := hk 19 (by kernel_rfl)
    have e20 : tm.getD 20 undef = undef := hk 20 (by kernel_rfl)
    have e21 : tm.getD 21 undef = undef := hk 21 (by kernel_rfl)
    have e24 : tm.getD 24 undef = .pointer (some ⟨w.heap.size, 0, none⟩) := hk 24 (by kernel_rfl)
    have e25 : tm.getD 25 undef = .int .i64 5 := hk 25 (by kernel_rfl)
    have e26 : tm.getD 26 undef = .bool false := hk 26 (by kernel_rfl)
    have e27 : tm.getD 27 undef = .bool false := hk 27 (by kernel_rfl)
    have e28 : tm.getD 28 undef = undef := hk 28 (by kernel_rfl)
    have e29 : tm.getD 29 undef = undef := hk 29 (by kernel_rfl)
    have e30 : tm.getD 30 undef = undef := hk 30 (by kernel_rfl)
    have e31 : tm.getD 31 undef = undef := hk 31 (by kernel_rfl)
    have e32 : tm.getD 32 undef = undef := hk 32 (by kernel_rfl)
    have e33 : tm.getD 33 undef = undef := hk 33 (by kernel_rfl)
    have e34 : tm.getD 34 undef = undef := hk 34 (by kernel_rfl)
    have e35 : tm.getD 35 undef = undef := hk 35 (by kernel_rfl)
    have e36 : tm.getD 36 undef = undef := hk 36 (by kernel_rfl)
    have e37 : tm.getD 37 undef = undef := hk 37 (by kernel_rfl)
    have e38 : tm.getD 38 undef = undef := hk 38 (by kernel_rfl)
    have e39 : tm.getD 39 undef = undef := hk 39 (by kernel_rfl)
    have e40 : tm.getD 40 undef = undef := hk 40 (by kernel_rfl)
    have e41 : tm.getD 41 undef = undef := hk 41 (by kernel_rfl)
    have e42 : tm.getD 42 undef = undef := hk 42 (by kernel_rfl)
    have e43 : tm.getD 43 undef = undef := hk 43 (by kernel_rfl)
    have e44 : tm.getD 44 undef = undef := hk 44 (by kernel_rfl)
    have e45 : tm.getD 45 undef = undef := hk 45 (by kernel_rfl)
    have e46 : tm.getD 46 undef = undef := hk 46 (by kernel_rfl)
    have e47 : tm.getD 47 undef = undef := hk 47 (by kernel_rfl)
    have e48 : tm.getD 48 undef = undef := hk 48 (by kernel_rfl)
    have e49 : tm.getD 49 undef = undef := hk 49 (by kernel_rfl)
    have e50 : tm.getD 50 undef = undef := hk 50 (by kernel_rfl)
    have e51 : tm.getD 51 undef = undef := hk 51 (by kernel_rfl)
    have e52 : tm.getD 52 undef = undef := hk 52 (by kernel_rfl)
    have e53 : tm.getD 53 undef = undef := hk 53 (by kernel_rfl)
    have e54 : tm.getD 54 undef = undef := hk 54 (by kernel_rfl)
    have e55 : tm.getD 55 undef = .bool false := hk 55 (by kernel_rfl)
    have e56 : tm.getD 56 undef = .bool false := hk 56 (by kernel_rfl)
    have e57 : tm.getD 57 undef = undef := hk 57 (by kernel_rfl)
    have e58 : tm.getD 58 undef = undef := hk 58 (by kernel_rfl)
    have e59 : tm.getD 59 undef = undef := hk 59 (by kernel_rfl)
    have e60 : tm.getD 60 undef = undef := hk 60 (by kernel_rfl)
    have e61 : tm.getD 61 undef = undef := hk 61 (by kernel_rfl)
    have e62 : tm.getD 62 undef = undef := hk 62 (by kernel_rfl)
    have e63 : tm.getD 63 undef = undef := hk 63 (by kernel_rfl)
    have e64 : tm.getD 64 undef = undef := hk 64 (by kernel_rfl)
    have e65 : tm.getD 65 undef = undef := hk 65 (by kernel_rfl)
    have e66 : tm.getD 66 undef = undef := hk 66 (by kernel_rfl)
    have e67 : tm.getD 67 undef = undef := hk 67 (by kernel_rfl)
    have e68 : tm.getD 68 undef = undef := hk 68 (by kernel_rfl)
    have e69 : tm.getD 69 undef = undef := hk 69 (by kernel_rfl)
    have e70 : tm.getD 70 undef = undef := hk 70 (by kernel_rfl)
    have e71 : tm.getD 71 undef = undef := hk 71 (by kernel_rfl)
    have e72 : tm.getD 72 undef = undef := hk 72 (by kernel_rfl)
    have e73 : tm.getD 73 undef = undef := hk 73 (by kernel_rfl)
    have e74 : tm.getD 74 undef = undef := hk 74 (by kernel_rfl)
    have e75 : tm.getD 75 undef = undef := hk 75 (by kernel_rfl)
    have e76 : tm.getD 76 undef = undef := hk 76 (by kernel_rfl)
    have e77 : tm.getD 77 undef = undef := hk 77 (by kernel_rfl)
    have e78 : tm.getD 78 undef = undef := hk 78 (by kernel_rfl)
    have e79 : tm.getD 79 undef = undef := hk 79 (by kernel_rfl)
    have e80 : tm.getD 80 undef = undef := hk 80 (by kernel_rfl)
    have e81 : tm.getD 81 undef = undef := hk 81 (by kernel_rfl)
    have e82 : tm.getD 82 undef = undef := hk 82 (by kernel_rfl)
    have e83 : tm.getD 83 undef = undef := hk 83 (by kernel_rfl)
    have e84 : tm.getD 84 undef = undef := hk 84 (by kernel_rfl)
    have e85 : tm.getD 85 undef = undef := hk 85 (by kernel_rfl)
    have e86 : tm.getD 86 undef = undef := hk 86 (by kernel_rfl)
    have e87 : tm.getD 87 undef = undef := hk 87 (by kernel_rfl)
    have e88 : tm.getD 88 undef = undef := hk 88 (by kernel_rfl)
    have e89 : tm.getD 89 undef = undef := hk 89 (by kernel_rfl)
    have e90 : tm.getD 90 undef = undef := hk 90 (by kernel_rfl)
    have e91 : tm.getD 91 undef = undef := hk 91 (by kernel_rfl)
    have e92 : tm.getD 92 undef = undef := hk 92 (by kernel_rfl)
    have e93 : tm.getD 93 undef = undef := hk 93 (by kernel_rfl)
    have e94 : tm.getD 94 undef = undef := hk 94 (by kernel_rfl)
    have e95 : tm.getD 95 undef = .bool false := hk 95 (by kernel_rfl)
    have e96 : tm.getD 96 undef = .bool false := hk 96 (by kernel_rfl)
    have e97 : tm.getD 97 undef = undef := hk 97 (by kernel_rfl)
    have e98 : tm.getD 98 undef = undef := hk 98 (by kernel_rfl)
    have e99 : tm.getD 99 undef = undef := hk 99 (by kernel_rfl)
    have e100 : tm.getD 100 undef = undef := hk 100 (by kernel_rfl)
    have e101 : tm.getD 101 undef = undef := hk 101 (by kernel_rfl)
    have e102 : tm.getD 102 undef = undef := hk 102 (by kernel_rfl)
    have e103 : tm.getD 103 undef = undef := hk 103 (by kernel_rfl)
    have e104 : tm.getD 104 undef = undef := hk 104 (by kernel_rfl)
    have e105 : tm.getD 105 undef = undef := hk 105 (by kernel_rfl)
    have e106 : tm.getD 106 undef = undef := hk 106 (by kernel_rfl)
    have e107 : tm.getD 107 undef = undef := hk 107 (by kernel_rfl)
    have e108 : tm.getD 108 undef = undef := hk 108 (by kernel_rfl)
    have e109 : tm.getD 109 undef = undef := hk 109 (by kernel_rfl)
    have e110 : tm.getD 110 undef = undef := hk 110 (by kernel_rfl)
    have e111 : tm.getD 111 undef = .bool false := hk 111 (by kernel_rfl)
    have e112 : tm.getD 112 undef = .bool false := hk 112 (by kernel_rfl)
    have e113 : tm.getD 113 undef = undef := hk 113 (by kernel_rfl)
    have e114 : tm.getD 114 undef = undef := hk 114 (by kernel_rfl)
    have e115 : tm.getD 115 undef = undef := hk 115 (by kernel_rfl)
    have e116 : tm.getD 116 undef = undef := hk 116 (by kernel_rfl)
    have e117 : tm.getD 117 undef = undef := hk 117 (by kernel_rfl)
    have e118 : tm.getD 118 undef = undef := hk 118 (by kernel_rfl)
    have e119 : tm.getD 119 undef = undef := hk 119 (by kernel_rfl)
    have e120 : tm.getD 120 undef = undef := hk 120 (by kernel_rfl)
    have e121 : tm.getD 121 undef = undef := hk 121 (by kernel_rfl)
    have e122 : tm.getD 122 undef = undef := hk 122 (by kernel_rfl)
    have e123 : tm.getD 123 undef = undef := hk 123 (by kernel_rfl)
    have e124 : tm.getD 124 undef = undef := hk 124 (by kernel_rfl)
    have e125 : tm.getD 125 undef = undef := hk 125 (by kernel_rfl)
    have e126 : tm.getD 126 undef = undef := hk 126 (by kernel_rfl)
    have e127 : tm.getD 127 undef = undef := hk 127 (by kernel_rfl)
    have e128 : tm.getD 128 undef = undef := hk 128 (by kernel_rfl)
    have e129 : tm.getD 129 undef = undef := hk 129 (by kernel_rfl)
    have e130 : tm.getD 130 undef = undef := hk 130 (by kernel_rfl)
    have e131 : tm.getD 131 undef = undef := hk 131 (by kernel_rfl)
    have e132 : tm.getD 132 undef = undef := hk 132 (by kernel_rfl)
    have e133 : tm.getD 133 undef = undef := hk 133 (by kernel_rfl)
    have e134 : tm.getD 134 undef = undef := hk 134 (by kernel_rfl)
    have e135 : tm.getD 135 undef = undef := hk 135 (by kernel_rfl)
    have e136 : tm.getD 136 undef = .bool true := hk 136 (by kernel_rfl)
    have e137 : tm.getD 137 undef = .bool true := hk 137 (by kernel_rfl)
    have e148 : tm.getD 148 undef = undef := hk 148 (by kernel_rfl)
    have e149 : tm.getD 149 undef = undef := hk 149 (by kernel_rfl)
    have e150 : tm.getD 150 undef = undef := hk 150 (by kernel_rfl)
    have e151 : tm.getD 151 undef = undef := hk 151 (by kernel_rfl)
    have e152 : tm.getD 152 undef = undef := hk 152 (by kernel_rfl)
    have e153 : tm.getD 153 undef = undef := hk 153 (by kernel_rfl)
    have e154 : tm.getD 154 undef = undef := hk 154 (by kernel_rfl)
    have e155 : tm.getD 155 undef = undef := hk 155 (by kernel_rfl)
    have e156 : tm.getD 156 undef = undef := hk 156 (by kernel_rfl)
    have e157 : tm.getD 157 undef = undef := hk 157 (by kernel_rfl)
    have g139 : (tm.getD 139 undef) = vb := hG 0 139 (by decide) rfl
    have g140 : (tm.getD 140 undef) = .pointer (some ⟨w.heap.size, 1, none⟩) := hG 1 140 (by decide) rfl
    have g141 : (tm.getD 141 undef) = .int .i64 a := hG 2 141 (by decide) rfl
    have g142 : (tm.getD 142 undef) = .pointer (some ⟨w.heap.size, 4, none⟩) := hG 3 142 (by decide) rfl
    have g143 : (tm.getD 143 undef) = .int .u64 (x : Int) := hG 4 143 (by decide) rfl
    have g144 : (tm.getD 144 undef) = .string ⟨(catL [⟨(eight (x : Int)).toArray⟩]).toArray⟩ := hG 5 144 (by decide) rfl
    have g145 : (fun u (X : World) => ∃ v', u = .tuple #[v', .int .i64 E] ∧ X.ownsRow 0 5 1 v' d'.length (u8s d')) ((tm.getD 145 undef)) X := hG 6 145 (by decide) rfl
    have g138 : (fun u (X : World) => ∃ v', u = .tuple #[v', .int .i64 E] ∧ X.ownsRow 0 5 1 v' d'.length (u8s d')) ((tm.getD 138 undef)) X := hG 7 138 (by decide) rfl
    have g146 : (fun u (X : World) => X.ownsRow 0 5 1 u d'.length (u8s d')) ((tm.getD 146 undef)) X := hG 8 146 (by decide) rfl
    have g147 : (tm.getD 147 undef) = .int .i64 E := hG 9 147 (by decide) rfl
    have g22 : (fun u (X : World) => X.ownsRow 0 5 1 u d'.length (u8s d')) ((tm.getD 22 undef)) X := hG 10 22 (by decide) rfl
    have g23 : (tm.getD 23 undef) = .int .i64 E := hG 11 23 (by decide) rfl
    have htm := arr_of tm ((.pointer (some ⟨Bb, 0, none⟩) : Value) :: (vb : Value) :: (.agg #[.int .i64 5, .int .i64 a, .int .i64 n, pv, .int .u64 x] : Value) :: (undef : Value) :: (undef : Value) :: (.pointer (some ⟨w.heap.size, 0, none⟩) : Value) :: (.slice none 0 0 : Value) :: (.bool false : Value) :: (undef : Value) :: (undef : Value) :: (undef : Value) :: (undef : Value) :: (undef : Value) :: (undef : Value) :: (undef : Value) :: (undef : Value) :: (undef : Value) :: (undef : Value) :: (undef : Value) :: (undef : Value) :: (undef : Value) :: (undef : Value) :: (tm.getD 22 undef : Value) :: (tm.getD 23 undef : Value) :: (.pointer (some ⟨w.heap.size, 0, none⟩) : Value) :: (.int .i64 5 : Value) :: (.bool false : Value) :: (.bool false : Value) :: (undef : Value) :: (undef : Value) :: (undef : Value) :: (undef : Value) :: (undef : Value) :: (undef : Value) :: (undef : Value) :: (undef : Value) :: (undef : Value) :: (undef : Value) :: (undef : Value) :: (undef : Value) :: (undef : Value) :: (undef : Value) :: (undef : Value) :: (undef : Value) :: (undef : Value) :: (undef : Value) :: (undef : Value) :: (undef : Value) :: (undef : Value) :: (undef : Value) :: (undef : Value) :: (undef : Value) :: (undef : Value) :: (undef : Value) :: (undef : Value) :: (.bool false : Value) :: (.bool false : Value) :: (undef : Value) :: (undef : Value) :: (undef : Value) :: (undef : Value) :: (undef : Value) :: (undef : Value) :: (undef : Value) :: (undef : Value) :: (undef : Value) :: (undef : Value) :: (undef : Value) :: (undef : Value) :: (undef : Value) :: (undef : Value) :: (undef : Value) :: (undef : Value) :: (undef : Value) :: (undef : Value) :: (undef : Value) :: (undef : Value) :: (undef : Value) :: (undef : Value) :: (undef : Value) :: (undef : Value) :: (undef : Value) :: (undef : Value) :: (undef : Value) :: (undef : Value) :: (undef : Value) :: (undef : Value) :: (undef : Value) :: (undef : Value) :: (undef : Value) :: (undef : Value) :: (undef : Value) :: (undef : Value) :: (undef : Value) :: (undef : Value) :: (.bool false : Value) :: (.bool false : Value) :: (undef : Value) :: (undef : Value) :: (undef : Value) :: (undef : Value) :: (undef : Value) :: (undef : Value) :: (undef : Value) :: (undef : Value) :: (undef : Value) :: (undef : Value) :: (undef : Value) :: (undef : Value) :: (undef : Value) :: (undef : Value) :: (.bool false : Value) :: (.bool false : Value) :: (undef : Value) :: (undef : Value) :: (undef : Value) :: (undef : Value) :: (undef : Value) :: (undef : Value) :: (undef : Value) :: (undef : Value) :: (undef : Value) :: (undef : Value) :: (undef : Value) :: (undef : Value) :: (undef : Value) :: (undef : Value) :: (undef : Value) :: (undef : Value) :: (undef : Value) :: (undef : Value) :: (undef : Value) :: (undef : Value) :: (undef : Value) :: (undef : Value) :: (undef : Value) :: (.bool true : Value) :: (.bool true : Value) :: (tm.getD 138 undef : Value) :: (tm.getD 139 undef : Value) :: (tm.getD 140 undef : Value) :: (tm.getD 141 undef : Value) :: (tm.getD 142 undef : Value) :: (tm.getD 143 undef : Value) :: (tm.getD 144 undef : Value) :: (tm.getD 145 undef : Value) :: (tm.getD 146 undef : Value) :: (tm.getD 147 undef : Value) :: (undef : Value) :: (undef : Value) :: (undef : Value) :: (undef : Value) :: (undef : Value) :: (undef : Value) :: (undef : Value) :: (undef : Value) :: (undef : Value) :: (undef : Value) :: []) hs (by show (tm.getD 0 undef :: tm.getD 1 undef :: tm.getD 2 undef :: tm.getD 3 undef :: tm.getD 4 undef :: tm.getD 5 undef :: tm.getD 6 undef :: tm.getD 7 undef :: tm.getD 8 undef :: tm.getD 9 undef :: tm.getD 10 undef :: tm.getD 11 undef :: tm.getD 12 undef :: tm.getD 13 undef :: tm.getD 14 undef :: tm.getD 15 undef :: tm.getD 16 undef :: tm.getD 17 undef :: tm.getD 18 undef :: tm.getD 19 undef :: tm.getD 20 undef :: tm.getD 21 undef :: tm.getD 22 undef :: tm.getD 23 undef :: tm.getD 24 undef :: tm.getD 25 undef :: tm.getD 26 undef :: tm.getD 27 undef :: tm.getD 28 undef :: tm.getD 29 undef :: tm.getD 30 undef :: tm.getD 31 undef :: tm.getD 32 undef :: tm.getD 33 undef :: tm.getD 34 undef :: tm.getD 35 undef :: tm.getD 36 undef :: tm.getD 37 undef :: tm.getD 38 undef :: tm.getD 39 undef :: tm.getD 40 undef :: tm.getD 41 undef :: tm.getD 42 undef :: tm.getD 43 undef :: tm.getD 44 undef :: tm.getD 45 undef :: tm.getD 46 undef :: tm.getD 47 undef :: tm.getD 48 undef :: tm.getD 49 undef :: tm.getD 50 undef :: tm.getD 51 undef :: tm.getD 52 undef :: tm.getD 53 undef :: tm.getD 54 undef :: tm.getD 55 undef :: tm.getD 56 undef :: tm.getD 57 undef :: tm.getD 58 undef :: tm.getD 59 undef :: tm.getD 60 undef :: tm.getD 61 undef :: tm.getD 62 undef :: tm.getD 63 undef :: tm.getD 64 undef :: tm.getD 65 undef :: tm.getD 66 undef :: tm.getD 67 undef :: tm.getD 68 undef :: tm.getD 69 undef :: tm.getD 70 undef :: tm.getD 71 undef :: tm.getD 72 undef :: tm.getD 73 undef :: tm.getD 74 undef :: tm.getD 75 undef :: tm.getD 76 undef :: tm.getD 77 undef :: tm.getD 78 undef :: tm.getD 79 undef :: tm.getD 80 undef :: tm.getD 81 undef :: tm.getD 82 undef :: tm.getD 83 undef :: tm.getD 84 undef :: tm.getD 85 undef :: tm.getD 86 undef :: tm.getD 87 undef :: tm.getD 88 undef :: tm.getD 89 undef :: tm.getD 90 undef :: tm.getD 91 undef :: tm.getD 92 undef :: tm.getD 93 undef :: tm.getD 94 undef :: tm.getD 95 undef :: tm.getD 96 undef :: tm.getD 97 undef :: tm.getD 98 undef :: tm.getD 99 undef :: tm.getD 100 undef :: tm.getD 101 undef :: tm.getD 102 undef :: tm.getD 103 undef :: tm.getD 104 undef :: tm.getD 105 undef :: tm.getD 106 undef :: tm.getD 107 undef :: tm.getD 108 undef :: tm.getD 109 undef :: tm.getD 110 undef :: tm.getD 111 undef :: tm.getD 112 undef :: tm.getD 113 undef :: tm.getD 114 undef :: tm.getD 115 undef :: tm.getD 116 undef :: tm.getD 117 undef :: tm.getD 118 undef :: tm.getD 119 undef :: tm.getD 120 undef :: tm.getD 121 undef :: tm.getD 122 undef :: tm.getD 123 undef :: tm.getD 124 undef :: tm.getD 125 undef :: tm.getD 126 undef :: tm.getD 127 undef :: tm.getD 128 undef :: tm.getD 129 undef :: tm.getD 130 undef :: tm.getD 131 undef :: tm.getD 132 undef :: tm.getD 133 undef :: tm.getD 134 undef :: tm.getD 135 undef :: tm.getD 136 undef :: tm.getD 137 undef :: tm.getD 138 undef :: tm.getD 139 undef :: tm.getD 140 undef :: tm.getD 141 undef :: tm.getD 142 undef :: tm.getD 143 undef :: tm.getD 144 undef :: tm.getD 145 undef :: tm.getD 146 undef :: tm.getD 147 undef :: tm.getD 148 undef :: tm.getD 149 undef :: tm.getD 150 undef :: tm.getD 151 undef :: tm.getD 152 undef :: tm.getD 153 undef :: tm.getD 154 undef :: tm.getD 155 undef :: tm.getD 156 undef :: tm.getD 157 undef :: []) = _; rw [e0, e1, e2, e3, e4, e5, e6, e7, e8, e9, e10, e11, e12, e13, e14, e15, e16, e17, e18, e19, e20, e21, e24, e25, e26, e27, e28, e29, e30, e31, e32, e33, e34, e35, e36, e37, e38, e39, e40, e41, e42, e43, e44, e45, e46, e47, e48, e49, e50, e51, e52, e53, e54, e55, e56, e57, e58, e59, e60, e61, e62, e63, e64, e65, e66, e67, e68, e69, e70, e71, e72, e73, e74, e75, e76, e77, e78, e79, e80, e81, e82, e83, e84, e85, e86, e87, e88, e89, e90, e91, e92, e93, e94, e95, e96, e97, e98, e99, e100, e101, e102, e103, e104, e105, e106, e107, e108, e109, e110, e111, e112, e113, e114, e115, e116, e117, e118, e119, e120, e121, e122, e123, e124, e125, e126, e127, e128, e129, e130, e131, e132, e133, e134, e135, e136, e137, e148, e149, e150, e151, e152, e153, e154, e155, e156, e157]; try rfl)
    clear hs hk hG e0 e1 e2 e3 e4 e5 e6 e7 e8 e9 e10 e11 e12 e13 e14 e15 e16 e17 e18 e19 e20 e21 e24 e25 e26 e27 e28 e29 e30 e31 e32 e33 e34 e35 e36 e37 e38 e39 e40 e41 e42 e43 e44 e45 e46 e47 e48 e49 e50 e51 e52 e53 e54 e55 e56 e57 e58 e59 e60 e61 e62 e63 e64 e65 e66 e67 e68 e69 e70 e71 e72 e73 e74 e75 e76 e77 e78 e79 e80 e81 e82 e83 e84 e85 e86 e87 e88 e89 e90 e91 e92 e93 e94 e95 e96 e97 e98 e99 e100 e101 e102 e103 e104 e105 e106 e107 e108 e109 e110 e111 e112 e113 e114 e115 e116 e117 e118 e119 e120 e121 e122 e123 e124 e125 e126 e127 e128 e129 e130 e131 e132 e133 e134 e135 e136 e137 e148 e149 e150 e151 e152 e153 e154 e155 e156 e157
    generalize tm.getD 139 undef = t139 at htm g139
    generalize tm.getD 140 undef = t140 at htm g140
    generalize tm.getD 141 undef = t141 at htm g141
    generalize tm.getD 142 undef = t142 at htm g142
    generalize tm.getD 143 undef = t143 at htm g143
    generalize tm.getD 144 undef = t144 at htm g144
    generalize tm.getD 145 undef = t145 at htm g145
    generalize tm.getD 138 undef = t138 at htm g138
    generalize tm.getD 146 undef = t146 at htm g146
    generalize tm.getD 147 undef = t147 at htm g147
    generalize tm.getD 22 undef = t22 at htm g22
    generalize tm.getD 23 undef = t23 at htm g23
    subst htm
    subst g139
    subst g140
    subst g141
    subst g142
    subst g143
    subst g144
    subst g147
    subst g23
    simp only [List.drop_succ_cons, List.drop_zero]
    have hbW : Below w.heap.size w X := HBX.out.trans (hB.mono HBX.out.size)
    obtain ⟨c1, c4⟩ := cX X hB
    have HSW := Lib.hid (setword_of b0 Bb a x (HA.out.below hbW) HWR.out)
    have HT22 := Lib.hid g22
    have HBW := Lib.hid hbW
    clear hB g145 g138 g146 g22 hbW
    go_wp2_with (go_at_call 25; refine HSW.out.mono ?_; rintro e w5 ⟨v5, rfl, rfl, hA5, hb5, hf5⟩)
    go_ret2
    exact ⟨_, d', rfl, ⟨hA5, row_fz HT22.out hf5.fz, hd'⟩, (HBW.out.mono hb).trans hb5, (Fr.below HBW.out).fz.trans hf5.fz⟩
/-- A step of both. -/
theorem step_any (b0 Bb : Nat) (v : Value) (d : List UInt8) (k a n : Int) (x : Nat) (p : Option Addr) (cap : Nat) (l : List ByteArray) (w : World) (h : Both w b0 Bb v d) (hb : b0 ≤ w.heap.size) (hp : CsAt w p l) (hpb : l ≠ [] → ∀ ad, p = some ad → ad.block < b0) (hnil : l = [] → p = none → cap = 0) (hs : sumL l < 1099511627776) (hl : l.length < 1099511627776) (ha : a ≤ 9223372036854775807) (hx : x < 18446744073709551616) :
    Calls Try.prog 9 #[.pointer (some ⟨Bb, 0, none⟩), v, .agg #[.int .i64 k, .int .i64 a, .int .i64 n, .slice p l.length cap, .int .u64 (x : Int)]] w fun e w' => ∃ v' d', e = .returned (.tuple #[v', .bool true]) ∧ Both w' b0 Bb v' d' ∧ Below b0 w w' ∧ Fz w w' := by
  by_cases k1 : k = 1
  · subst k1; exact step_read b0 Bb v d a n x _ w h hb ha
  by_cases k2 : k = 2
  · subst k2; exact step_write b0 Bb v d a n x p cap l w h hb hp hpb hnil hs hl ha
  by_cases k3 : k = 3
  · subst k3; exact step_resize b0 Bb v d a n x _ w h hb
  by_cases k4 : k = 4
  · subst k4; exact step_word b0 Bb v d a n x _ w h hb ha
  by_cases k5 : k = 5
  · subst k5; exact step_setword b0 Bb v d a n x _ w h hb ha hx
  exact step_none b0 Bb v d k a n x _ w h hb k1 k2 k3 k4 k5
end Go.Proofs.Ytpedinpjdepjdaa
