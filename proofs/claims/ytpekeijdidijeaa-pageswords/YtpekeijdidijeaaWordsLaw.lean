/- PagesWords answers true. -/
import Derived.Test.YtpekeijdidijeaaUnlikeA
import Derived.Test.YtpekeijdidijeaaWritesLaw
namespace Go.Proofs.Ytpekeijdidijeaa
open Go.RowKit Go.Lib
theorem SetWord_any (base Bb : Nat) (d : List UInt8) (ls : List (Nat × Bool)) (a : Int) (x : Nat) (w : World) (h : BAt w base Bb d ls) (ha : a ≤ 9223372036854775807) :
    Calls Try.prog 21 #[.pointer (some ⟨Bb, 0, none⟩), .int .i64 a, .int .u64 x] w fun e w' =>
      if fitsB d.length a 8 = true then e = .returned (.int .i64 0) ∧ (∃ ls', BAt w' base Bb (over d a.toNat (eight x)) ls') ∧ Below base w w' else e = .returned (.int .i64 9) ∧ Below w.heap.size w w' := by
  have hbs := size_of_blk h
  refine (SetWord_gen (some ⟨Bb, 0, none⟩) a x w (fun v w' => if fitsB d.length a 8 = true then v = .int .i64 0 ∧ (∃ ls', BAt w' base Bb (over d a.toNat (eight x)) ls') ∧ Below base w w' else v = .int .i64 9 ∧ Below w.heap.size w w') (fun W' hb => ?_)).mono ?_
  · have hb1 : Below w.heap.size w (W'.alloc (.cells #[.string ⟨(eight x).toArray⟩] 9)) := hb.alloc hb.size _
    have := Write_any base Bb d ls _ 1 a [⟨(eight x).toArray⟩] _ (h.below hb1) (ps_new W' [⟨(eight x).toArray⟩]) (by rw [sumE]; decide) (by simp) ha
    refine this.mono ?_
    intro e w' h2
    rw [sumE, show (((8 : Nat) : Int)) = 8 from rfl] at h2
    by_cases hf : fitsB d.length a 8 = true
    · rw [if_pos hf] at h2
      obtain ⟨rfl, ⟨l, hl⟩, hB, _⟩ := h2
      refine ⟨_, rfl, ?_⟩
      rw [if_pos hf]
      refine ⟨rfl, ⟨l, ?_⟩, (hb1.mono hbs).trans hB⟩
      simpa [catL] using hl
    · rw [if_neg hf] at h2
      obtain ⟨rfl, rfl⟩ := h2
      refine ⟨_, rfl, ?_⟩
      rw [if_neg hf]
      exact ⟨rfl, hb1⟩
  · rintro e w' ⟨v, rfl, h2⟩
    by_cases hf : fitsB d.length a 8 = true
    · rw [if_pos hf] at h2 ⊢
      exact ⟨by rw [h2.1], h2.2⟩
    · rw [if_neg hf] at h2 ⊢
      exact ⟨by rw [h2.1], h2.2⟩
theorem SetWord_yes (base Bb : Nat) (d : List UInt8) (ls : List (Nat × Bool)) (a : Int) (x : Nat) (w : World) (h : BAt w base Bb d ls) (ha : a ≤ 9223372036854775807) (hf : fitsB d.length a 8 = true) :
    Calls Try.prog 21 #[.pointer (some ⟨Bb, 0, none⟩), .int .i64 a, .int .u64 x] w fun e w' => e = .returned (.int .i64 0) ∧ (∃ ls', BAt w' base Bb (over d a.toNat (eight x)) ls') ∧ Below base w w' :=
  (SetWord_any base Bb d ls a x w h ha).mono fun e w' h => by rwa [if_pos hf] at h
theorem SetWord_no (base Bb : Nat) (d : List UInt8) (ls : List (Nat × Bool)) (a : Int) (x : Nat) (w : World) (h : BAt w base Bb d ls) (ha : a ≤ 9223372036854775807) (hf : fitsB d.length a 8 = false) :
    Calls Try.prog 21 #[.pointer (some ⟨Bb, 0, none⟩), .int .i64 a, .int .u64 x] w fun e w' => e = .returned (.int .i64 9) ∧ Below w.heap.size w w' :=
  (SetWord_any base Bb d ls a x w h ha).mono fun e w' h => by rwa [if_neg (by rw [hf]; exact Bool.false_ne_true)] at h
theorem over_read (d : List UInt8) (a : Nat) (s : List UInt8) (h : a + s.length ≤ d.length) : ((over d a s).drop a).take s.length = s := by
  refine ext_getD (by simp [over_len]; omega) (fun j hj => ?_)
  have hj' : j < s.length := by simp [over_len] at hj; omega
  rw [getD_take _ _ _ hj', getD_drop, over_get _ _ _ _ (by omega), if_pos ⟨by omega, by omega⟩]
  congr 1; omega
theorem over_again (d : List UInt8) (a : Nat) (s t : List UInt8) (h : s.length = t.length) : over (over d a s) a t = over d a t := by
  refine ext_getD (by simp [over_len]) (fun j hj => ?_)
  rw [over_len, over_len] at hj
  rw [over_get _ _ _ _ (by rw [over_len]; exact hj), over_get _ _ _ _ hj, over_get _ _ _ _ hj, h]
  split <;> rfl
theorem pad_get (d : List UInt8) (j : Nat) : (pad d (j / 64)).getD (j % 64) 0 = d.getD j 0 := by
  unfold pad
  rw [List.getD_eq_getElem?_getD, List.getElem?_map, List.getElem?_range (by omega)]
  show d.getD _ 0 = _
  congr 1; omega
theorem unls_nil (d e : List UInt8) (N : Nat) (hl : d.length = e.length) (hN : d.length ≤ 64 * N) : (unls d e N).length = 0 ↔ d = e := by
  rw [List.length_eq_zero_iff]
  unfold unls
  rw [List.filter_eq_nil_iff]
  constructor
  · intro h
    refine ext_getD hl (fun j hj => ?_)
    have hp := h (j / 64) (List.mem_range.2 (by omega))
    unfold unl at hp
    simp [hl] at hp
    rw [← pad_get d j, ← pad_get e j, hp]
  · rintro rfl i _
    unfold unl
    simp
theorem eight_get (x : Int) (j : Nat) (hj : j < 8) : (eight x).getD j 0 = byteOf x j := by
  unfold eight
  rw [List.getD_eq_getElem?_getD, List.getElem?_map, List.getElem?_range hj]; rfl
theorem over_inj (d : List UInt8) (a x y : Nat) (ha : a + 8 ≤ d.length) (hx : x < 18446744073709551616) (hy : y < 18446744073709551616) (h : over d a (eight x) = over d a (eight y)) : x = y := by
  have h1 := over_read d a (eight x) (by rw [eight_len]; omega)
  have h2 := over_read d a (eight y) (by rw [eight_len]; omega)
  rw [eight_len] at h1 h2
  rw [h, h2] at h1
  rw [← numL_eight x hx, ← numL_eight y hy, h1]
set_option maxRecDepth 100000 in
set_option maxHeartbeats 1000000 in
theorem PagesWords_any (n a : Int) (x y : Nat) (w : World) (ha : -9223372036854775808 ≤ a ∧ a ≤ 9223372036854775807) (hx : x < 18446744073709551616) (hy : y < 18446744073709551616) :
    Calls Try.prog 7 #[.int .i64 n, .int .i64 a, .int .u64 x, .int .u64 y] w fun e w' => e = .returned (.bool true) ∧ Below w.heap.size w w' := by
  have HL := Lib.hid (lives_any w)
  obtain ⟨m, hm, hmv⟩ := mod_num n 200 (by omega) (by omega)
  have hmv' : wrap64 ((IntKind.u64.wrap n).tmod 200) = (m : Int) := hmv
  clear hmv
  have HN := Lib.hid (fun w0 => New_any m w0 (by omega))
  go_enter Try.func7, Try.ntmps7
  go_wp2_with (first | (go_at_call 9; refine HL.out.mono ?_; rintro e w0 ⟨rfl, hB0⟩) | (go_at_call 10; refine (HN.out _).mono ?_; rintro e w1 ⟨rfl, ⟨ls1, hA1⟩, hB1⟩; refine Hid.out ?_))
  refine Lib.hid ?_
  clear hmv'
  have hl0 : (List.replicate m (0 : UInt8)).length = m := by simp
  generalize List.replicate m (0 : UInt8) = d0 at hA1 hl0
  have hs0 := hB0.size
  have hs1 := hB1.size
  have q1 : Below w.heap.size w w1 := hB0.trans (hB1.mono hs0)
  by_cases hf : fitsB m a 8 = true
  · have HS1 := Lib.hid (SetWord_yes w0.heap.size w0.heap.size d0 ls1 a x w1 hA1 ha.2 (by rw [hl0]; exact hf))
    have hf' : 0 ≤ a ∧ (0 : Int) ≤ 8 ∧ (8 : Int) ≤ m - a := by simpa [fitsB] using hf
    obtain ⟨an, rfl⟩ : ∃ an : Nat, a = an := ⟨a.toNat, by omega⟩
    clear hf
    go_wp2_with (first | (go_at_call 21; refine HS1.out.mono ?_; rintro e w2 ⟨rfl, ⟨ls2, hA2⟩, hB2⟩; refine Hid.out ?_))
    refine Lib.hid ?_
    rw [Int.toNat_natCast] at hA2
    have hrd : ((over d0 an (eight x)).drop an).take 8 = eight x := by have := over_read d0 an (eight x) (by rw [eight_len]; omega); rwa [eight_len] at this
    obtain ⟨d1, hd1⟩ : ∃ d1, over d0 an (eight x) = d1 := ⟨_, rfl⟩
    rw [hd1] at hA2 hrd
    have hl1 : d1.length = m := by rw [← hd1, over_len]; exact hl0
    have HWd := Lib.hid (fun W (hb : RowKit.Below w2.heap.size w2 W) => Word_any w0.heap.size w0.heap.size an d1 ls2 W (hA2.below hb) (by omega))
    rw [hrd, numL_eight x hx] at HWd
    have HRd := Lib.hid (fun W (hb : RowKit.Below w2.heap.size w2 W) => Read_any w0.heap.size w0.heap.size an 8 d1 ls2 W (hA2.below hb) (by omega))
    rw [hrd] at HRd
    have HA2 := Lib.hid hA2
    have HB2 := Lib.hid hB2
    have hai : ¬ (an : Int) < 0 := by omega
    have hai2 : ¬ (m : Int) < (an : Int) := by omega
    have hai3 : ¬ (m : Int) - (an : Int) < 8 := by omega
    have HW1 := Lib.hid (HWd.out w2 (Below.refl _ _))
    clear hA2 hB2
    go_wp2_with (first
      | (go_at_call 22; refine HW1.out.mono ?_; rintro e w3 ⟨rfl, hB3⟩; have HR3 := Lib.hid (HRd.out w3 hB3))
      | (go_at_call 18; refine HR3.out.mono ?_; rintro e w4 ⟨rfl, hB4⟩; refine Hid.out ?_))
    refine Lib.hid ?_
    have hb4 : RowKit.Below w2.heap.size w2 w4 := hB3.trans (hB4.mono hB3.size)
    obtain ⟨S, hS⟩ : ∃ S : ByteArray, (⟨(eight x).toArray⟩ : ByteArray) = S := ⟨_, rfl⟩
    have hS8 : S.size = 8 := by rw [← hS]; show (eight x).toArray.size = 8; simpa using eight_len x
    rw [hS]
    go_wp2_with fail
    have HS := Lib.hid hS
    clear hS
    go_loopw [15] (fun i wr => ∃ k : Nat, i = .int .i64 k ∧ k ≤ 8 ∧ RowKit.Below w2.heap.size w2 wr) (fun i _ => (8 - RowKit.intOf i).toNat)
    case atStart => exact ⟨0, rfl, by omega, hb4⟩
    case round =>
      obtain ⟨k, rfl, hk, hbr⟩ := hrel
      by_cases hlt : k < 8
      · have hki : (k : Int) < 8 := by omega
        have hkS : k < S.size := by omega
        have hne : (((S[k].toNat : Nat) : Int) != (x : Int) / 2 ^ (8 * k) % 256) = false := by
          rw [← byteOf_nat]
          have h1 := HS.out
          subst h1
          have h2 : (⟨(eight x).toArray⟩ : ByteArray)[k] = byteOf x k := by
            have h3 := eight_get x k hlt
            rw [List.getD_eq_getElem?_getD, List.getElem?_eq_getElem (by rw [eight_len]; omega)] at h3
            exact h3
          rw [h2]; simp
        go_wp2
        exact ⟨⟨k + 1, by go_num, by omega, hbr⟩, by simp [RowKit.intOf]; omega⟩
      · obtain rfl : k = 8 := by omega
        have hCA := HA2.out.below hbr
        have HC := Lib.hid (Copy_any w0.heap.size w0.heap.size d1 ls2 wr hCA)
        go_wp2_with (first | (go_at_call 12; refine HC.out.mono ?_; rintro e w5 ⟨C, v5, rfl, hBo, hz5, hBv, hB5, hCo⟩; refine Hid.out ?_))
        refine Lib.hid ?_
        have HS2 := Lib.hid (SetWord_yes wr.heap.size C d1 (offL ls2) (an : Int) y w5 hCo (by omega) (by simp [fitsB]; omega))
        go_wp2_with (first | (go_at_call 21; refine HS2.out.mono ?_; rintro e w6 ⟨rfl, ⟨ls6, hC6⟩, hB6⟩; refine Hid.out ?_))
        refine Lib.hid ?_
        rw [Int.toNat_natCast, ← hd1, over_again _ _ _ _ (by rw [eight_len, eight_len])] at hC6
        have hv6 : RowKit.Below v5.heap.size v5 w6 := by rw [hz5]; exact hB5.trans hB6
        have HW3 := Lib.hid (Word_any w0.heap.size w0.heap.size an d1 (offL ls2) w6 (hBo.below hv6) (by omega))
        rw [hrd, numL_eight x hx] at HW3
        have HU := Lib.hid (fun W (hb : RowKit.Below w6.heap.size w6 W) => Unlike_any w0.heap.size w0.heap.size wr.heap.size C d1 (over d0 an (eight y)) (offL ls2) ls6 W ((hBo.below hv6).below hb) (hC6.below hb) _ rfl)
        have hun := unls_nil d1 (over d0 an (eight y)) (max ((d1.length + 63) / 64) (((over d0 an (eight y)).length + 63) / 64)) (by rw [hl1, over_len, hl0]) (by omega)
        generalize unls d1 (over d0 an (eight y)) (max ((d1.length + 63) / 64) (((over d0 an (eight y)).length + 63) / 64)) = U at HU hun
        have hxy : d1 = over d0 an (eight y) ↔ x = y := ⟨fun h => over_inj d0 an x y (by omega) hx hy (hd1.trans h), fun h => by rw [← hd1, h]⟩
        rw [hxy] at hun
        have q2 : RowKit.Below w.heap.size w w2 := q1.trans (HB2.out.mono hs0)
        have qr : RowKit.Below w.heap.size w wr := q2.trans (hbr.mono q2.size)
        have qv : RowKit.Below w.heap.size w v5 := qr.trans (hBv.mono hs0)
        have q6 : RowKit.Below w.heap.size w w6 := qv.trans (hv6.mono qv.size)
        clear hBo hCo hC6 hrd HA2 HWd HRd hd1 hxy
        by_cases he : x = y
        · have hU0 := hun.2 he
          rw [hU0] at HU
          subst he
          go_wp2_with (first
            | (go_at_call 22; refine HW3.out.mono ?_; rintro e w7 ⟨rfl, hB7⟩; have HU7 := Lib.hid (HU.out w7 hB7))
            | (go_at_call 15; refine HU7.out.mono ?_; rintro e w8 ⟨v8, rfl, hr8, hB8⟩; obtain ⟨sp8, cap8, rfl⟩ := row_formk hr8; have HR8 := Lib.hid hr8; clear hr8))
          go_ret
          have q7 := q6.trans (hB7.mono q6.size)
          exact ⟨rfl, q7.trans (hB8.mono q7.size)⟩
        · have hU0 : U.length ≠ 0 := fun h => he (hun.1 h)
          obtain ⟨L, hL⟩ : ∃ L, U.length = L := ⟨_, rfl⟩
          rw [hL] at HU hU0
          have e1 : ((L : Int) == 0) = false := by simpa using hU0
          have e2 : ((x : Int) == (y : Int)) = false := by simp only [beq_eq_false_iff_ne, ne_eq]; omega
          clear hun hL
          go_wp2_with (first
            | (go_at_call 22; refine HW3.out.mono ?_; rintro e w7 ⟨rfl, hB7⟩; have HU7 := Lib.hid (HU.out w7 hB7))
            | (go_at_call 15; refine HU7.out.mono ?_; rintro e w8 ⟨v8, rfl, hr8, hB8⟩; obtain ⟨sp8, cap8, rfl⟩ := row_formk hr8; have HR8 := Lib.hid hr8; clear hr8))
          go_ret
          have q7 := q6.trans (hB7.mono q6.size)
          exact ⟨rfl, q7.trans (hB8.mono q7.size)⟩
  · have hf2 : fitsB d0.length a 8 = false := by rw [hl0]; simpa using hf
    have HS1 := Lib.hid (SetWord_no w0.heap.size w0.heap.size d0 ls1 a x w1 hA1 ha.2 hf2)
    have HW1 : Hid (∀ W, RowKit.Below w1.heap.size w1 W → Calls Try.prog 22 #[.pointer (some ⟨w0.heap.size, 0, none⟩), .int .i64 a] W fun e w' => e = .returned (.tuple #[.int .u64 0, .int .i64 9]) ∧ RowKit.Below W.heap.size W w') := fun W hb => Word_no w0.heap.size w0.heap.size a d0 ls1 W (hA1.below hb) ha.2 hf2
    have hf' : ¬ (0 ≤ a ∧ (0 : Int) ≤ 8 ∧ (8 : Int) ≤ m - a) := by simpa [fitsB] using hf
    clear hf hf2 hA1
    by_cases a1 : a < 0
    · go_wp2_with (first
        | (go_at_call 21; refine HS1.out.mono ?_; rintro e w2 ⟨rfl, hB2⟩)
        | (go_at_call 22; refine (HW1.out _ hB2).mono ?_; rintro e w3 ⟨rfl, hB3⟩))
      go_ret
      have q2 := q1.trans (hB2.mono q1.size)
      exact ⟨rfl, q2.trans (hB3.mono q2.size)⟩
    · by_cases a2 : (m : Int) < a
      · go_wp2_with (first
          | (go_at_call 21; refine HS1.out.mono ?_; rintro e w2 ⟨rfl, hB2⟩)
          | (go_at_call 22; refine (HW1.out _ hB2).mono ?_; rintro e w3 ⟨rfl, hB3⟩))
        go_ret
        have q2 := q1.trans (hB2.mono q1.size)
        exact ⟨rfl, q2.trans (hB3.mono q2.size)⟩
      · have a3 : (m : Int) - a < 8 := by omega
        go_wp2_with (first
          | (go_at_call 21; refine HS1.out.mono ?_; rintro e w2 ⟨rfl, hB2⟩)
          | (go_at_call 22; refine (HW1.out _ hB2).mono ?_; rintro e w3 ⟨rfl, hB3⟩))
        go_ret
        have q2 := q1.trans (hB2.mono q1.size)
        exact ⟨rfl, q2.trans (hB3.mono q2.size)⟩
theorem u64_range {n : Int} (h : (Lit.int .u64 n).wf = true) : 0 ≤ n ∧ n < 18446744073709551616 := by
  simp [Lit.wf] at h
  have h1 : IntKind.min .u64 = 0 := by decide
  have h2 : IntKind.max .u64 = 18446744073709551615 := by decide
  omega
end Go.Proofs.Ytpekeijdidijeaa
