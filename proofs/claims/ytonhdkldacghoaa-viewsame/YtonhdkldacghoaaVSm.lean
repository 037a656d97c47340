/- What slices.Equal at numbers, mappings and entries, and sameLabel and sameInfo of package view answer. -/
import Derived.Test.YtonhdkldacghoaaRSm
namespace Go.Proofs.Ytonhdkldacghoaa
open Go.RowKit Go.Sort

set_option maxRecDepth 100000 in
set_option maxHeartbeats 2000000 in
theorem EqI_any (w : World) (p q : Option Addr) (c d : Nat) (a b : List Int) (ha : IntsAt w p a) (hb : IntsAt w q b) (hla : a.length ≤ maxLen) :
    Calls Try.prog 57 #[.slice p a.length c, .slice q b.length d] w fun e w' => e = .returned (.bool (a == b)) ∧ Below w.heap.size w w' := by
  unfold maxLen at hla
  by_cases hl : a.length = b.length
  · have HL := Lib.hid hl
    have hli : ¬ ((a.length : Int) ≠ (b.length : Int)) := by omega
    have hlb : ((a.length : Int) != (b.length : Int)) = false := by simp [hl]
    clear hl
    go_enter Try.func57, Try.ntmps57
    go_wp2_with fail
    go_loopw [13] (fun y wr => ∃ k : Nat, y = .int .i64 k ∧ k ≤ a.length ∧ a.take k = b.take k ∧ Below w.heap.size w wr) (fun y _ => (a.length - (RowKit.intOf y).toNat))
    case atStart => exact ⟨0, rfl, Nat.zero_le _, rfl, Below.refl _ _⟩
    case round =>
      obtain ⟨k, rfl, hk, htk, hB⟩ := hrel
      have HTK := Lib.hid htk
      have HBw := Lib.hid hB
      clear htk
      by_cases hlt : k < a.length
      · have hltb : k < b.length := by have := HL.out; omega
        have hki : (k : Int) < (a.length : Int) := by omega
        have hkj : (k : Int) < (b.length : Int) := by omega
        obtain ⟨ga, oa, rfl, hga, cga⟩ := ha k hlt
        obtain ⟨gb, ob, rfl, hgb, cgb⟩ := hb k hltb
        have d0 : ∀ n, (wr.drewN n).cell? ⟨ga, oa + k, none⟩ = some (.int .i64 a[k]) := fun n => show wr.cell? _ = _ from (hB.cell (p := ⟨ga, oa + k, none⟩) hga).trans cga
        have d1 : ∀ n, (wr.drewN n).cell? ⟨gb, ob + k, none⟩ = some (.int .i64 b[k]) := fun n => show wr.cell? _ = _ from (hB.cell (p := ⟨gb, ob + k, none⟩) hgb).trans cgb
        have HTE := fun e => Lib.hid (take_eq hlt hltb HTK.out e)
        have HNE := fun e => Lib.hid (take_ne hlt hltb e)
        obtain ⟨xa, hxa⟩ : ∃ xa, a[k] = xa := ⟨_, rfl⟩
        obtain ⟨xb, hxb⟩ : ∃ xb, b[k] = xb := ⟨_, rfl⟩
        simp only [hxa] at d0 HTE HNE
        simp only [hxb] at d1 HTE HNE
        clear ha hb cga cgb hB hxa hxb
        by_cases he : xa = xb
        · have heb : (xa != xb) = false := by simp [he]
          have HT2 := HTE he
          have heq : (xa == xb) = true := by simp [he]
          clear HTE HNE
          go_wp2_with fail
          go_quiet (fail)
          go_wp2_with fail
          go_roundw
          case rel => exact ⟨k + 1, by go_num, by omega, HT2.out, HBw.out.trans ⟨rfl, rfl, rfl, Nat.le_refl _, fun _ _ => rfl⟩⟩
          case measure => simp [RowKit.intOf]; omega
        · have heb : (xa != xb) = true := by simp [he]
          have HN2 := HNE he
          clear HTE HNE
          go_wp2_with fail
          go_quiet (fail)
          go_wp2_with fail
          go_ret
          exact ⟨by rw [show (a == b) = false from by simpa using HN2.out]; rfl, HBw.out.trans ⟨rfl, rfl, rfl, Nat.le_refl _, fun _ _ => rfl⟩⟩
      · obtain rfl : k = a.length := by omega
        have hkk : ¬ (a.length : Int) < (a.length : Int) := by omega
        have hee : a = b := by have := HTK.out; rw [List.take_length, HL.out, List.take_length] at this; exact this
        have HEE := Lib.hid hee
        clear hee ha hb hB
        go_wp2_with fail
        go_ret
        exact ⟨by rw [show (a == b) = true from by simpa using HEE.out]; rfl, HBw.out⟩
  · have hli : ((a.length : Int) ≠ (b.length : Int)) := by omega
    have hlb : ((a.length : Int) != (b.length : Int)) = true := by simpa using hli
    have HNE : Hid ((a == b) = false) := by
      show (a == b) = false
      simp only [beq_eq_false_iff_ne, ne_eq]
      intro e; exact hl (by rw [e])
    clear ha hb hl
    go_enter Try.func57, Try.ntmps57
    go_wp2_with fail
    go_ret
    exact ⟨by rw [HNE.out]; rfl, Below.refl _ _⟩
set_option maxRecDepth 100000 in
set_option maxHeartbeats 2000000 in
theorem EqM_any (p q : Option Addr) (cp cq : Nat) (a b : List Mp) (w : World) (hn : a.length ≤ maxLen) (ha : MsAt w p a) (hb : MsAt w q b) :
    Calls Try.prog 58 #[.slice p a.length cp, .slice q b.length cq] w fun e w' => e = .returned (.bool (eqP a b)) ∧ Below w.heap.size w w' := by
  unfold maxLen at hn
  by_cases hl : a.length = b.length
  · have hl1 : ((a.length : Int) == (b.length : Int)) = true := by simp [hl]
    have HL := Lib.hid hl
    clear hl
    go_enter Try.func58, Try.ntmps58
    go_wp2
    go_loopw [13] (fun i wr => ∃ k : Nat, k ≤ a.length ∧ i = .int .i64 k ∧ a.take k = b.take k ∧ Below w.heap.size w wr) (fun i _ => a.length - (intOf i).toNat)
    case atStart => exact ⟨0, Nat.zero_le _, rfl, by simp, Below.refl _ _⟩
    case round =>
      obtain ⟨k, hk, rfl, hr, hbr⟩ := hrel
      have HR := Lib.hid hr; clear hr
      by_cases hlt : k < a.length
      · have hlt2 : k < b.length := by have := HL.out; omega
        have hki : (k : Int) < (a.length : Int) := by omega
        have hki2 : (k : Int) < (b.length : Int) := by omega
        obtain ⟨b1, o1, rfl, hb1r, c0, c1, c2, c3, c4, c5, c6⟩ := ms_get ha hbr k hlt
        obtain ⟨b2, o2, rfl, hb2r, d0, d1, d2, d3, d4, d5, d6⟩ := ms_get hb hbr k hlt2
        have EQ := eq_mp a[k] b[k]
        clear ha hb
        have HT1 := Lib.hid (List.take_succ_eq_append_getElem hlt)
        have HT2 := Lib.hid (List.take_succ_eq_append_getElem hlt2)
        by_cases he : a[k] = b[k]
        · have he' : eqP a[k] b[k] = true := eqP_yes he
          have HE := Lib.hid he
          clear he
          go_wp2
          go_quiet (fail)
          go_wp2
          go_roundw
          case rel => exact ⟨k + 1, by omega, by go_num, by rw [HT1.out, HT2.out, HR.out, HE.out], bdnS hbr _⟩
          case measure => simp [intOf]; omega
        · have he' : eqP a[k] b[k] = false := eqP_no he
          have HE := Lib.hid he
          clear he
          go_wp2
          go_quiet (fail)
          go_wp2
          go_ret
          exact ⟨ret_bool (by rw [eqP_no (fun h => by subst h; exact HE.out rfl)]), bdnS hbr _⟩
      · obtain rfl : k = a.length := by omega
        have hkk : ¬ (a.length : Int) < (a.length : Int) := by omega
        go_wp2
        go_ret
        exact ⟨ret_bool (by rw [eqP_yes (by have := HR.out; rw [List.take_length, HL.out, List.take_length] at this; exact this)]), hbr⟩
  · have hl1 : ((a.length : Int) == (b.length : Int)) = false := by simp; omega
    have HL := Lib.hid hl
    clear hl
    go_enter Try.func58, Try.ntmps58
    go_wp2
    go_ret
    exact ⟨ret_bool (by rw [eqP_no (fun h => HL.out (by rw [h]))]), Below.refl _ _⟩
set_option maxRecDepth 100000 in
set_option maxHeartbeats 2000000 in
theorem EqE_any (p q : Option Addr) (cx cy : Nat) (xs ys : List (Int × Int)) (w : World) (hmx : xs.length ≤ maxLen) (hx : CatsAt w p xs) (hy : CatsAt w q ys) :
    Calls Try.prog 65 #[.slice p xs.length cx, .slice q ys.length cy] w fun e w' => e = .returned (.bool (decide (xs = ys))) ∧ Below w.heap.size w w' := by
  unfold maxLen at hmx
  have hg := guardS
  by_cases hl : xs.length = ys.length
  · have hlb : ((xs.length : Int) != (ys.length : Int)) = false := by simp [hl]
    have HL := Lib.hid hl
    clear hl
    go_enter Try.func65, Try.ntmps65
    go_wp2_with fail
    go_loopw [13] (fun i wr => ∃ k : Nat, k ≤ xs.length ∧ i = .int .i64 k ∧ decide (xs = ys) = decide (xs.drop k = ys.drop k) ∧ Below w.heap.size w wr) (fun i _ => xs.length - (intOf i).toNat)
    case atStart => exact ⟨0, Nat.zero_le _, rfl, by simp, Below.refl _ _⟩
    case round =>
      obtain ⟨k, hk, rfl, hr, hb⟩ := hrel
      have HR : Hid (decide (xs = ys) = decide (xs.drop k = ys.drop k)) := hr; clear hr
      by_cases hlt : k < xs.length
      · have hlt2 : k < ys.length := by have := HL.out; omega
        obtain ⟨b, off, rfl, hbl, c0, c1⟩ := (hx.below hb) k hlt
        obtain ⟨b2, off2, rfl, hbl2, e0, e1⟩ := (hy.below hb) k hlt2
        have HT : Hid (decide (xs.drop k = ys.drop k) = (decide (xs[k] = ys[k]) && decide (xs.drop (k + 1) = ys.drop (k + 1)))) := same_step xs ys k hlt hlt2
        have hki : (k : Int) < (xs.length : Int) := by omega
        have hkj : (k : Int) < (ys.length : Int) := by omega
        clear hx hy
        by_cases h3 : xs[k].1 = ys[k].1
        · by_cases h4 : xs[k].2 = ys[k].2
          · have HE : Hid (xs[k] = ys[k]) := Prod.ext h3 h4
            go_wp2
            go_quiet (fail)
            go_wp2
            go_roundw
            case rel => exact ⟨k + 1, by omega, by go_num, by rw [HR.out, HT.out, decide_eq_true HE.out]; rfl, bdnS hb _⟩
            case measure => simp [intOf]; omega
          · have HE : Hid (xs[k] ≠ ys[k]) := fun e => h4 (congrArg Prod.snd e)
            go_wp2
            go_quiet (fail)
            go_wp2
            go_ret
            exact ⟨ret_bool (by rw [HR.out, HT.out, decide_eq_false HE.out]; rfl), bdnS hb _⟩
        · have HE : Hid (xs[k] ≠ ys[k]) := fun e => h3 (congrArg Prod.fst e)
          go_wp2
          go_quiet (fail)
          go_wp2
          go_ret
          exact ⟨ret_bool (by rw [HR.out, HT.out, decide_eq_false HE.out]; rfl), bdnS hb _⟩
      · have hkk : ¬ (k : Int) < (xs.length : Int) := by omega
        go_wp2
        go_ret
        exact ⟨ret_bool (by rw [HR.out, List.drop_of_length_le (by omega), List.drop_of_length_le (by have := HL.out; omega)]; rfl), hb⟩
  · have hlb : ((xs.length : Int) != (ys.length : Int)) = true := by simp; omega
    have HN : Hid (decide (xs = ys) = false) := Lib.hid (by rw [decide_eq_false_iff_not]; intro e; exact hl (by rw [e]))
    clear hl
    go_enter Try.func65, Try.ntmps65
    go_wp2_with fail
    go_ret
    exact ⟨ret_bool HN.out.symm, Below.refl _ _⟩
set_option maxRecDepth 100000 in
set_option maxHeartbeats 2000000 in
theorem VLabel_any (da db : Int) (p q : Option Addr) (cx cy : Nat) (xs ys : List (Int × Int)) (w : World) (hmx : xs.length ≤ maxLen) (_hmy : ys.length ≤ maxLen) (hx : CatsAt w p xs) (hy : CatsAt w q ys) :
    Calls Try.prog 59 #[.agg #[.int .i64 da, .slice p xs.length cx], .agg #[.int .i64 db, .slice q ys.length cy]] w fun e w' => e = .returned (.bool (sameS da db xs ys)) ∧ Below w.heap.size w w' := by
  have hW : Below w.heap.size w ((w.alloc (.cells #[.int .i64 da, .slice p xs.length cx] 25)).alloc (.cells #[.int .i64 db, .slice q ys.length cy] 25)) := by go_grown
  have HC := Lib.hid (EqE_any p q cx cy xs ys _ hmx (hx.below hW) (hy.below hW))
  clear hx hy
  by_cases h : (da == db) = true
  · have HF : Hid (sameS da db xs ys = decide (xs = ys)) := Lib.hid (by simp at h; simp [sameS, h])
    go_enter Try.func59, Try.ntmps59
    go_wp2_with (go_at_call 65; refine HC.out.mono ?_; rintro e w2 ⟨rfl, hb2⟩)
    go_ret
    exact ⟨ret_bool HF.out.symm, hW.trans (hb2.mono hW.size)⟩
  · have h' : (da == db) = false := by simpa using h
    have HF : Hid (sameS da db xs ys = false) := Lib.hid (by simp at h'; simp [sameS, h'])
    clear h
    go_enter Try.func59, Try.ntmps59
    go_wp2_with fail
    go_ret
    exact ⟨ret_bool HF.out.symm, hW⟩
set_option maxRecDepth 100000 in
set_option maxHeartbeats 2000000 in
theorem VInfo_any (a b : Ob) (w : World) (hma : a.L.xs.length ≤ maxLen) (hmb : b.L.xs.length ≤ maxLen) (ha : CatsAt w a.L.p a.L.xs) (hb : CatsAt w b.L.p b.L.xs) :
    Calls Try.prog 56 #[infV a, infV b] w fun e w' => e = .returned (.bool (infB a b)) ∧ Below w.heap.size w w' := by
  have HS := Lib.hid (fun (X : World) (hX : Below w.heap.size w X) => VLabel_any a.L.d b.L.d a.L.p b.L.p a.L.cap b.L.cap a.L.xs b.L.xs X hma hmb (ha.below hX) (hb.below hX))
  have HF : Hid (infB a b = ((a.id == b.id) && ((a.kind == b.kind) && ((a.quota == b.quota) && ((a.used == b.used) && ((a.links == b.links) && sameS a.L.d b.L.d a.L.xs b.L.xs)))))) := Lib.hid rfl
  clear ha hb hma hmb
  generalize sameS a.L.d b.L.d a.L.xs b.L.xs = sb at *
  generalize infB a b = ib at *
  unfold infV
  obtain ⟨a0, a1, a2, a3, a4, ⟨a5, a6, a7, a8⟩, _⟩ := a
  obtain ⟨b0, b1, b2, b3, b4, ⟨b5, b6, b7, b8⟩, _⟩ := b
  simp only at HS HF ⊢
  generalize a8.length = n8 at *
  generalize b8.length = m8 at *
  have hW : Below w.heap.size w ((w.alloc (.cells #[.int .i64 a0, .int .i64 a1, .int .i64 a2, .int .i64 a3, .int .i64 a4, .int .i64 a5, .slice a6 n8 a7] 33)).alloc (.cells #[.int .i64 b0, .int .i64 b1, .int .i64 b2, .int .i64 b3, .int .i64 b4, .int .i64 b5, .slice b6 m8 b7] 33)) := by go_grown
  by_cases h0 : (a0 == b0) = true
  · skip
    by_cases h1 : (a1 == b1) = true
    · skip
      by_cases h2 : (a2 == b2) = true
      · skip
        by_cases h3 : (a3 == b3) = true
        · skip
          by_cases h4 : (a4 == b4) = true
          · skip
            have HE : Hid (ib = sb) := Lib.hid (by rw [HF.out, h0, h1, h2, h3, h4]; rfl)
            go_enter Try.func56, Try.ntmps56
            go_wp2_with (first
              | (go_at_call 59; refine (HS.out _ hW).mono ?_; rintro e w2 ⟨rfl, hb2⟩))
            go_ret
            exact ⟨ret_bool HE.out.symm, hW.trans (hb2.mono hW.size)⟩
          · have h4' : (a4 == b4) = false := by simpa using h4
            have HE : Hid (ib = false) := Lib.hid (by rw [HF.out, h0, h1, h2, h3, h4']; rfl)
            clear h4
            go_enter Try.func56, Try.ntmps56
            go_wp2
            go_ret
            exact ⟨ret_bool HE.out.symm, hW⟩
        · have h3' : (a3 == b3) = false := by simpa using h3
          have HE : Hid (ib = false) := Lib.hid (by rw [HF.out, h0, h1, h2, h3']; rfl)
          clear h3
          go_enter Try.func56, Try.ntmps56
          go_wp2
          go_ret
          exact ⟨ret_bool HE.out.symm, hW⟩
      · have h2' : (a2 == b2) = false := by simpa using h2
        have HE : Hid (ib = false) := Lib.hid (by rw [HF.out, h0, h1, h2']; rfl)
        clear h2
        go_enter Try.func56, Try.ntmps56
        go_wp2
        go_ret
        exact ⟨ret_bool HE.out.symm, hW⟩
    · have h1' : (a1 == b1) = false := by simpa using h1
      have HE : Hid (ib = false) := Lib.hid (by rw [HF.out, h0, h1']; rfl)
      clear h1
      go_enter Try.func56, Try.ntmps56
      go_wp2
      go_ret
      exact ⟨ret_bool HE.out.symm, hW⟩
  · have h0' : (a0 == b0) = false := by simpa using h0
    have HE : Hid (ib = false) := Lib.hid (by rw [HF.out, h0']; rfl)
    clear h0
    go_enter Try.func56, Try.ntmps56
    go_wp2
    go_ret
    exact ⟨ret_bool HE.out.symm, hW⟩
end Go.Proofs.Ytonhdkldacghoaa
