/- When two directories, and two lists of texts, are the same. -/
import Derived.Test.YthifejdphflfpaaDoorEnc
import Derived.Test.YthifejdphflfpaaDoorSplit
import Derived.Laws.StructEq
namespace Go.Proofs.YthifejdphflfpaaDoor
open Go.RowKit Go.Sort
theorem eq_nm (x y : Nm) (W : World) : (Op.equalIn 10000 25 (.agg #[.string x.nm, .int .i64 x.kd, .int .i64 x.id]) (.agg #[.string y.nm, .int .i64 y.kd, .int .i64 y.id])).run Tryd.prog W = .ok (decide (x = y)) W := by
  rw [run_equalIn_struct W 9999 25 _ _ (by unfold Program.fieldsOf; rw [Tryd.underlying25]) (by kernel_rfl)]
  unfold Program.fieldsOf
  rw [Tryd.underlying25]
  obtain ⟨a0, a1, a2⟩ := x
  obtain ⟨b0, b1, b2⟩ := y
  have hs : (a0.toList = b0.toList) ↔ a0 = b0 := ⟨fun h => by rw [tl, tl] at h; exact ByteArray.ext (Array.ext' h), fun h => by rw [h]⟩
  by_cases h0 : a0 = b0
  · by_cases h1 : a1 = b1
    · by_cases h2 : a2 = b2
      · simp [go_sem, Op.eqFields, h0, h1, h2]
      · simp [go_sem, Op.eqFields, h0, h1, h2]
    · simp [go_sem, Op.eqFields, h0, h1]
  · have h0' : ¬ a0.toList = b0.toList := fun h => h0 (hs.1 h)
    simp [go_sem, Op.eqFields, h0, h0']
/-- A slice of texts, as it lies in memory. -/
def TsAt (w : World) (p : Option Addr) (l : List ByteArray) : Prop :=
  ∀ j, (h : j < l.length) → ∃ b off, p = some ⟨b, off, none⟩ ∧ b < w.heap.size ∧ w.cell? ⟨b, off + j, none⟩ = some (.string l[j])
theorem TsAt.below {w w' : World} {p : Option Addr} {l : List ByteArray} (h : TsAt w p l) (hb : Below w.heap.size w w') : TsAt w' p l := fun j hj => by
  obtain ⟨b, off, hp, hbl, hc⟩ := h j hj
  exact ⟨b, off, hp, Nat.lt_of_lt_of_le hbl hb.size, (hb.cell (p := ⟨b, off + j, none⟩) hbl).trans hc⟩
theorem own_ts {w : World} {base n : Nat} {v : Value} {l : List ByteArray} (h : w.ownsRow base 9 1 v n (svs l)) (hn : n = l.length) : ∃ p cap, v = .slice p l.length cap ∧ TsAt w p l := by
  subst hn
  rcases h.2 with ⟨hv, h0⟩ | ⟨g, c, cur, hv, _⟩
  · refine ⟨none, 0, by rw [hv, h0], fun j hj => by omega⟩
  · have hlt := (h.lt g (by rw [hv]; rfl)).2
    have hcl := h.cells (g := g) (by rw [hv]; rfl)
    refine ⟨_, c, hv, fun j hj => ⟨g, 0, rfl, hlt, ?_⟩⟩
    have := hcl j (.string l[j]) (by unfold svs; rw [List.getElem?_map, List.getElem?_eq_getElem hj]; rfl)
    rw [addr_plus] at this
    simpa using this
set_option maxRecDepth 100000 in
set_option maxHeartbeats 2000000 in
theorem SameTexts_any (p q : Option Addr) (cp cq : Nat) (a b : List ByteArray) (w : World) (hn : a.length < 1000000) (ha : TsAt w p a) (hb : TsAt w q b) :
    Calls Tryd.prog 25 #[.slice p a.length cp, .slice q b.length cq] w fun e w' => e = .returned (.bool (decide (a = b))) ∧ Below w.heap.size w w' := by
  by_cases hl : a.length = b.length
  · have hl1 : ((a.length : Int) == (b.length : Int)) = true := by simp [hl]
    have HL := Lib.hid hl
    clear hl
    go_enter Tryd.func25, Tryd.ntmps25
    go_wp2
    go_loopw [13] (fun i wr => ∃ k : Nat, k ≤ a.length ∧ i = .int .i64 k ∧ a.take k = b.take k ∧ Below w.heap.size w wr) (fun i _ => a.length - (intOf i).toNat)
    case atStart => exact ⟨0, Nat.zero_le _, rfl, by simp, Below.refl _ _⟩
    case round =>
      obtain ⟨k, hk, rfl, hr, hbr⟩ := hrel
      have HR := Lib.hid hr; clear hr
      by_cases hlt : k < a.length
      · have hlt2 : k < b.length := by have := HL.out; omega
        have hki : (k : Int) < (a.length : Int) := by omega
        have hki2 : (k : Int) < (b.length : Int) := by omega
        obtain ⟨b1, o1, rfl, hb1, hq1⟩ := ha k hlt
        obtain ⟨b2, o2, rfl, hb2, hq2⟩ := hb k hlt2
        have c0 := (hbr.cell (p := ⟨b1, o1 + k, none⟩) hb1).trans hq1
        have d0 := (hbr.cell (p := ⟨b2, o2 + k, none⟩) hb2).trans hq2
        have hz := hbr.size
        have hb1r : b1 < wr.heap.size := by omega
        have hb2r : b2 < wr.heap.size := by omega
        have HT1 := Lib.hid (List.take_succ_eq_append_getElem hlt)
        have HT2 := Lib.hid (List.take_succ_eq_append_getElem hlt2)
        obtain ⟨x, hx⟩ : ∃ x, a[k] = x := ⟨_, rfl⟩
        obtain ⟨y, hy⟩ : ∃ y, b[k] = y := ⟨_, rfl⟩
        rw [hx] at c0 HT1
        rw [hy] at d0 HT2
        have HX := Lib.hid hx
        have HY := Lib.hid hy
        clear ha hb hq1 hq2 hx hy
        by_cases he : x.toList = y.toList
        · have he' : (x.toList == y.toList) = true := by simp [he]
          have HE : Hid (x = y) := by rw [tl, tl] at he; exact ByteArray.ext (Array.ext' he)
          clear he
          go_wp2
          go_quiet (fail)
          go_wp2
          go_roundw
          case rel => exact ⟨k + 1, by omega, by go_num, by rw [HT1.out, HT2.out, HR.out, HE.out], bdn hbr _⟩
          case measure => simp [intOf]; omega
        · have he' : (x.toList == y.toList) = false := by simp [he]
          have HE := Lib.hid he
          clear he
          go_wp2
          go_quiet (fail)
          go_wp2
          go_ret
          exact ⟨ret_bool (by symm; rw [decide_eq_false_iff_not]; intro h; subst h; exact HE.out (by rw [← HX.out, ← HY.out])), bdn hbr _⟩
      · obtain rfl : k = a.length := by omega
        have hkk : ¬ (a.length : Int) < (a.length : Int) := by omega
        go_wp2
        go_ret
        exact ⟨ret_bool (by symm; rw [decide_eq_true_eq]; have := HR.out; rw [List.take_length, HL.out, List.take_length] at this; exact this), hbr⟩
  · have hl1 : ((a.length : Int) == (b.length : Int)) = false := by simp; omega
    have HL := Lib.hid hl
    clear hl
    go_enter Tryd.func25, Tryd.ntmps25
    go_wp2
    go_ret
    exact ⟨ret_bool (by symm; rw [decide_eq_false_iff_not]; intro h; exact HL.out (by rw [h])), Below.refl _ _⟩
set_option maxRecDepth 100000 in
set_option maxHeartbeats 2000000 in
theorem Same_any (p q : Option Addr) (cp cq : Nat) (a b : List Nm) (w : World) (hn : a.length ≤ maxLen) (ha : NsAt w p a) (hb : NsAt w q b) :
    Calls Tryd.prog 11 #[.slice p a.length cp, .slice q b.length cq] w fun e w' => e = .returned (.bool (decide (a = b))) ∧ Below w.heap.size w w' := by
  unfold maxLen at hn
  by_cases hl : a.length = b.length
  · have hl1 : ((a.length : Int) == (b.length : Int)) = true := by simp [hl]
    have HL := Lib.hid hl
    clear hl
    go_enter Tryd.func11, Tryd.ntmps11
    go_wp2
    go_loopw [13] (fun i wr => ∃ k : Nat, k ≤ a.length ∧ i = .int .i64 k ∧ a.take k = b.take k ∧ Below w.heap.size w wr) (fun i _ => a.length - (intOf i).toNat)
    case atStart => exact ⟨0, Nat.zero_le _, rfl, by simp, Below.refl _ _⟩
    case round =>
      obtain ⟨k, hk, rfl, hr, hbr⟩ := hrel
      have HR := Lib.hid hr; clear hr
      by_cases hlt : k < a.length
      · have hlt2 : k < b.length := by have := HL.out; omega
        have hki : (k : Int) < (a.length : Int) := by omega
        have hki2 : (k : Int) < (b.length : Int) := by omega
        obtain ⟨b1, o1, rfl, hb1, hq1⟩ := ha k hlt
        obtain ⟨b2, o2, rfl, hb2, hq2⟩ := hb k hlt2
        obtain ⟨c0, c1, c2⟩ := hq1.below hbr hb1
        obtain ⟨d0, d1, d2⟩ := hq2.below hbr hb2
        have hz := hbr.size
        have hb1r : b1 < wr.heap.size := by omega
        have hb2r : b2 < wr.heap.size := by omega
        have EQ := eq_nm a[k] b[k]
        clear ha hb hq1 hq2
        have HT1 := Lib.hid (List.take_succ_eq_append_getElem hlt)
        have HT2 := Lib.hid (List.take_succ_eq_append_getElem hlt2)
        by_cases he : a[k] = b[k]
        · have he' : decide (a[k] = b[k]) = true := by simp [he]
          have HE := Lib.hid he
          clear he
          go_wp2
          go_quiet (fail)
          go_wp2
          go_roundw
          case rel => exact ⟨k + 1, by omega, by go_num, by rw [HT1.out, HT2.out, HR.out, HE.out], bdn hbr _⟩
          case measure => simp [intOf]; omega
        · have he' : decide (a[k] = b[k]) = false := by simp [he]
          have HE := Lib.hid he
          clear he
          go_wp2
          go_quiet (fail)
          go_wp2
          go_ret
          exact ⟨ret_bool (by symm; rw [decide_eq_false_iff_not]; intro h; subst h; exact HE.out rfl), bdn hbr _⟩
      · obtain rfl : k = a.length := by omega
        have hkk : ¬ (a.length : Int) < (a.length : Int) := by omega
        go_wp2
        go_ret
        exact ⟨ret_bool (by symm; rw [decide_eq_true_eq]; have := HR.out; rw [List.take_length, HL.out, List.take_length] at this; exact this), hbr⟩
  · have hl1 : ((a.length : Int) == (b.length : Int)) = false := by simp; omega
    have HL := Lib.hid hl
    clear hl
    go_enter Tryd.func11, Tryd.ntmps11
    go_wp2
    go_ret
    exact ⟨ret_bool (by symm; rw [decide_eq_false_iff_not]; intro h; exact HL.out (by rw [h])), Below.refl _ _⟩
end Go.Proofs.YthifejdphflfpaaDoor
