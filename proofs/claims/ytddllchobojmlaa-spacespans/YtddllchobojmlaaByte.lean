/- What Byte of the reference answers. -/
import Derived.Test.YtddllchobojmlaaFacts2
namespace Go.Proofs.Ytddllchobojmlaa
open Go.RowKit Go.Sort
/-- The place of the first mapping that a page is in. -/
def fI (g : Int) : List Mp → Nat → Option Nat
  | [], _ => none
  | m :: l, k => if inM g m = true then some k else fI g l (k + 1)
theorem fI_step (g : Int) (l : List Mp) (k : Nat) (h : k < l.length) : fI g (l.drop k) k = if inM g l[k] = true then some k else fI g (l.drop (k + 1)) (k + 1) := by
  rw [List.drop_eq_getElem_cons h]; rfl
theorem fI_spec (g : Int) : ∀ (l : List Mp) (k : Nat), match fI g l k with
    | none => findM l g = none
    | some i => k ≤ i ∧ ∃ h : i - k < l.length, findM l g = some l[i - k]
  | [], k => by simp [fI, findM]
  | m :: l, k => by
    by_cases hi : inM g m = true
    · simp only [fI, hi, if_true]
      exact ⟨Nat.le_refl _, by simp, by simp [findM, hi]⟩
    · have hi' : inM g m = false := by simpa using hi
      have ih := fI_spec g l (k + 1)
      simp only [fI, hi', Bool.false_eq_true, if_false]
      cases hj : fI g l (k + 1) with
      | none => rw [hj] at ih; simp only at ih ⊢; unfold findM at ih ⊢; rw [List.find?_cons, hi']; exact ih
      | some i =>
        rw [hj] at ih
        simp only at ih ⊢
        obtain ⟨h1, h2, h3⟩ := ih
        refine ⟨by omega, by simp; omega, ?_⟩
        unfold findM at h3 ⊢
        rw [List.find?_cons, hi', h3]
        have : i - k = (i - (k + 1)) + 1 := by omega
        simp only [this, List.getElem_cons_succ]
def offM (m : Mp) (a : Int) : Int := 64 * (m.fr + a / 64 - m.at_) + a % 64
/-- What Byte answers. -/
def byteV (l : List Mp) (a need : Int) : Int × Int :=
  match fI (a / 64) l 0 with
  | none => (-1, 0)
  | some k => if srv (l.getD k mp0) need = true then ((k : Int), offM (l.getD k mp0) a) else (-1, 0)
set_option maxRecDepth 100000 in
set_option maxHeartbeats 2000000 in
theorem Byte_any (p : Option Addr) (cap : Nat) (l : List Mp) (a need : Int) (w : World) (h16 : l.length ≤ 16) (hg : ∀ x ∈ l, goodM x = true) (ha : 0 ≤ a) (ha2 : a < 18446744073709551616) (hc : MsAt w p l) :
    Calls Try.prog 31 #[.slice p l.length cap, .int .u64 a, .int .i64 need] w fun e w' => e = .returned (.tuple #[.int .i64 (byteV l a need).1, .int .i64 (byteV l a need).2]) ∧ Below w.heap.size w w' := by
  go_enter Try.func31, Try.ntmps31
  go_wp2_with fail
  go_loopw [13] (fun i wr => ∃ k : Nat, k ≤ l.length ∧ i = .int .i64 k ∧ fI (a / 64) l 0 = fI (a / 64) (l.drop k) k ∧ Below w.heap.size w wr) (fun i _ => l.length - (intOf i).toNat)
  case atStart => exact ⟨0, Nat.zero_le _, rfl, by simp, Below.refl _ _⟩
  case round =>
    obtain ⟨k, hk, rfl, hr, hb⟩ := hrel
    have HR := Lib.hid hr; clear hr
    have hbs := hb.size
    by_cases hlt : k < l.length
    · obtain ⟨b, off, rfl, hbl, hq⟩ := hc k hlt
      obtain ⟨c0, c1, c2, c3, c4, c5, c6⟩ := hq.below hb hbl
      have hbr : b < wr.heap.size := by omega
      have HS := Lib.hid (fI_step (a / 64) l k hlt)
      have HD := Lib.hid (show l.getD k mp0 = l[k] from by rw [List.getD_eq_getElem?_getD, List.getElem?_eq_getElem hlt]; rfl)
      have hki : (k : Int) < (l.length : Int) := by omega
      have hgk := ((goodM_iff _).1 (hg _ (List.getElem_mem hlt))).1
      have hu1 : IntKind.u64.wrap l[k].at_ = l[k].at_ := by rw [IntKind.wrap_u64]; omega
      have hu2 : IntKind.u64.wrap (l[k].at_ + l[k].pg) = l[k].at_ + l[k].pg := by rw [IntKind.wrap_u64]; omega
      have hbX : Below w.heap.size w (wr.alloc (.cells #[.int .i64 l[k].at_, .int .i64 l[k].pg, .int .i64 l[k].inn, .int .i64 l[k].id, .int .i64 l[k].fr, .bool l[k].wr, .bool l[k].rn] 24)) := hb.alloc hbs _
      clear hc hq
      by_cases h1 : a / 64 < l[k].at_
      · go_wp2
        go_roundw
        case rel => exact ⟨k + 1, by omega, by go_num, by rw [HR.out, HS.out, if_neg (by simp [inM]; omega)], hbX⟩
        case measure => simp [intOf]; omega
      · by_cases h2 : l[k].at_ + l[k].pg ≤ a / 64
        · go_wp2
          go_roundw
          case rel => exact ⟨k + 1, by omega, by go_num, by rw [HR.out, HS.out, if_neg (by simp [inM]; omega)], hbX⟩
          case measure => simp [intOf]; omega
        · have HI := Lib.hid (show fI (a / 64) l 0 = some k from by rw [HR.out, HS.out, if_pos (by simp [inM]; omega)])
          have hwa : IntKind.i64.wrap (a / 64) = a / 64 := by rw [IntKind.wrap_i64]; omega
          have hwb : IntKind.i64.wrap (a % 64) = a % 64 := by rw [IntKind.wrap_i64]; omega
          have hwc : IntKind.i64.wrap (l[k].fr + a / 64) = l[k].fr + a / 64 := by rw [IntKind.wrap_i64]; omega
          have hwd : IntKind.i64.wrap (l[k].fr + a / 64 - l[k].at_) = l[k].fr + a / 64 - l[k].at_ := by rw [IntKind.wrap_i64]; omega
          have hwe : IntKind.i64.wrap (64 * (l[k].fr + a / 64 - l[k].at_)) = 64 * (l[k].fr + a / 64 - l[k].at_) := by rw [IntKind.wrap_i64]; omega
          have hwf : IntKind.i64.wrap (64 * (l[k].fr + a / 64 - l[k].at_) + a % 64) = 64 * (l[k].fr + a / 64 - l[k].at_) + a % 64 := by rw [IntKind.wrap_i64]; omega
          have HB1 : srv l[k] need = true → byteV l a need = ((k : Int), offM l[k] a) := fun h => by unfold byteV; rw [HI.out]; simp only [HD.out]; rw [if_pos h]
          have HB2 : srv l[k] need = false → byteV l a need = (-1, 0) := fun h => by unfold byteV; rw [HI.out]; simp only [HD.out]; rw [if_neg (by simp [h])]
          by_cases hn1 : need = 1
          · subst hn1
            cases hw : l[k].wr with
            | false =>
              have HB := Lib.hid (HB2 (by simp [srv, hw]))
              clear HB1 HB2
              rw [hw] at hbX
              go_wp2
              go_ret2
              exact ⟨by rw [HB.out]; rfl, hbX⟩
            | true =>
              have HB := Lib.hid (HB1 (by simp [srv, hw]))
              clear HB1 HB2
              rw [hw] at hbX
              go_wp2
              go_quiet (fail)
              go_wp2
              go_ret2
              exact ⟨by rw [HB.out]; rfl, bdn hbX _⟩
          · have hn1' : (need == 1) = false := by simpa using hn1
            by_cases hn2 : need = 2
            · subst hn2
              cases hw : l[k].rn with
              | false =>
                have HB := Lib.hid (HB2 (by simp [srv, hw]))
                clear HB1 HB2
                rw [hw] at hbX
                go_wp2
                go_ret2
                exact ⟨by rw [HB.out]; rfl, hbX⟩
              | true =>
                have HB := Lib.hid (HB1 (by simp [srv, hw]))
                clear HB1 HB2
                rw [hw] at hbX
                go_wp2
                go_quiet (fail)
                go_wp2
                go_ret2
                exact ⟨by rw [HB.out]; rfl, bdn hbX _⟩
            · have hn2' : (need == 2) = false := by simpa using hn2
              have HB := Lib.hid (HB1 (by simp [srv, hn1, hn2]))
              clear HB1 HB2
              skip
              go_wp2
              go_quiet (fail)
              go_wp2
              go_ret2
              exact ⟨by rw [HB.out]; rfl, bdn hbX _⟩
    · obtain rfl : k = l.length := by omega
      have hkk : ¬ (l.length : Int) < (l.length : Int) := by omega
      go_wp2
      go_ret2
      exact ⟨by unfold byteV; rw [HR.out, List.drop_length]; rfl, hb⟩
end Go.Proofs.Ytddllchobojmlaa
