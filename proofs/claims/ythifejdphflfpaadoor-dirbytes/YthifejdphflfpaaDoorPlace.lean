/- Where a name stands in a directory, or would stand. -/
import Derived.Test.YthifejdphflfpaaDoorOrd
import Derived.Deep.LoopGhost
namespace Go.Proofs.YthifejdphflfpaaDoor
open Go.RowKit Go.Sort
theorem place1_any (m : Nm) (x : ByteArray) (w : World) : Calls Tryd.prog 44 #[nmV m, .string x] w fun e w' => e = .returned (.int .i64 (Lib.compareBytes m.nm.data.toList x.data.toList)) ∧ Below w.heap.size w w' := by
  unfold nmV
  have HC := Lib.hid (Tryd.strings_Compare m.nm x)
  go_enter Tryd.func44, Tryd.ntmps44
  go_wp2_with (go_at_call 45; refine (HC.out _).mono ?_; rintro e w1 ⟨rfl, hw1⟩; rw [hw1]; clear hw1 w1)
  go_ret
  exact ⟨rfl, (Below.refl _ _).alloc (Nat.le_refl _) _⟩
/-- All ahead of the place are ahead of the name, none from there on. -/
def Spot (l : List Nm) (x : ByteArray) (i : Nat) : Prop := i ≤ l.length ∧ (∀ a, (h : a < l.length) → a < i → ltB l[a].nm x = true) ∧ ∀ a, (h : a < l.length) → i ≤ a → ltB l[a].nm x = false
def thereB (l : List Nm) (x : ByteArray) (i : Nat) : Bool := match l[i]? with | some m => m.nm.toList == x.toList | none => false
theorem cmp_lt' (a b : ByteArray) : decide (Lib.compareBytes a.data.toList b.data.toList < 0) = ltB a b := by
  unfold ltB; rw [tl, tl]; exact cmp_lt _ _
theorem cmp_eq' (a b : ByteArray) : (Lib.compareBytes a.data.toList b.data.toList == 0) = (a.toList == b.toList) := by
  rw [tl, tl]; exact cmp_eq _ _
set_option maxRecDepth 100000 in
set_option maxHeartbeats 1000000 in
theorem Search_any (p : Option Addr) (cap : Nat) (l : List Nm) (x : ByteArray) (w : World) (hm : l.length < 1000000) (hc : NsAt w p l) (hmono : ∀ a b, (h : b < l.length) → (hab : a ≤ b) → ltB l[b].nm x = true → ltB (l[a]'(by omega)).nm x = true) :
    Calls Tryd.prog 43 #[.slice p l.length cap, .string x, .func (.func 44) #[] #[]] w fun e w' => (∃ i : Nat, Spot l x i ∧ e = .returned (.tuple #[.int .i64 i, .bool (thereB l x i)])) ∧ Below w.heap.size w w' := by
  have HM := Lib.hid hmono
  clear hmono
  go_enter Tryd.func43, Tryd.ntmps43
  go_wp2_with fail
  go_loopg [9, 10] l.length (fun kx s9 s10 wr => ∃ lo hi : Nat, s9 = .int .i64 lo ∧ s10 = .int .i64 hi ∧ lo ≤ hi ∧ hi ≤ l.length ∧ hi - lo ≤ kx ∧ (∀ a, (h : a < l.length) → a < lo → ltB l[a].nm x = true) ∧ (∀ a, (h : a < l.length) → hi ≤ a → ltB l[a].nm x = false) ∧ Below w.heap.size w wr)
  case atStart => exact ⟨0, l.length, rfl, rfl, Nat.zero_le _, Nat.le_refl _, by omega, fun a h h2 => by omega, fun a h h2 => by omega, Below.refl _ _⟩
  case round =>
    obtain ⟨lo, hi, rfl, rfl, hlh, hin, hg, i1, i2, hb⟩ := hrel
    have I1 := Lib.hid i1
    have I2 := Lib.hid i2
    have HB := Lib.hid hb
    have hbs := hb.size
    clear i1 i2
    by_cases hlt : lo < hi
    · have hh : (lo + hi) / 2 < l.length := by omega
      obtain ⟨b, off, rfl, hbl, hq⟩ := hc ((lo + hi) / 2) hh
      obtain ⟨c0, c1, c2⟩ := hq.below hb hbl
      have hbw : b < wr.heap.size := Nat.lt_of_lt_of_le hbl hb.size
      obtain ⟨y, hy⟩ : ∃ y, l[(lo + hi) / 2] = y := ⟨_, rfl⟩
      rw [hy] at c0 c1 c2
      have HP := Lib.hid (place1_any y x)
      have HL := Lib.hid (cmp_lt' y.nm x)
      have HY := Lib.hid hy
      clear hc hq hb hy
      generalize hcb : Lib.compareBytes y.nm.data.toList x.data.toList = cv at HP HL
      clear hcb
      by_cases hyx : cv < 0
      · go_wp2_with (go_at_call 44; refine (HP.out _).mono ?_; rintro e w1 ⟨rfl, hb1⟩; have HB1 := Lib.hid hb1; clear hb1)
        go_roundg (hi - ((lo + hi) / 2 + 1))
        case measure => omega
        case rel => exact ⟨(lo + hi) / 2 + 1, hi, by rw [show ((lo : Int) + (hi : Int)) / 2 + 1 = (((lo + hi) / 2 + 1 : Nat) : Int) by omega], rfl, by omega, hin, Nat.le_refl _, fun a h h2 => HM.out a ((lo + hi) / 2) hh (by omega) (by rw [HY.out, ← HL.out]; exact decide_eq_true hyx), I2.out, HB.out.trans (HB1.out.mono hbs)⟩
      · go_wp2_with (go_at_call 44; refine (HP.out _).mono ?_; rintro e w1 ⟨rfl, hb1⟩; have HB1 := Lib.hid hb1; clear hb1)
        go_roundg ((lo + hi) / 2 - lo)
        case measure => omega
        case rel =>
          refine ⟨lo, (lo + hi) / 2, rfl, by rw [show ((lo : Int) + (hi : Int)) / 2 = (((lo + hi) / 2 : Nat) : Int) by omega], by omega, by omega, Nat.le_refl _, I1.out, fun a h h2 => ?_, HB.out.trans (HB1.out.mono hbs)⟩
          cases hz : ltB l[a].nm x
          · rfl
          · have := HM.out ((lo + hi) / 2) a h h2 hz
            rw [HY.out, ← HL.out] at this
            exact absurd (of_decide_eq_true this) (by omega)
    · obtain rfl : hi = lo := by omega
      have HSp : Hid (Spot l x hi) := ⟨hin, I1.out, I2.out⟩
      by_cases hn : hi < l.length
      · obtain ⟨b, off, rfl, hbl, hq⟩ := hc hi hn
        obtain ⟨c0, c1, c2⟩ := hq.below hb hbl
        have hbw : b < wr.heap.size := Nat.lt_of_lt_of_le hbl hb.size
        have HT : Hid (thereB l x hi = (l[hi].nm.toList == x.toList)) := by show thereB l x hi = _; unfold thereB; rw [List.getElem?_eq_getElem hn]
        obtain ⟨y, hy⟩ : ∃ y, l[hi] = y := ⟨_, rfl⟩
        rw [hy] at c0 c1 c2 HT
        have HP := Lib.hid (place1_any y x)
        have HL := Lib.hid (cmp_eq' y.nm x)
        clear hc hq hb hy
        generalize hcb : Lib.compareBytes y.nm.data.toList x.data.toList = cv at HP HL
        clear hcb
        have hni : (hi : Int) < (l.length : Int) := by omega
        go_wp2_with (go_at_call 44; refine (HP.out _).mono ?_; rintro e w1 ⟨rfl, hb1⟩; have HB1 := Lib.hid hb1; clear hb1)
        go_ret2
        exact ⟨⟨hi, HSp.out, by rw [HT.out, ← HL.out]; rfl⟩, HB.out.trans (HB1.out.mono hbs)⟩
      · have hni : ¬ (hi : Int) < (l.length : Int) := by omega
        clear hc
        go_wp2
        go_ret2
        exact ⟨⟨hi, HSp.out, by unfold thereB; rw [List.getElem?_eq_none (by omega)]; rfl⟩, HB.out⟩
theorem place_any (p : Option Addr) (cap : Nat) (l : List Nm) (x : ByteArray) (w : World) (hm : l.length < 1000000) (hc : NsAt w p l) (hr : rightL l = true) :
    Calls Tryd.prog 29 #[.slice p l.length cap, .string x] w fun e w' => (∃ i : Nat, Spot l x i ∧ e = .returned (.tuple #[.int .i64 i, .bool (thereB l x i)])) ∧ Below w.heap.size w w' := by
  have HS := Lib.hid (Search_any p cap l x w hm hc (fun a b h hab hl => by
    by_cases he : a = b
    · subst he; exact hl
    · exact bl_trans _ _ _ ((rk_rise l 0 ⟨#[]⟩ hr a (by omega)).2.2 b h (by omega)) hl))
  go_enter Tryd.func29, Tryd.ntmps29
  go_wp2_with (go_at_call 43; refine HS.out.mono ?_; rintro e w1 ⟨⟨i, hi, rfl⟩, hb1⟩)
  go_ret2
  exact ⟨⟨i, hi, rfl⟩, hb1⟩
end Go.Proofs.YthifejdphflfpaaDoor
