/- What slices.EqualFunc over sameObject, and all of the statements' package answer, for every two rows of objects. -/
import Derived.Test.YtonhdkldacghoaaVSame
import Derived.Test.YtonhdkldacghoaaPrt0
import Derived.Test.YtonhdkldacghoaaAllB
namespace Go.Proofs.Ytonhdkldacghoaa
open Go.RowKit Go.Sort

set_option maxRecDepth 100000 in
set_option maxHeartbeats 2000000 in
theorem EqF_any (p q : Option Addr) (cp cq : Nat) (a b : List Ob) (w : World) (hn : a.length ≤ maxLen) (ha : ObsAt w p a) (hb : ObsAt w q b) :
    Calls Try.prog 38 #[.slice p a.length cp, .slice q b.length cq, .func (.func 39) #[] #[]] w fun e w' => e = .returned (.bool (allB a b)) ∧ Below w.heap.size w w' := by
  unfold maxLen at hn
  by_cases hl : a.length = b.length
  · have hlb : ((a.length : Int) != (b.length : Int)) = false := by simp [hl]
    have HL := Lib.hid hl
    have HA := Lib.hid ha
    have HB := Lib.hid hb
    clear hl ha hb
    go_enter Try.func38, Try.ntmps38
    go_wp2_with fail
    go_loopw [17] (fun i wr => ∃ k : Nat, k ≤ a.length ∧ i = .int .i64 k ∧ allB a b = allB (a.drop k) (b.drop k) ∧ Below w.heap.size w wr) (fun i _ => a.length - (intOf i).toNat)
    case atStart => exact ⟨0, Nat.zero_le _, rfl, by simp, Below.refl _ _⟩
    case round =>
      obtain ⟨k, hk, rfl, hr, hbr⟩ := hrel
      have HR := Lib.hid hr; clear hr
      by_cases hlt : k < a.length
      · have hlt2 : k < b.length := by have := HL.out; omega
        have hki : (k : Int) < (a.length : Int) := by omega
        have hkj : (k : Int) < (b.length : Int) := by omega
        obtain ⟨b1, o1, rfl, hb1, hat1, hok1⟩ := (HA.out.below hbr) k hlt
        obtain ⟨b2, o2, rfl, hb2, hat2, hok2⟩ := (HB.out.below hbr) k hlt2
        have HT := Lib.hid (allB_step hlt hlt2)
        obtain ⟨x, hx⟩ : ∃ x, a[k] = x := ⟨_, rfl⟩
        obtain ⟨y, hy⟩ : ∃ y, b[k] = y := ⟨_, rfl⟩
        rw [hx] at hat1 hok1
        rw [hy] at hat2 hok2
        rw [hx, hy] at HT
        have hld1 := load_ob hat1 hok1.st
        have hs1 := Ob.size hok1.st
        have hs2 := Ob.size hok2.st
        have hone1 := Ob.one (o := x)
        have hone2 := Ob.one (o := y)
        obtain ⟨W1, hW1, hn1, hbW1⟩ := ob_laid wr x.cs
        obtain ⟨W2, hW2, hn2, hbW2⟩ := ob_laid W1 y.cs
        have hz1 := ob_zero wr
        have hz2 := ob_zero W1
        have hl1 : wr.heap.size < W1.heap.size := (Array.getElem?_eq_some_iff.1 hn1).1
        have hld2 := load_ob (hat2.below hbW1 hb2) hok2.st
        have hn1' : W2.heap[wr.heap.size]? = some (.cells x.cs 42 (0, 0)) := (hbW2.block _ hl1).trans hn1
        have hbW : Below wr.heap.size wr W2 := hbW1.trans (hbW2.mono hbW1.size)
        have HC := Lib.hid (VSame_any x y W2 (hok1.below hbW) (hok2.below hbW))
        have HBW := Lib.hid (hbr.trans (hbW.mono hbr.size))
        have hb2' : b2 < W1.heap.size := by omega
        obtain ⟨xc, hxc⟩ : ∃ c, x.cs = c := ⟨_, rfl⟩
        obtain ⟨yc, hyc⟩ : ∃ c, y.cs = c := ⟨_, rfl⟩
        rw [hxc] at hld1 hs1 hone1 hW1 hn1' HC
        rw [hyc] at hld2 hs2 hone2 hW2 hn2 HC
        have HI1 : Hid ((Try.prog.info? 42).map (·.size) = some xc.size) := Lib.hid (by rw [hs1]; exact infoOb)
        have HI2 : Hid ((Try.prog.info? 42).map (·.size) = some yc.size) := Lib.hid (by rw [hs2]; exact infoOb)
        have HS1 := Lib.hid hs1
        have HS2 := Lib.hid hs2
        have HW1 := Lib.hid hW1
        have HW2 := Lib.hid hW2
        clear hW1 hW2 hs1 hs2 hxc hyc hx hy hat1 hat2 hok1 hok2 hn1 hbW1 hbW2 hbW hbr
        cases hq : obB x y with
        | true =>
          rw [hq] at HC HT
          have HT2 := Lib.hid HT.out
          clear HT hq
          go_wp2_with (first
            | (refine wpList_load_at rfl 42 _ rfl ⟨b1, o1 + k * 38, none⟩ rfl (.agg xc) hld1 ?_)
            | (refine wpList_load_at rfl 42 _ rfl ⟨b2, o2 + k * 38, none⟩ rfl (.agg yc) hld2 ?_)
            | (refine wpList_store_row rfl 42 _ _ rfl wr.heap.size xc rfl rfl 42 _ hz1 HI1.out (by rw [HS1.out]; rfl) hone1 ?_; rw [HW1.out])
            | (refine wpList_store_row rfl 42 _ _ rfl W1.heap.size yc rfl rfl 42 _ hz2 HI2.out (by rw [HS2.out]; rfl) hone2 ?_; rw [HW2.out])
            | (refine wpList_load_row rfl 42 _ rfl wr.heap.size rfl 42 _ (0, 0) _ hn1' Try.underlying42 rfl HI1.out ?_)
            | (refine wpList_load_row rfl 42 _ rfl W1.heap.size rfl 42 _ (0, 0) _ hn2 Try.underlying42 rfl HI2.out ?_)
            | (go_at_call 39; refine HC.out.mono ?_; rintro e w3 ⟨rfl, hb3⟩))
          go_roundw
          case rel => exact ⟨k + 1, by omega, by go_num, by rw [HR.out, HT2.out, Bool.true_and], HBW.out.trans (hb3.mono HBW.out.size)⟩
          case measure => simp [intOf]; omega
        | false =>
          rw [hq] at HC HT
          have HT2 := Lib.hid HT.out
          clear HT hq
          go_wp2_with (first
            | (refine wpList_load_at rfl 42 _ rfl ⟨b1, o1 + k * 38, none⟩ rfl (.agg xc) hld1 ?_)
            | (refine wpList_load_at rfl 42 _ rfl ⟨b2, o2 + k * 38, none⟩ rfl (.agg yc) hld2 ?_)
            | (refine wpList_store_row rfl 42 _ _ rfl wr.heap.size xc rfl rfl 42 _ hz1 HI1.out (by rw [HS1.out]; rfl) hone1 ?_; rw [HW1.out])
            | (refine wpList_store_row rfl 42 _ _ rfl W1.heap.size yc rfl rfl 42 _ hz2 HI2.out (by rw [HS2.out]; rfl) hone2 ?_; rw [HW2.out])
            | (refine wpList_load_row rfl 42 _ rfl wr.heap.size rfl 42 _ (0, 0) _ hn1' Try.underlying42 rfl HI1.out ?_)
            | (refine wpList_load_row rfl 42 _ rfl W1.heap.size rfl 42 _ (0, 0) _ hn2 Try.underlying42 rfl HI2.out ?_)
            | (go_at_call 39; refine HC.out.mono ?_; rintro e w3 ⟨rfl, hb3⟩))
          go_ret
          exact ⟨ret_bool (by rw [HR.out, HT2.out, Bool.false_and]), HBW.out.trans (hb3.mono HBW.out.size)⟩
      · have hkk : ¬ (k : Int) < (a.length : Int) := by omega
        go_wp2
        go_ret
        exact ⟨ret_bool (by rw [HR.out, List.drop_of_length_le (by omega), List.drop_of_length_le (by have := HL.out; omega)]; rfl), hbr⟩
  · have hlb : ((a.length : Int) != (b.length : Int)) = true := by simp; omega
    have HN := Lib.hid (allB_len hl)
    clear hl ha hb
    go_enter Try.func38, Try.ntmps38
    go_wp2_with fail
    go_ret
    exact ⟨ret_bool HN.out.symm, Below.refl _ _⟩
end Go.Proofs.Ytonhdkldacghoaa
