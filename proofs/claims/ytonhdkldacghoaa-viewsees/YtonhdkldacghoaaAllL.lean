/- What all of the statements' package answers, for every two rows of objects. -/
import Derived.Test.YtonhdkldacghoaaRSame
import Derived.Test.YtonhdkldacghoaaPrt0
import Derived.Test.YtonhdkldacghoaaAllB
import Derived.Deep.Cut
import Derived.Deep.RegionLaw
import Derived.BigQuiet
namespace Go.Proofs.Ytonhdkldacghoaa
open Go.RowKit Go.Sort

set_option maxRecDepth 100000 in
set_option maxHeartbeats 2000000 in
theorem all_any (p q : Option Addr) (cp cq : Nat) (a b : List Ob) (w : World) (hn : a.length ≤ maxLen) (ha : ObsAt w p a) (hb : ObsAt w q b) :
    Calls Try.prog 19 #[.slice p a.length cp, .slice q b.length cq] w fun e w' => e = .returned (.bool (allB a b)) ∧ Below w.heap.size w w' := by
  unfold maxLen at hn
  by_cases hl : a.length = b.length
  · have hlb : ((a.length : Int) != (b.length : Int)) = false := by simp [hl]
    have HL := Lib.hid hl
    have HA := Lib.hid ha
    have HB := Lib.hid hb
    clear hl ha hb
    go_enter Try.func19, Try.ntmps19
    go_wp2_with fail
    go_loopw [13] (fun i wr => ∃ k : Nat, k ≤ a.length ∧ i = .int .i64 k ∧ allB a b = allB (a.drop k) (b.drop k) ∧ Below w.heap.size w wr) (fun i _ => a.length - (intOf i).toNat)
    case atStart => exact ⟨0, Nat.zero_le _, rfl, by simp, Below.refl _ _⟩
    case round =>
      obtain ⟨k, hk, rfl, hr, hbr⟩ := hrel
      have HR := Lib.hid hr; clear hr
      by_cases hlt : k < a.length
      · have hlt2 : k < b.length := by have := HL.out; omega
        have hki : (k : Int) < (a.length : Int) := by omega
        have hkj : (k : Int) < (b.length : Int) := by omega
        obtain ⟨b1, o1, rfl, hb1, hat1, hok1⟩ := (HA.out.below hbr) k hlt
        obtain ⟨b2, o2, rfl, hb2, hat2, hok2⟩ := (HB.out.below hbr) k hlt2
        have HT := Lib.hid (allB_step hlt hlt2)
        obtain ⟨x, hx⟩ : ∃ x, a[k] = x := ⟨_, rfl⟩
        obtain ⟨y, hy⟩ : ∃ y, b[k] = y := ⟨_, rfl⟩
        rw [hx] at hat1 hok1
        rw [hy] at hat2 hok2
        rw [hx, hy] at HT
        have HL1 : Hid (∀ w', (∃ q : GrownBy, w' = gx wr q.n q.os) → (loadVar 42 ⟨b1, o1 + k * 38, none⟩).run Try.prog w' = .ok (.agg x.cs) w') := Lib.hid (fun w' ⟨q, hq⟩ => by subst hq; exact load_ob (hat1.below (gx_below wr q.n q.os) hb1) hok1.st)
        have HL2 : Hid (∀ w', (∃ q : GrownBy, w' = gx wr q.n q.os) → (loadVar 42 ⟨b2, o2 + k * 38, none⟩).run Try.prog w' = .ok (.agg y.cs) w') := Lib.hid (fun w' ⟨q, hq⟩ => by subst hq; exact load_ob (hat2.below (gx_below wr q.n q.os) hb2) hok2.st)
        have HC : Hid (∀ n os, Calls Try.prog 26 #[.agg x.cs, .agg y.cs] (gx wr n os) fun e w'' => e = .returned (.bool (obB x y)) ∧ ∃ p : GrownBy, w'' = gx wr p.n p.os) := Lib.hid (fun n os => calls_gx (RSame_any x y (gx wr n os) (hok1.below (gx_below wr n os)) (hok2.below (gx_below wr n os))))
        obtain ⟨xc, hxc⟩ : ∃ c, x.cs = c := ⟨_, rfl⟩
        obtain ⟨yc, hyc⟩ : ∃ c, y.cs = c := ⟨_, rfl⟩
        rw [hxc] at HL1 HC
        rw [hyc] at HL2 HC
        have HBr := Lib.hid hbr
        clear hxc hyc hx hy hat1 hat2 hok1 hok2 hbr
        cases hq : obB x y with
        | true =>
          rw [hq] at HC HT
          have HT2 := Lib.hid HT.out
          clear HT hq
          go_upto_region 6 with fail
          refine wp_region_quiet_gx (by kernel_rfl) (by kernel_rfl) ?_
          iterate 3 (go_big_quiet_step (fail))
          go_big_quiet_want
          refine quiet_load_at 42 _ ⟨b1, o1 + k * 38, none⟩ (.agg xc) rfl rfl HL1.out ?_
          go_simp
          go_big_quiet_on
          iterate 3 (go_big_quiet_step (fail))
          go_big_quiet_want
          refine quiet_load_at 42 _ ⟨b2, o2 + k * 38, none⟩ (.agg yc) rfl rfl HL2.out ?_
          go_simp
          go_big_quiet_on
          repeat (go_big_quiet_step (first | (go_at_call 26; with_reducible exact HC.out _ _)))
          refine wpQuiet_nil ?_
          intro _ hw'
          obtain ⟨⟨nq, osq⟩, hw''⟩ := hw'
          have hbg : Below wr.heap.size wr (gx wr nq osq) := gx_below wr nq osq
          rw [hw'']
          clear hw''
          go_wp2
          go_roundw
          case rel => exact ⟨k + 1, by omega, by go_num, by rw [HR.out, HT2.out, Bool.true_and], HBr.out.trans (hbg.mono HBr.out.size)⟩
          case measure => simp [intOf]; omega
        | false =>
          rw [hq] at HC HT
          have HT2 := Lib.hid HT.out
          clear HT hq
          go_upto_region 6 with fail
          refine wp_region_quiet_gx (by kernel_rfl) (by kernel_rfl) ?_
          iterate 3 (go_big_quiet_step (fail))
          go_big_quiet_want
          refine quiet_load_at 42 _ ⟨b1, o1 + k * 38, none⟩ (.agg xc) rfl rfl HL1.out ?_
          go_simp
          go_big_quiet_on
          iterate 3 (go_big_quiet_step (fail))
          go_big_quiet_want
          refine quiet_load_at 42 _ ⟨b2, o2 + k * 38, none⟩ (.agg yc) rfl rfl HL2.out ?_
          go_simp
          go_big_quiet_on
          repeat (go_big_quiet_step (first | (go_at_call 26; with_reducible exact HC.out _ _)))
          refine wpQuiet_nil ?_
          intro _ hw'
          obtain ⟨⟨nq, osq⟩, hw''⟩ := hw'
          have hbg : Below wr.heap.size wr (gx wr nq osq) := gx_below wr nq osq
          rw [hw'']
          clear hw''
          go_wp2
          go_ret
          exact ⟨ret_bool (by rw [HR.out, HT2.out, Bool.false_and]), HBr.out.trans (hbg.mono HBr.out.size)⟩
      · have hkk : ¬ (k : Int) < (a.length : Int) := by omega
        go_wp2
        go_ret
        exact ⟨ret_bool (by rw [HR.out, List.drop_of_length_le (by omega), List.drop_of_length_le (by have := HL.out; omega)]; rfl), hbr⟩
  · have hlb : ((a.length : Int) != (b.length : Int)) = true := by simp; omega
    have HN := Lib.hid (allB_len hl)
    clear hl ha hb
    go_enter Try.func19, Try.ntmps19
    go_wp2_with fail
    go_ret
    exact ⟨ret_bool HN.out.symm, Below.refl _ _⟩
end Go.Proofs.Ytonhdkldacghoaa
