/- What may of layer 11's reference answers, for every dump and every free label. -/
import Derived.Test.YtonhdkldacghoaaPartsM
import Derived.Test.YtonhdkldacghoaaRLow
import Derived.Deep.Cut
import Derived.Deep.RegionLaw
import Derived.BigQuiet
namespace Go.Proofs.Ytonhdkldacghoaa
open Go.RowKit Go.Sort

theorem low_plain {l : Lab} {o : Ob} (h : plainS o.L.d o.L.xs = false) : lowB l o = false := by
  unfold lowB lowS telS; rw [h, Bool.and_false, Bool.false_and]
set_option maxRecDepth 100000 in
set_option maxHeartbeats 2000000 in
theorem may_any (d : List Ob) (p : Option Addr) (cap : Nat) (x : Int) (l : Lab) (w : World) (h : ObsAt w p d) (hm : d.length ≤ maxLen) (hl : CatsAt w l.p l.xs) (hf : freeS l.d l.xs = true) :
    Calls Try.prog 34 #[.slice p d.length cap, .int .i64 x, l.val] w fun e w' => e = .returned (.bool (lowX d l x)) ∧ Below w.heap.size w w' := by
  obtain ⟨W0, hW0⟩ : ∃ W0, w.alloc (.cells #[.int .i64 l.d, .slice l.p l.xs.length l.cap] 25) = W0 := ⟨_, rfl⟩
  have hB0 : Below w.heap.size w W0 := by rw [← hW0]; go_grown
  have hz : W0.heap.size = w.heap.size + 1 := by rw [← hW0]; simp
  have c0 : W0.cell? ⟨w.heap.size, 0, none⟩ = some (.int .i64 l.d) := by rw [← hW0]; simp [go_sem]
  have c1 : W0.cell? ⟨w.heap.size, 1, none⟩ = some (.slice l.p l.xs.length l.cap) := by rw [← hW0]; simp [go_sem]
  have hn0 : w.heap.size < W0.heap.size := by omega
  have hl0 := hl.below hB0
  have h0 := h.below hB0
  have HAt := Lib.hid (OAt_any W0 p cap d x h0 hm)
  have HB0 := Lib.hid hB0
  clear h hl hB0 hz
  unfold Lab.val
  go_enter Try.func34, Try.ntmps34
  cases hfa : firstAt d x with
  | none =>
    have hlx : lowX d l x = false := by unfold lowX; rw [firstAt_none.1 hfa]
    rw [atI_none hfa] at HAt
    have hm1 : decide ((-1 : Int) ≥ 0) = false := by decide
    have HLX := Lib.hid hlx
    clear hfa hlx
    go_upto_region 2 with (go_at_call 11; refine HAt.out.mono ?_; rintro e w' ⟨rfl, hw'⟩; rw [hw']; clear hw' w')
    refine wp_region_quiet_gx (by kernel_rfl) (by kernel_rfl) ?_
    repeat (go_big_quiet_step (fail))
    refine wpQuiet_nil ?_
    intro _ hw'
    obtain ⟨⟨nq, osq⟩, hw''⟩ := hw'
    have hbg : Below W0.heap.size W0 (gx W0 nq osq) := gx_below W0 nq osq
    rw [hw'']
    clear hw''
    go_wp2
    go_ret
    exact ⟨ret_bool HLX.out.symm, HB0.out.trans (hbg.mono HB0.out.size)⟩
  | some kx =>
    rw [atI_some hfa] at HAt
    obtain ⟨hkx, hlk, _⟩ := firstAt_lk hfa
    obtain ⟨b, off, rfl, hbl, hat, hok⟩ := h0 kx hkx
    have hkxi : (kx : Int) < (d.length : Int) := by omega
    have hkx0 : decide ((kx : Int) ≥ 0) = true := by simp
    have hlx := lowX_of (l := l) hlk
    obtain ⟨o, hoe⟩ : ∃ o, d[kx] = o := ⟨_, rfl⟩
    rw [hoe] at hok hat hlx
    have g1 : ∀ n os, (gx W0 n os).cell? ⟨w.heap.size, 0, none⟩ = some (.int .i64 l.d) := fun n os => cell_gx (a := ⟨w.heap.size, 0, none⟩) hn0 c0 n os
    have g2 : ∀ n os, (gx W0 n os).cell? ⟨w.heap.size, 1, none⟩ = some (.slice l.p l.xs.length l.cap) := fun n os => cell_gx (a := ⟨w.heap.size, 1, none⟩) hn0 c1 n os
    have g5 : ∀ n os, (gx W0 n os).cell? ⟨b, off + kx * 38 + 5, none⟩ = some (.int .i64 o.L.d) := fun n os => (hat.below (gx_below W0 n os) hbl) 5 _ (by rw [Ob.head _ _ (by decide)]; rfl)
    have g6 : ∀ n os, (gx W0 n os).cell? ⟨b, off + kx * 38 + 6, none⟩ = some (.slice o.L.p o.L.xs.length o.L.cap) := fun n os => (hat.below (gx_below W0 n os) hbl) 6 _ (by rw [Ob.head _ _ (by decide)]; rfl)
    have HLD : Hid (∀ w', (∃ q : GrownBy, w' = gx W0 q.n q.os) → (loadVar 42 ⟨b, off + kx * 38, none⟩).run Try.prog w' = .ok (.agg o.cs) w') := Lib.hid (fun w' ⟨q, hq⟩ => by subst hq; exact load_ob (hat.below (gx_below W0 q.n q.os) hbl) hok.st)
    have HPl : Hid (∀ n os, Calls Try.prog 15 #[.agg #[.int .i64 o.L.d, .slice o.L.p o.L.xs.length o.L.cap]] (gx W0 n os) fun e w'' => e = .returned (.bool (plainS o.L.d o.L.xs)) ∧ ∃ p : GrownBy, w'' = gx W0 p.n p.os) := Lib.hid (fun n os => calls_gx (refPlain_any o.L.d o.L.p o.L.cap o.L.xs (gx W0 n os) hok.Lm (hok.L.below (gx_below W0 n os))))
    by_cases hp : plainS o.L.d o.L.xs = true
    · have hlen : l.xs.length + o.L.xs.length ≤ 17592186044000 := by
        have h1 := (right_rise (free_right hf)).2.2.1
        have h2 := (right_rise (plain_right hp)).2.2.1
        omega
      have HLo : Hid (∀ n os, Calls Try.prog 21 #[.agg #[.int .i64 l.d, .slice l.p l.xs.length l.cap], .agg o.cs] (gx W0 n os) fun e w'' => e = .returned (.bool (lowX d l x)) ∧ ∃ p : GrownBy, w'' = gx W0 p.n p.os) := Lib.hid (fun n os => by
        rw [hlx]
        unfold lowB
        rw [low_ref hf hp]
        exact calls_gx (rLow_any l o _ (hl0.below (gx_below W0 n os)) (hok.below (gx_below W0 n os)) hlen))
      rw [hp] at HPl
      obtain ⟨ocs, hocs⟩ : ∃ c, o.cs = c := ⟨_, rfl⟩
      rw [hocs] at HLD HLo
      generalize lowX d l x = r at *
      clear hocs hok hat hlk hfa hoe hlx hlen hp hf c0 c1 hl0
      go_upto_region 2 with (go_at_call 11; refine HAt.out.mono ?_; rintro e w' ⟨rfl, hw'⟩; rw [hw']; clear hw' w')
      refine wp_region_quiet_gx (by kernel_rfl) (by kernel_rfl) ?_
      iterate 16 (go_big_quiet_step (first | (go_at_call 15; with_reducible exact HPl.out _ _)))
      go_big_quiet_want
      refine quiet_load_at 42 _ ⟨b, off + kx * 38, none⟩ (.agg ocs) rfl rfl HLD.out ?_
      go_simp
      go_big_quiet_on
      repeat (go_big_quiet_step (first | (go_at_call 21; with_reducible exact HLo.out _ _)))
      refine wpQuiet_nil ?_
      intro _ hw'
      obtain ⟨⟨nq, osq⟩, hw''⟩ := hw'
      have hbg : Below W0.heap.size W0 (gx W0 nq osq) := gx_below W0 nq osq
      rw [hw'']
      clear hw''
      go_wp2
      go_ret
      exact ⟨rfl, HB0.out.trans (hbg.mono HB0.out.size)⟩
    · have hp' : plainS o.L.d o.L.xs = false := by simpa using hp
      rw [low_plain hp'] at hlx
      rw [hp'] at HPl
      have HLX := Lib.hid hlx
      clear hok hat hlk hfa hoe hlx hp hp' hf c0 c1 hl0
      go_upto_region 2 with (go_at_call 11; refine HAt.out.mono ?_; rintro e w' ⟨rfl, hw'⟩; rw [hw']; clear hw' w')
      refine wp_region_quiet_gx (by kernel_rfl) (by kernel_rfl) ?_
      repeat (go_big_quiet_step (first | (go_at_call 15; with_reducible exact HPl.out _ _)))
      refine wpQuiet_nil ?_
      intro _ hw'
      obtain ⟨⟨nq, osq⟩, hw''⟩ := hw'
      have hbg : Below W0.heap.size W0 (gx W0 nq osq) := gx_below W0 nq osq
      rw [hw'']
      clear hw''
      go_wp2
      go_ret
      exact ⟨ret_bool HLX.out.symm, HB0.out.trans (hbg.mono HB0.out.size)⟩
end Go.Proofs.Ytonhdkldacghoaa
