/- ViewSame: what Same of package view and all of the statements' package answer; the law's walk. -/
import Derived.Test.YtonhdkldacghoaaEqF
import Derived.Test.YtonhdkldacghoaaAllL
import Derived.Test.YtonhdkldacghoaaLivesW
namespace Go.Proofs.Ytonhdkldacghoaa
open Go.RowKit Go.Sort Go.Shelf

set_option maxRecDepth 100000 in
set_option maxHeartbeats 1000000 in
theorem VRow_any (p q : Option Addr) (cp cq : Nat) (a b : List Ob) (w : World) (hn : a.length ≤ maxLen) (ha : ObsAt w p a) (hb : ObsAt w q b) :
    Calls Try.prog 24 #[.slice p a.length cp, .slice q b.length cq] w fun e w' => e = .returned (.bool (allB a b)) ∧ Below w.heap.size w w' := by
  have HC := Lib.hid (EqF_any p q cp cq a b w hn ha hb)
  clear ha hb
  go_enter Try.func24, Try.ntmps24
  go_wp2_with (go_at_call 38; refine HC.out.mono ?_; rintro e w2 ⟨rfl, hb2⟩)
  go_ret
  exact ⟨rfl, hb2⟩
set_option maxRecDepth 100000 in
set_option maxHeartbeats 2000000 in
theorem ViewSame_any (p q : Option Addr) (cp cq : Nat) (a b : List Ob) (w : World) (hn : a.length ≤ maxLen) (ha : ObsAt w p a) (hb : ObsAt w q b) :
    Calls Try.prog 6 #[.slice p a.length cp, .slice q b.length cq] w fun e w' => e = .returned (.bool true) ∧ Below w.heap.size w w' := by
  have HL := Lib.hid (lives_any w)
  have HV := Lib.hid (fun X (hX : Below w.heap.size w X) => VRow_any p q cp cq a b X hn (ha.below hX) (hb.below hX))
  have HA := Lib.hid (fun X (hX : Below w.heap.size w X) => all_any p q cp cq a b X hn (ha.below hX) (hb.below hX))
  have HR := Lib.hid (fun X (hX : Below w.heap.size w X) => VRow_any p p cp cp a a X hn (ha.below hX) (ha.below hX))
  rw [allB_refl] at HR
  obtain ⟨r, hr⟩ : ∃ r, allB a b = r := ⟨_, rfl⟩
  rw [hr] at HV HA
  have hrr : (r == r) = true := by simp
  clear ha hb hr
  go_enter Try.func6, Try.ntmps6
  go_wp2_with (go_at_call 8; refine HL.out.mono ?_; rintro e w1 ⟨rfl, hb1⟩; refine Hid.out ?_)
  refine Lib.hid ?_
  have HC := Lib.hid (HV.out _ hb1)
  go_wp2_with (go_at_call 24; refine HC.out.mono ?_; rintro e w2 ⟨rfl, hb2⟩; refine Hid.out ?_)
  refine Lib.hid ?_
  have hB2 : Below w.heap.size w w2 := hb1.trans (hb2.mono hb1.size)
  have HD := Lib.hid (HA.out _ hB2)
  clear HC hb2 hb1
  go_wp2_with (go_at_call 19; refine HD.out.mono ?_; rintro e w3 ⟨rfl, hb3⟩; refine Hid.out ?_)
  refine Lib.hid ?_
  have hB3 : Below w.heap.size w w3 := hB2.trans (hb3.mono hB2.size)
  have HE := Lib.hid (HR.out _ hB3)
  clear HD hb3 hB2
  go_wp2_with (go_at_call 24; refine HE.out.mono ?_; rintro e w4 ⟨rfl, hb4⟩)
  go_ret
  exact ⟨rfl, hB3.trans (hb4.mono hB3.size)⟩
end Go.Proofs.Ytonhdkldacghoaa
