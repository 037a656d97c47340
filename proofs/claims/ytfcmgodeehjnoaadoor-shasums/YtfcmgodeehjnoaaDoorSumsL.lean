/- ShaSums: the law's walk. -/
import Derived.Test.YtfcmgodeehjnoaaDoorLives
import Derived.Test.YtfcmgodeehjnoaaDoorRSumW
namespace Go.Proofs.YtfcmgodeehjnoaaDoor
open Go.RowKit Go.Sort
set_option maxRecDepth 100000 in
theorem ShaSums_any (s : ByteArray) (w : World) (hE : Env w) : Calls Tryd.prog 3 #[.string s] w fun e w' => e = .returned (.bool true) ∧ Below w.heap.size w w' := by
  have hLv := lives_any w hE
  by_cases hs : s.size ≤ 4000
  · have hi : ¬ (4000 : Int) < (s.size : Int) := by omega
    have HA := Lib.hid (fun W (h : Env W) => Sum_any s W h (by omega))
    have HR := Lib.hid (fun W => refSum_any s W (by omega))
    obtain ⟨X, hX⟩ : ∃ X, (⟨(sumN s.data.toList).toArray⟩ : ByteArray) = X := ⟨_, rfl⟩
    rw [hX] at HA HR
    clear hX
    go_enter Tryd.func3, Tryd.ntmps3
    go_wp2_with (first
      | (go_at_call 5; refine hLv.mono ?_; rintro e w1 ⟨rfl, hb1⟩; refine Hid.out ?_))
    refine Lib.hid ?_
    have HE1 := Lib.hid (hE.below hb1)
    have HB1 := Lib.hid hb1
    clear hb1 hLv
    go_wp2_with (first
      | (go_at_call 6; refine (HA.out _ HE1.out).mono ?_; rintro e w2 ⟨rfl, hb2⟩; refine Hid.out ?_))
    refine Lib.hid ?_
    have HB2 := Lib.hid (HB1.out.trans (hb2.mono HB1.out.size))
    clear hb2
    go_wp2_with (first
      | (go_at_call 7; refine (HR.out _).mono ?_; rintro e w3 ⟨rfl, hb3⟩; refine Hid.out ?_))
    refine Lib.hid ?_
    have HB3 := Lib.hid (HB2.out.trans (hb3.mono HB2.out.size))
    clear hb3
    go_wp2
    go_ret
    exact ⟨ret_bool (by simp), HB3.out⟩
  · have hi : (4000 : Int) < (s.size : Int) := by omega
    go_enter Tryd.func3, Tryd.ntmps3
    go_wp2_with (first
      | (go_at_call 5; refine hLv.mono ?_; rintro e w1 ⟨rfl, hb1⟩))
    go_ret
    exact ⟨rfl, hb1⟩
end Go.Proofs.YtfcmgodeehjnoaaDoor
