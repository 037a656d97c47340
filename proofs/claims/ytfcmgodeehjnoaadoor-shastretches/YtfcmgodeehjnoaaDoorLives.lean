/- The chapter's example answers as it should. -/
import Derived.Test.YtfcmgodeehjnoaaDoorSum
import Derived.Test.YtfcmgodeehjnoaaDoorHex2
namespace Go.Proofs.YtfcmgodeehjnoaaDoor
open Go.RowKit Go.Sort
set_option maxRecDepth 100000 in
set_option maxHeartbeats 1000000 in
theorem Sum_any (s : ByteArray) (w : World) (hE : Env w) (hs : s.size ≤ 8000) : Calls Tryd.prog 6 #[.string s] w fun e w' => e = .returned (.string ⟨(sumN s.data.toList).toArray⟩) ∧ Below w.heap.size w w' := by
  obtain ⟨W, hW, hb, hA, hz⟩ := one_new w #[.string s] 9
  have hc : catB [s] = s.data.toList := by simp [catB]
  have hS := sumOf_any w.heap.size 1 [s] W (hE.below hb) hA (by simp) (by simp) (by rw [hc]; simpa using hs)
  rw [hc] at hS
  clear hA hz
  go_enter Tryd.func6, Tryd.ntmps6
  go_wp2_with (go_at_call 12; refine hS.mono ?_; rintro e w1 ⟨rfl, hb1⟩)
  go_ret
  exact ⟨rfl, hb.trans (hb1.mono hb.size)⟩
def abcS : ByteArray := ⟨#[97, 98, 99]⟩
def abcHex : ByteArray := ⟨#[98, 97, 55, 56, 49, 54, 98, 102, 56, 102, 48, 49, 99, 102, 101, 97, 52, 49, 52, 49, 52, 48, 100, 101, 53, 100, 97, 101, 50, 50, 50, 51, 98, 48, 48, 51, 54, 49, 97, 51, 57, 54, 49, 55, 55, 97, 57, 99, 98, 52, 49, 48, 102, 102, 54, 49, 102, 50, 48, 48, 49, 53, 97, 100]⟩
theorem abc_hex : (⟨(hexN (sumN abcS.data.toList)).toArray⟩ : ByteArray) = abcHex := by
  rw [show abcS.data.toList = [97, 98, 99] from rfl, sum_abc]; rfl
set_option maxRecDepth 100000 in
set_option maxHeartbeats 1000000 in
theorem lives_any (w : World) (hE : Env w) : Calls Tryd.prog 5 #[] w fun e w' => e = .returned (.bool true) ∧ Below w.heap.size w w' := by
  have hN := New_any w
  have HS := Lib.hid (fun W (h : Env W) => Sum_any abcS W h (by decide))
  have HH := Lib.hid (fun W => Hex_any ⟨(sumN abcS.data.toList).toArray⟩ W (by
    show (sumN abcS.data.toList).toArray.size ≤ _
    rw [show abcS.data.toList = [97, 98, 99] from rfl, sum_abc]; decide))
  rw [show (⟨(sumN abcS.data.toList).toArray⟩ : ByteArray).data.toList = sumN abcS.data.toList from rfl, abc_hex] at HH
  obtain ⟨X, hX⟩ : ∃ X, sumN abcS.data.toList = X := ⟨_, rfl⟩
  rw [hX] at HS HH
  clear hX
  have HE := Lib.hid hE
  clear hE
  go_enter Tryd.func5, Tryd.ntmps5
  go_wp2_with (first
    | (go_at_call 10; refine hN.mono ?_; rintro e w1 ⟨rfl, hb1, -⟩; refine Hid.out ?_))
  refine Lib.hid ?_
  have HE1 := Lib.hid (HE.out.below hb1)
  have HB1 := Lib.hid hb1
  clear hb1 hN
  go_wp2_with (first
    | (go_at_call 6; refine (HS.out _ HE1.out).mono ?_; rintro e w2 ⟨rfl, hb2⟩; refine Hid.out ?_))
  refine Lib.hid ?_
  have HB2 := Lib.hid (HB1.out.trans (hb2.mono HB1.out.size))
  clear hb2
  go_wp2_with (first
    | (go_at_call 11; refine (HH.out _).mono ?_; rintro e w3 ⟨rfl, hb3⟩; refine Hid.out ?_))
  refine Lib.hid ?_
  have HB3 := Lib.hid (HB2.out.trans (hb3.mono HB2.out.size))
  clear hb3
  go_wp2
  go_ret
  exact ⟨ret_bool (by rw [tlE]; rfl), HB3.out⟩
end Go.Proofs.YtfcmgodeehjnoaaDoor
