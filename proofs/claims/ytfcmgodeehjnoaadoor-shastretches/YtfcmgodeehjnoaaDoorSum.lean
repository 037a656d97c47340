/- The sum of what was taken; the sum of some texts, one behind the other. -/
import Derived.Test.YtfcmgodeehjnoaaDoorAdd
namespace Go.Proofs.YtfcmgodeehjnoaaDoor
open Go.RowKit Go.Sort
theorem Add_env (g : Nat) (l : List UInt8) (S : ByteArray) (w : World) (hE : Env w) (h : HAt w g l) (hg : 2 ≤ g) (hs : l.length + S.size ≤ 1000000000) :
    Calls Tryd.prog 19 #[.pointer (some ⟨g, 0, none⟩), .string S] w fun e w' => e = .returned (.tuple #[]) ∧ Oth g w w' ∧ HAt w' g (l ++ S.data.toList) :=
  Add_any g l S w hE.roots h (by omega) (by have := hE.big; omega) hs
theorem end_len (n : Nat) : (endL n).length ≤ 80 := by
  unfold endL bytes8 bytes4
  simp only [List.length_append, List.length_cons, List.length_replicate, List.length_nil]
  omega
theorem sum_end (l : List UInt8) : outN (goneN (l ++ endL l.length)) = sumN l := by
  rw [gone_app, sum_gone]; rfl
set_option maxRecDepth 100000 in
set_option maxHeartbeats 1000000 in
theorem HSum_any (g : Nat) (l : List UInt8) (w : World) (hE : Env w) (h : HAt w g l) (hl : l.length ≤ 8000) :
    Calls Tryd.prog 20 #[.pointer (some ⟨g, 0, none⟩)] w fun e w' => e = .returned (.string ⟨(sumN l).toArray⟩) ∧ Below w.heap.size w w' := by
  have hC := Copy_any g l w h
  have HEn := Lib.hid (fun W => ending_any l.length W hl)
  have HA := Lib.hid (fun W (h1 : Env W) (h2 : HAt W w.heap.size l) => Add_env w.heap.size l ⟨(endL l.length).toArray⟩ W h1 h2 hE.big (by have := end_len l.length; show l.length + (endL l.length).toArray.size ≤ _; rw [List.size_toArray]; omega))
  have HB := Lib.hid (fun W (h2 : HAt W w.heap.size (l ++ (⟨(endL l.length).toArray⟩ : ByteArray).data.toList)) => bytes_any w.heap.size _ _ W h2)
  have hsum := sum_end l
  rw [show (⟨(endL l.length).toArray⟩ : ByteArray).data.toList = endL l.length from rfl] at HA HB
  rw [hsum] at HB
  have HE := Lib.hid hE
  have c72 := hash_n h
  have hg := h.lt
  clear h hsum hE
  go_enter Tryd.func20, Tryd.ntmps20
  go_wp2_with (first
    | (go_at_call 24; refine hC.mono ?_; rintro e w1 ⟨rfl, hb1, hA1⟩; refine Hid.out ?_))
  refine Lib.hid ?_
  have c72' : w1.cell? ⟨g, 72, none⟩ = some (.int .i64 (l.length : Int)) := (hb1.cell (p := ⟨g, 72, none⟩) hg).trans c72
  have HE1 := Lib.hid (HE.out.below hb1)
  have HA1 := Lib.hid hA1
  have Hb1 := Lib.hid hb1
  have Hlt := Lib.hid hA1.lt
  clear c72 hC hA1 hb1
  go_wp2_with (first
    | (go_at_call 25; refine (HEn.out _).mono ?_; rintro e w2 ⟨rfl, hb2⟩; refine Hid.out ?_))
  refine Lib.hid ?_
  have HE2 := Lib.hid (HE1.out.below hb2)
  have HA2 : Hid (HAt w2 w.heap.size l) := Lib.hid (At.below HA1.out hb2 Hlt.out)
  have Hb2 := Lib.hid (Hb1.out.trans (hb2.mono Hb1.out.size))
  clear hb2 c72'
  go_wp2_with (first
    | (go_at_call 19; refine (HA.out _ HE2.out HA2.out).mono ?_; rintro e w3 ⟨rfl, ho3, hA3⟩; refine Hid.out ?_))
  refine Lib.hid ?_
  have HB3 := Lib.hid (HB.out _ hA3)
  have Hb3 := Lib.hid (ho3.below Hb2.out (Nat.le_refl _) (Nat.le_refl _))
  clear hA3 ho3
  go_wp2_with (first
    | (go_at_call 26; refine HB3.out.mono ?_; rintro e w4 ⟨rfl, hb4⟩))
  go_ret
  exact ⟨rfl, Hb3.out.trans (hb4.mono Hb3.out.size)⟩
/-- Texts as cells. -/
def T (xs : List ByteArray) : List Value := xs.map .string
def catB (xs : List ByteArray) : List UInt8 := xs.flatMap (·.data.toList)
theorem T_len (xs : List ByteArray) : (T xs).length = xs.length := by simp [T]
theorem cat_take (xs : List ByteArray) (k : Nat) (h : k < xs.length) : catB (xs.take (k + 1)) = catB (xs.take k) ++ xs[k].data.toList := by
  unfold catB; rw [List.take_succ_eq_append_getElem h, List.flatMap_append]; simp
theorem cat_le (xs : List ByteArray) (k : Nat) : (catB (xs.take k)).length ≤ (catB xs).length := by
  have h : catB xs = catB (xs.take k) ++ catB (xs.drop k) := by unfold catB; rw [← List.flatMap_append, List.take_append_drop]
  rw [h, List.length_append]; omega
set_option maxRecDepth 100000 in
set_option maxHeartbeats 1000000 in
theorem sumOf_any (b cap : Nat) (xs : List ByteArray) (w : World) (hE : Env w) (h : At w b 0 (T xs)) (hx : 0 < xs.length) (hx2 : xs.length ≤ 100) (hl : (catB xs).length ≤ 8000) :
    Calls Tryd.prog 12 #[.slice (some ⟨b, 0, none⟩) xs.length cap] w fun e w' => e = .returned (.string ⟨(sumN (catB xs)).toArray⟩) ∧ Below w.heap.size w w' := by
  have hb : b < w.heap.size := h.lt (by rw [T_len]; exact hx)
  have hN := New_any w
  have HA := Lib.hid (fun l S W (h1 : Env W) (h2 : HAt W w.heap.size l) => Add_env w.heap.size l S W h1 h2 hE.big)
  have HS := Lib.hid (fun W (h1 : Env W) (h2 : HAt W w.heap.size (catB xs)) => HSum_any w.heap.size (catB xs) W h1 h2 hl)
  have HE := Lib.hid hE
  have HH := Lib.hid h
  clear h hE
  go_enter Tryd.func12, Tryd.ntmps12
  go_wp2_with (first
    | (go_at_call 10; refine hN.mono ?_; rintro e w1 ⟨rfl, hb1, hA1⟩; refine Hid.out ?_))
  refine Lib.hid ?_
  have HE1 := Lib.hid (HE.out.below hb1)
  have HH1 := Lib.hid (HH.out.below hb1 hb)
  have Hb1 := Lib.hid hb1
  have hbn : b ≠ w.heap.size := by omega
  clear hN hb1
  go_wp2_with fail
  go_loopw [9] (fun v wr => ∃ k : Nat, v = .int .i64 k ∧ k ≤ xs.length ∧ HAt wr w.heap.size (catB (xs.take k)) ∧ Oth w.heap.size w1 wr) (fun v _ => (xs.length - intOf v).toNat)
  case atStart => exact ⟨0, rfl, by omega, hA1, Oth.refl _ _⟩
  case round =>
    obtain ⟨k, rfl, hk, hA, hO⟩ := hrel
    clear hA1
    by_cases hlt : k < xs.length
    · have hki : (k : Int) < (xs.length : Int) := by omega
      have hct := cat_take xs k hlt
      have hcl := cat_le xs (k + 1)
      have hH := HH1.out.oth hO hbn (by rw [T_len]; exact hx)
      have ck : wr.cell? ⟨b, k, none⟩ = some (.string xs[k]) := by
        have := hH.cell (j := k) (v := .string xs[k]) (by unfold T; rw [List.getElem?_map, List.getElem?_eq_getElem hlt]; rfl)
        rw [Nat.zero_add] at this; exact this
      have hE2 := HE1.out.oth hO HE.out.big
      have HC := Lib.hid (HA.out (catB (xs.take k)) xs[k] wr hE2 hA (by
        have e : (catB (xs.take (k + 1))).length = (catB (xs.take k)).length + xs[k].size := by rw [hct, List.length_append]; simp
        omega))
      rw [← hct] at HC
      obtain ⟨s, hs⟩ : ∃ s, xs[k] = s := ⟨_, rfl⟩
      rw [hs] at HC ck
      have HO := Lib.hid hO
      clear hct hcl hH hE2 hs hA hO
      go_wp2_with (first
        | (go_at_call 19; refine HC.out.mono ?_; rintro e w3 ⟨rfl, ho3, hA3⟩))
      exact ⟨⟨k + 1, by go_num, by omega, hA3, HO.out.trans ho3⟩, by simp [intOf]; omega⟩
    · obtain rfl : k = xs.length := by omega
      have hki : ¬ (xs.length : Int) < (xs.length : Int) := by omega
      rw [List.take_of_length_le (Nat.le_refl _)] at hA
      have HS2 := Lib.hid (HS.out wr (HE1.out.oth hO HE.out.big) hA)
      have Hb2 := Lib.hid (hO.below Hb1.out (Nat.le_refl _) (Nat.le_refl _))
      clear hA hO
      go_wp2_with (first
        | (go_at_call 20; refine HS2.out.mono ?_; rintro e w4 ⟨rfl, hb4⟩))
      go_ret
      exact ⟨rfl, Hb2.out.trans (hb4.mono Hb2.out.size)⟩
end Go.Proofs.YtfcmgodeehjnoaaDoor
