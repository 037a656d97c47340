/- What Decode of package isa answers, for every string. -/
import Derived.Test.YtgldkmabhmlijaaDoorEncode
import Derived.Test.YtgldkmabhmlijaaDoorUnpack
namespace Go.Proofs.YtgldkmabhmlijaaDoor
open Go.RowKit Go.Sort
/-- The instruction of four bytes, if there is one. -/
def decC (s : ByteArray) : Option Cod := if s.size = 4 ∧ rightI (unC s) = true ∧ q4s (bytesC (unC s)) = s then some (unC s) else none
def c0 : Cod := ⟨0, 0, 0, 0, 0⟩
def decE (o : Option Cod) : Int := if o.isSome then 0 else 12
theorem str_inj {a b : ByteArray} (h : a.toList = b.toList) : a = b := by
  rw [ByteArray.toList_eq, ByteArray.toList_eq] at h
  exact ByteArray.ext (Array.toList_inj.1 h)
set_option maxRecDepth 100000 in
set_option maxHeartbeats 4000000 in
theorem Decode_any (s : ByteArray) (w : World) : Calls Tryd.prog 11 #[.string s] w fun e w' => e = .returned (.tuple #[((decC s).getD c0).v, .int .i64 (decE (decC s))]) ∧ Below w.heap.size w w' := by
  by_cases h4 : s.size = 4
  · have h4i : ((s.size : Int) != 4) = false := by simp; omega
    have HU := Lib.hid (fun W => unpack_any s W h4)
    have HD0 : Hid (decC s = if rightI (unC s) = true ∧ q4s (bytesC (unC s)) = s then some (unC s) else none) := by simp only [Hid, decC, h4, true_and]
    obtain ⟨c, hc⟩ : ∃ c, c = unC s := ⟨_, rfl⟩
    rw [← hc] at HU HD0
    clear hc
    have HP := Lib.hid (pack_any c)
    have hok := bytesC_ok c
    obtain ⟨q, hq⟩ : ∃ q, q = bytesC c := ⟨_, rfl⟩
    rw [← hq] at HP hok HD0
    clear hq
    have hv : c.v = .agg #[.int .i64 c.op, .int .i64 c.a, .int .i64 c.b, .int .i64 c.c, .int .i64 c.n] := rfl
    have HR := Lib.hid (Right_any c)
    rw [hv] at HU HP HR
    by_cases hr : rightI c = true
    · rw [hr] at HR
      by_cases hs : q4s q = s
      · have HD : Hid (decC s = some c) := by simp only [Hid]; rw [HD0.out, if_pos ⟨hr, hs⟩]
        have hne : ((q4s q).toList == s.toList) = true := by simp [hs]
        clear hv hr HD0 hs
        go_enter Tryd.func11, Tryd.ntmps11
        go_wp2_with (first | (go_at_call 22; refine (HU.out _).mono ?_; rintro e w1 ⟨rfl, hb1⟩; refine Hid.out ?_))
        refine Lib.hid ?_
        go_wp2_with (first | (go_at_call 13; refine (HP.out _).mono ?_; rintro e w2 ⟨rfl, hb2⟩; refine Hid.out ?_))
        refine Lib.hid ?_
        unfold qv
        have hB1 : Below w.heap.size w w1 := ((Below.refl _ w).alloc (Nat.le_refl _) _).trans (hb1.mono (by simp))
        have hz1 : w.heap.size + 1 ≤ w1.heap.size := by have := hb1.size; simpa using this
        have hb12 : Below w1.heap.size w1 w2 := ((Below.refl _ w1).alloc (Nat.le_refl _) _).trans (hb2.mono (by simp))
        have hz2 : w1.heap.size + 1 ≤ w2.heap.size := by have := hb2.size; simpa using this
        have z1 : At5 w1 w.heap.size c0 := (At5.new w c0 _).below hb1 (by simp)
        have x2 : At5 w2 w1.heap.size c := (At5.new w1 c _).below hb2 (by simp)
        have hA2 : Below w2.heap.size w2 (w2.alloc (.cells #[.int .u8 q.1, .int .u8 q.2.1, .int .u8 q.2.2.1, .int .u8 q.2.2.2] 42)) := (Below.refl _ _).alloc (Nat.le_refl _) _
        have x3 : At5 (w2.alloc (.cells #[.int .u8 q.1, .int .u8 q.2.1, .int .u8 q.2.2.1, .int .u8 q.2.2.2] 42)) w1.heap.size c := x2.below hA2 (by omega)
        obtain ⟨xl, ⟨a0, a1, a2, a3, a4⟩, xf⟩ := x3
        go_wp2_with (first | (go_at_call 12; refine (HR.out _).mono ?_; rintro e w3 ⟨rfl, hb3⟩; refine Hid.out ?_))
        refine Lib.hid ?_
        have hcv := conv4 q w3 w2.heap.size hok ((At4.new w2 q _).below hb3 (by simp))
        have hb23 : Below w2.heap.size w2 w3 := hA2.trans (hb3.mono (by simp))
        have hb13 : Below w1.heap.size w1 w3 := hb12.trans (hb23.mono (by omega))
        have hB3 : Below w.heap.size w w3 := hB1.trans (hb13.mono (by omega))
        obtain ⟨zl, ⟨e0, e1, e2, e3, e4⟩, ef⟩ := z1.below hb13 (by omega)
        obtain ⟨yl, ⟨f0, f1, f2, f3, f4⟩, yf⟩ := x2.below hb23 (by omega)
        clear x2 z1 hb23 hb13 hb12
        go_wp2
        refine bodyPost_ret (v := .tuple #[c.v, .int .i64 0]) (by simp [results, Tryd.results11, go_sem, Cod.v, e0, e1, e2, e3, e4]) rfl ⟨by rw [HD.out]; rfl, ?_⟩
        exact hB3.trans (set5_below (n := w.heap.size) _ (Nat.le_refl _))
      · have HD : Hid (decC s = none) := by simp only [Hid]; rw [HD0.out, if_neg (fun h => hs h.2)]
        have hne : ((q4s q).toList == s.toList) = false := beq_eq_false_iff_ne.2 (fun h => hs (str_inj h))
        clear hv hr HD0 hs
        go_enter Tryd.func11, Tryd.ntmps11
        go_wp2_with (first | (go_at_call 22; refine (HU.out _).mono ?_; rintro e w1 ⟨rfl, hb1⟩; refine Hid.out ?_))
        refine Lib.hid ?_
        go_wp2_with (first | (go_at_call 13; refine (HP.out _).mono ?_; rintro e w2 ⟨rfl, hb2⟩; refine Hid.out ?_))
        refine Lib.hid ?_
        unfold qv
        have hB1 : Below w.heap.size w w1 := ((Below.refl _ w).alloc (Nat.le_refl _) _).trans (hb1.mono (by simp))
        have hz1 : w.heap.size + 1 ≤ w1.heap.size := by have := hb1.size; simpa using this
        have hb12 : Below w1.heap.size w1 w2 := ((Below.refl _ w1).alloc (Nat.le_refl _) _).trans (hb2.mono (by simp))
        have hz2 : w1.heap.size + 1 ≤ w2.heap.size := by have := hb2.size; simpa using this
        have z1 : At5 w1 w.heap.size c0 := (At5.new w c0 _).below hb1 (by simp)
        have x2 : At5 w2 w1.heap.size c := (At5.new w1 c _).below hb2 (by simp)
        have hA2 : Below w2.heap.size w2 (w2.alloc (.cells #[.int .u8 q.1, .int .u8 q.2.1, .int .u8 q.2.2.1, .int .u8 q.2.2.2] 42)) := (Below.refl _ _).alloc (Nat.le_refl _) _
        have x3 : At5 (w2.alloc (.cells #[.int .u8 q.1, .int .u8 q.2.1, .int .u8 q.2.2.1, .int .u8 q.2.2.2] 42)) w1.heap.size c := x2.below hA2 (by omega)
        obtain ⟨xl, ⟨a0, a1, a2, a3, a4⟩, xf⟩ := x3
        go_wp2_with (first | (go_at_call 12; refine (HR.out _).mono ?_; rintro e w3 ⟨rfl, hb3⟩; refine Hid.out ?_))
        refine Lib.hid ?_
        have hcv := conv4 q w3 w2.heap.size hok ((At4.new w2 q _).below hb3 (by simp))
        have hb23 : Below w2.heap.size w2 w3 := hA2.trans (hb3.mono (by simp))
        have hb13 : Below w1.heap.size w1 w3 := hb12.trans (hb23.mono (by omega))
        have hB3 : Below w.heap.size w w3 := hB1.trans (hb13.mono (by omega))
        obtain ⟨zl, ⟨e0, e1, e2, e3, e4⟩, ef⟩ := z1.below hb13 (by omega)
        obtain ⟨yl, ⟨f0, f1, f2, f3, f4⟩, yf⟩ := x2.below hb23 (by omega)
        clear x2 z1 hb23 hb13 hb12
        go_wp2
        refine bodyPost_ret (v := .tuple #[c0.v, .int .i64 12]) (by simp [results, Tryd.results11, go_sem, Cod.v, c0, e0, e1, e2, e3, e4]) rfl ⟨by rw [HD.out]; rfl, ?_⟩
        first | exact hB3 | exact hB3.trans (set5_below (n := w.heap.size) c0 (Nat.le_refl _))
    · have HD : Hid (decC s = none) := by simp only [Hid]; rw [HD0.out, if_neg (fun h => hr h.1)]
      have hr' : rightI c = false := by simpa using hr
      rw [hr'] at HR
      clear hv hr hr' HD0
      go_enter Tryd.func11, Tryd.ntmps11
      go_wp2_with (first | (go_at_call 22; refine (HU.out _).mono ?_; rintro e w1 ⟨rfl, hb1⟩; refine Hid.out ?_))
      refine Lib.hid ?_
      go_wp2_with (first | (go_at_call 13; refine (HP.out _).mono ?_; rintro e w2 ⟨rfl, hb2⟩; refine Hid.out ?_))
      refine Lib.hid ?_
      unfold qv
      have hB1 : Below w.heap.size w w1 := ((Below.refl _ w).alloc (Nat.le_refl _) _).trans (hb1.mono (by simp))
      have hz1 : w.heap.size + 1 ≤ w1.heap.size := by have := hb1.size; simpa using this
      have hb12 : Below w1.heap.size w1 w2 := ((Below.refl _ w1).alloc (Nat.le_refl _) _).trans (hb2.mono (by simp))
      have hz2 : w1.heap.size + 1 ≤ w2.heap.size := by have := hb2.size; simpa using this
      have z1 : At5 w1 w.heap.size c0 := (At5.new w c0 _).below hb1 (by simp)
      have x2 : At5 w2 w1.heap.size c := (At5.new w1 c _).below hb2 (by simp)
      have hA2 : Below w2.heap.size w2 (w2.alloc (.cells #[.int .u8 q.1, .int .u8 q.2.1, .int .u8 q.2.2.1, .int .u8 q.2.2.2] 42)) := (Below.refl _ _).alloc (Nat.le_refl _) _
      have x3 : At5 (w2.alloc (.cells #[.int .u8 q.1, .int .u8 q.2.1, .int .u8 q.2.2.1, .int .u8 q.2.2.2] 42)) w1.heap.size c := x2.below hA2 (by omega)
      obtain ⟨xl, ⟨a0, a1, a2, a3, a4⟩, xf⟩ := x3
      go_wp2_with (first | (go_at_call 12; refine (HR.out _).mono ?_; rintro e w3 ⟨rfl, hb3⟩; refine Hid.out ?_))
      refine Lib.hid ?_
      have hcv := conv4 q w3 w2.heap.size hok ((At4.new w2 q _).below hb3 (by simp))
      have hb23 : Below w2.heap.size w2 w3 := hA2.trans (hb3.mono (by simp))
      have hb13 : Below w1.heap.size w1 w3 := hb12.trans (hb23.mono (by omega))
      have hB3 : Below w.heap.size w w3 := hB1.trans (hb13.mono (by omega))
      obtain ⟨zl, ⟨e0, e1, e2, e3, e4⟩, ef⟩ := z1.below hb13 (by omega)
      obtain ⟨yl, ⟨f0, f1, f2, f3, f4⟩, yf⟩ := x2.below hb23 (by omega)
      clear x2 z1 hb23 hb13 hb12
      go_wp2
      refine bodyPost_ret (v := .tuple #[c0.v, .int .i64 12]) (by simp [results, Tryd.results11, go_sem, Cod.v, c0, e0, e1, e2, e3, e4]) rfl ⟨by rw [HD.out]; rfl, ?_⟩
      first | exact hB3 | exact hB3.trans (set5_below (n := w.heap.size) c0 (Nat.le_refl _))
  · have h4i : ((s.size : Int) != 4) = true := by simp; omega
    have HD : Hid (decC s = none) := by simp only [Hid, decC, h4, false_and, if_false]
    go_enter Tryd.func11, Tryd.ntmps11
    go_wp2
    refine bodyPost_ret (by simp [results, Tryd.results11, go_sem]; rfl) rfl ⟨by rw [HD.out]; rfl, by go_grown⟩
end Go.Proofs.YtgldkmabhmlijaaDoor
