/- What a password is kept as: the answers of sha and of the reference. -/
import Derived.Test.YtfcmgodeehjnoaaDoorLives
import Derived.Test.YtfcmgodeehjnoaaDoorRSumW
import Derived.Test.YtfcmgodeehjnoaaDoorEight
namespace Go.Proofs.YtfcmgodeehjnoaaDoor
open Go.RowKit Go.Sort
def zeroB : ByteArray := ⟨#[0]⟩
def oneB : ByteArray := ⟨#[1]⟩
def lowB (n : Nat) : ByteArray := ⟨(lowL n).toArray⟩
/-- A text's sum, as a text. -/
def sumB (s : ByteArray) : ByteArray := ⟨(sumN s.data.toList).toArray⟩
def stB (a p : ByteArray) : Nat → ByteArray
  | 0 => sumB (zeroB ++ lowB a.size ++ a ++ p)
  | k + 1 => sumB (oneB ++ stB a p k)
theorem sumB_size (s : ByteArray) : (sumB s).size = 32 := by
  show (sumN s.data.toList).toArray.size = 32
  rw [List.size_toArray]; exact out_len _
theorem stB_size (a p : ByteArray) (k : Nat) : (stB a p k).size = 32 := by
  cases k with
  | zero => exact sumB_size _
  | succ k => exact sumB_size _
theorem low_size (n : Nat) : (lowB n).size = 8 := by
  show (lowL n).toArray.size = 8
  rw [List.size_toArray]; exact low_len n
theorem first_size (a p : ByteArray) : (zeroB ++ lowB a.size ++ a ++ p).size = 9 + a.size + p.size := by
  rw [ByteArray.size_append, ByteArray.size_append, ByteArray.size_append, low_size]; rfl
theorem next_size (s : ByteArray) (h : s.size = 32) : (oneB ++ s).size = 33 := by
  rw [ByteArray.size_append, h]; rfl
theorem data_size' (a : ByteArray) : a.data.toList.length = a.size := by simp
theorem cat_first (a p e : ByteArray) : catB [zeroB, e, a, p] = (zeroB ++ e ++ a ++ p).data.toList := by
  simp [catB]
theorem cat_next (s : ByteArray) : catB [oneB, s] = (oneB ++ s).data.toList := by
  simp [catB]
set_option maxRecDepth 100000 in
theorem refStretch_no (a p : ByteArray) (r : Int) (w : World) (hr : r < 0 ∨ 1000 < r) : Calls Tryd.prog 9 #[.string a, .string p, .int .i64 r] w fun e w' => e = .returned (.tuple #[.string ⟨#[]⟩, .int .i64 1]) ∧ Below w.heap.size w w' := by
  go_enter Tryd.func9, Tryd.ntmps9
  by_cases h : r < 0
  · go_wp2
    exact bodyPost_ret (v := .tuple #[.string ⟨#[]⟩, .int .i64 1]) (by simp [results, Tryd.results9, go_sem]) rfl ⟨rfl, Below.refl _ _⟩
  · have h2 : 1000 < r := by omega
    go_wp2
    exact bodyPost_ret (v := .tuple #[.string ⟨#[]⟩, .int .i64 1]) (by simp [results, Tryd.results9, go_sem]) rfl ⟨rfl, Below.refl _ _⟩
set_option maxRecDepth 100000 in
theorem Stretch_no (a p : ByteArray) (r : Int) (w : World) (hr : r < 0 ∨ 1000 < r) : Calls Tryd.prog 8 #[.string a, .string p, .int .i64 r] w fun e w' => e = .returned (.tuple #[.string ⟨#[]⟩, .int .i64 1]) ∧ Below w.heap.size w w' := by
  go_enter Tryd.func8, Tryd.ntmps8
  by_cases h : r < 0
  · go_wp2
    exact bodyPost_ret (v := .tuple #[.string ⟨#[]⟩, .int .i64 1]) (by simp [results, Tryd.results8, go_sem]) rfl ⟨rfl, Below.refl _ _⟩
  · have h2 : 1000 < r := by omega
    go_wp2
    exact bodyPost_ret (v := .tuple #[.string ⟨#[]⟩, .int .i64 1]) (by simp [results, Tryd.results8, go_sem]) rfl ⟨rfl, Below.refl _ _⟩
set_option maxRecDepth 100000 in
set_option maxHeartbeats 2000000 in
theorem refStretch_any (a p : ByteArray) (r : Nat) (w : World) (ha : a.size ≤ 500) (hp : p.size ≤ 500) (hr : r ≤ 1000) :
    Calls Tryd.prog 9 #[.string a, .string p, .int .i64 (r : Int)] w fun e w' => e = .returned (.tuple #[.string (stB a p r), .int .i64 0]) ∧ Below w.heap.size w w' := by
  have HEi : Hid (∀ W, Calls Tryd.prog 18 #[.int .u64 (a.size : Int)] W fun e w' => e = .returned (.string (lowB a.size)) ∧ Below W.heap.size W w') := Lib.hid (fun W => Eight_any a.size W (by omega))
  have H0 : Hid (∀ W, Calls Tryd.prog 7 #[.string (zeroB ++ lowB a.size ++ a ++ p)] W fun e w' => e = .returned (.string (stB a p 0)) ∧ Below W.heap.size W w') := Lib.hid (fun W => refSum_any _ W (by rw [first_size]; omega))
  have HN : Hid (∀ k W, Calls Tryd.prog 7 #[.string (oneB ++ stB a p k)] W fun e w' => e = .returned (.string (stB a p (k + 1))) ∧ Below W.heap.size W w') := Lib.hid (fun k W => refSum_any _ W (by rw [next_size _ (stB_size a p k)]; omega))
  have hw : IntKind.u64.wrap (a.size : Int) = (a.size : Int) := by rw [IntKind.wrap_u64]; omega
  have hls := low_size a.size
  have hv1 : ¬ 9223372036854775807 < 1 + (lowB a.size).size := by omega
  have hv2 : ¬ 9223372036854775807 < 1 + (lowB a.size).size + a.size := by omega
  have hv3 : ¬ 9223372036854775807 < 1 + (lowB a.size).size + a.size + p.size := by omega
  clear hls
  have h1 : ¬ (r : Int) < 0 := by omega
  have h2 : ¬ (1000 : Int) < (r : Int) := by omega
  go_enter Tryd.func9, Tryd.ntmps9
  go_wp2_with (first
    | (go_at_call 18; refine (HEi.out _).mono ?_; rintro e w1 ⟨rfl, hb1⟩; refine Hid.out ?_))
  refine Lib.hid ?_
  have HB1 := Lib.hid hb1
  clear hb1
  go_wp2_with (first
    | (go_at_call 7; refine (H0.out _).mono ?_; rintro e w2 ⟨rfl, hb2⟩; refine Hid.out ?_))
  refine Lib.hid ?_
  have hb3 : Below w.heap.size w w2 := HB1.out.trans (hb2.mono HB1.out.size)
  clear hb2
  go_wp2_with fail
  go_loopw [8, 9] (fun d iv wz => ∃ k : Nat, d = .string (stB a p k) ∧ iv = .int .i64 k ∧ k ≤ r ∧ Below w.heap.size w wz) (fun _ iv _ => (r - intOf iv).toNat)
  case atStart => exact ⟨0, rfl, rfl, by omega, hb3⟩
  case round =>
    obtain ⟨k, rfl, rfl, hk, hbr⟩ := hrel
    clear hb3
    by_cases hlt : k < r
    · have hki : (k : Int) < (r : Int) := by omega
      have HB := Lib.hid hbr
      have HLt := Lib.hid hlt
      have hv4 : ¬ 9223372036854775807 < 1 + (stB a p k).size := by rw [stB_size]; decide
      clear hbr hlt hk
      go_wp2_with (first
        | (go_at_call 7; refine (HN.out k _).mono ?_; rintro e w4 ⟨rfl, hb4⟩))
      exact ⟨⟨k + 1, rfl, by go_num, HLt.out, HB.out.trans (hb4.mono HB.out.size)⟩, by simp only [intOf]; have := HLt.out; omega⟩
    · obtain rfl : k = r := by omega
      have hki : ¬ (k : Int) < (k : Int) := by omega
      go_wp2
      exact bodyPost_ret (v := .tuple #[.string (stB a p k), .int .i64 0]) (by simp [results, Tryd.results9, go_sem]) rfl ⟨rfl, hbr⟩
theorem src_T (w : World) (xs : List ByteArray) (t : TypeId) : At (w.alloc (.cells (T xs).toArray t)) w.heap.size 0 (T xs) := At.new w (T xs).toArray t
set_option maxRecDepth 100000 in
set_option maxHeartbeats 2000000 in
theorem Stretch_any (a p : ByteArray) (r : Nat) (w : World) (hE : Env w) (ha : a.size ≤ 500) (hp : p.size ≤ 500) (hr : r ≤ 1000) :
    Calls Tryd.prog 8 #[.string a, .string p, .int .i64 (r : Int)] w fun e w' => e = .returned (.tuple #[.string (stB a p r), .int .i64 0]) ∧ Below w.heap.size w w' := by
  have HEi : Hid (∀ W, Calls Tryd.prog 17 #[.int .u64 (a.size : Int)] W fun e w' => e = .returned (.string (lowB a.size)) ∧ Below W.heap.size W w') := Lib.hid (fun W => lowFirst_any a.size W)
  have H0 : Hid (∀ W b, Env W → At W b 0 (T [zeroB, lowB a.size, a, p]) → Calls Tryd.prog 12 #[.slice (some ⟨b, 0, none⟩) 4 4] W fun e w' => e = .returned (.string (stB a p 0)) ∧ Below W.heap.size W w') := Lib.hid (fun W b hE h => by
    have := sumOf_any b 4 [zeroB, lowB a.size, a, p] W hE h (by simp) (by simp) (by rw [cat_first, data_size', first_size]; omega)
    rw [cat_first] at this; exact this)
  have HN : Hid (∀ k W b, Env W → At W b 0 (T [oneB, stB a p k]) → Calls Tryd.prog 12 #[.slice (some ⟨b, 0, none⟩) 2 2] W fun e w' => e = .returned (.string (stB a p (k + 1))) ∧ Below W.heap.size W w') := Lib.hid (fun k W b hE h => by
    have := sumOf_any b 2 [oneB, stB a p k] W hE h (by simp) (by simp) (by rw [cat_next, data_size', next_size _ (stB_size a p k)]; omega)
    rw [cat_next] at this; exact this)
  have HE := Lib.hid hE
  have hw : IntKind.u64.wrap (a.size : Int) = (a.size : Int) := by rw [IntKind.wrap_u64]; omega
  have h1 : ¬ (r : Int) < 0 := by omega
  have h2 : ¬ (1000 : Int) < (r : Int) := by omega
  clear hE
  go_enter Tryd.func8, Tryd.ntmps8
  go_wp2_with (first
    | (go_at_call 17; refine (HEi.out _).mono ?_; rintro e w1 ⟨rfl, hb1⟩; refine Hid.out ?_))
  refine Lib.hid ?_
  have HB1 := Lib.hid hb1
  have HE1 := Lib.hid (HE.out.below hb1)
  have hbA : Below w1.heap.size w1 (w1.alloc (.cells (T [zeroB, lowB a.size, a, p]).toArray 9)) := (Below.refl _ _).alloc (Nat.le_refl _) _
  have HC0 := Lib.hid (H0.out _ w1.heap.size (HE1.out.below hbA) (src_T w1 [zeroB, lowB a.size, a, p] 9))
  have HBA := Lib.hid (HB1.out.trans (hbA.mono HB1.out.size))
  clear hb1 hbA
  go_wp2_with (first
    | (go_at_call 12; refine HC0.out.mono ?_; rintro e w2 ⟨rfl, hb2⟩; refine Hid.out ?_))
  refine Lib.hid ?_
  have hb3 : Below w.heap.size w w2 := HBA.out.trans (hb2.mono HBA.out.size)
  clear hb2
  go_wp2_with fail
  go_loopw [8, 24] (fun d iv wz => ∃ k : Nat, d = .string (stB a p k) ∧ iv = .int .i64 k ∧ k ≤ r ∧ Below w.heap.size w wz) (fun _ iv _ => (r - intOf iv).toNat)
  case atStart => exact ⟨0, rfl, rfl, by omega, hb3⟩
  case round =>
    obtain ⟨k, rfl, rfl, hk, hbr⟩ := hrel
    clear hb3
    by_cases hlt : k < r
    · have hki : (k : Int) < (r : Int) := by omega
      have HB := Lib.hid hbr
      have HLt := Lib.hid hlt
      have hbA : Below wr.heap.size wr (wr.alloc (.cells (T [oneB, stB a p k]).toArray 9)) := (Below.refl _ _).alloc (Nat.le_refl _) _
      have HBA := Lib.hid (hbr.trans (hbA.mono hbr.size))
      have HCk := Lib.hid (HN.out k _ wr.heap.size (HE.out.below HBA.out) (src_T wr [oneB, stB a p k] 9))
      clear hbr hlt hk hbA
      go_wp2_with (first
        | (go_at_call 12; refine HCk.out.mono ?_; rintro e w4 ⟨rfl, hb4⟩))
      exact ⟨⟨k + 1, rfl, by go_num, HLt.out, HBA.out.trans (hb4.mono HBA.out.size)⟩, by simp only [intOf]; have := HLt.out; omega⟩
    · obtain rfl : k = r := by omega
      have hki : ¬ (k : Int) < (k : Int) := by omega
      go_wp2
      exact bodyPost_ret (v := .tuple #[.string (stB a p k), .int .i64 0]) (by simp [results, Tryd.results8, go_sem]) rfl ⟨rfl, hbr⟩
end Go.Proofs.YtfcmgodeehjnoaaDoor
