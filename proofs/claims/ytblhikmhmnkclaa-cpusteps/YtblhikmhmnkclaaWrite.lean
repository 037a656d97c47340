/- What Write of package pages does, for every row of parts. -/
import Derived.Test.YtblhikmhmnkclaaPut
namespace Go.Proofs.Ytblhikmhmnkclaa
open Go.RowKit Go.Lib
variable {K : Nat → Prop}
/-- The parts lie as a row of strings. -/
def PsAt (w : World) (p : Option Addr) (l : List ByteArray) : Prop := l = [] ∨ ∃ blk off c f, p = some ⟨blk, off, none⟩ ∧ w.heap[blk]? = some (.cells c 9 f) ∧ ∀ j (h : j < l.length), c[off + j]? = some (.string l[j])
theorem PsAt.fr {w w' : World} {p : Option Addr} {l : List ByteArray} (h : PsAt w p l) (hf : Fr K w w') : PsAt w' p l := by
  rcases h with h | ⟨blk, off, c, f, h1, h2, h3⟩
  · exact .inl h
  · exact .inr ⟨blk, off, c, f, h1, hf.block h2 (by decide) (by decide), h3⟩
theorem PsAt.cell {w : World} {p : Option Addr} {l : List ByteArray} (h : PsAt w p l) (j : Nat) (hj : j < l.length) : ∃ blk off, p = some ⟨blk, off, none⟩ ∧ w.cell? ⟨blk, off + j, none⟩ = some (.string l[j]) := by
  rcases h with rfl | ⟨blk, off, c, f, h1, h2, h3⟩
  · simp at hj
  · exact ⟨blk, off, h1, by simp [World.cell?, h2, h3 j hj]⟩
def sumL (l : List ByteArray) : Nat := (l.map ByteArray.size).sum
def catL (l : List ByteArray) : List UInt8 := l.flatMap fun s => s.data.toList
theorem sumL_take (l : List ByteArray) (k : Nat) (hk : k < l.length) : sumL (l.take (k + 1)) = sumL (l.take k) + l[k].size := by
  unfold sumL; rw [List.take_succ_eq_append_getElem hk, List.map_append, List.sum_append]; simp
theorem sumL_le (l : List ByteArray) (k : Nat) : sumL (l.take k) ≤ sumL l := by
  have h : l = l.take k ++ l.drop k := (List.take_append_drop k l).symm
  have e : sumL l = sumL (l.take k) + sumL (l.drop k) := by unfold sumL; conv => lhs; rw [h]
                                                            rw [List.map_append, List.sum_append]
  omega
theorem catL_len (l : List ByteArray) : (catL l).length = sumL l := by
  unfold catL sumL; induction l with
  | nil => rfl
  | cons x l ih => rw [List.flatMap_cons, List.length_append, ih, List.map_cons, List.sum_cons]; simp
theorem catL_take (l : List ByteArray) (k : Nat) (hk : k < l.length) : catL (l.take (k + 1)) = catL (l.take k) ++ l[k].data.toList := by
  unfold catL; rw [List.take_succ_eq_append_getElem hk, List.flatMap_append]; simp
theorem over_app (d : List UInt8) (a : Nat) (s t : List UInt8) : over (over d a s) (a + s.length) t = over d a (s ++ t) := by
  have := over_over d a s.length (s ++ t) (by simp)
  simpa using this
set_option maxRecDepth 100000 in
set_option maxHeartbeats 1000000 in
theorem Write_nil (p : Option Addr) (cap : Nat) (a : Int) (l : List ByteArray) (w : World) (hp : PsAt w p l) (hs : sumL l < 4611686018427387904) (hl : l.length < 4611686018427387904) :
    Calls Try.prog 7 #[.pointer none, .int .i64 a, .slice p l.length cap] w fun e w' => e = .returned (.int .i64 4) ∧ w' = w := by
  go_enter Try.func7, Try.ntmps7
  go_wp2_with fail
  go_loopw [7, 15] (fun x y wr => ∃ k : Nat, k ≤ l.length ∧ x = .int .i64 (sumL (l.take k) : Nat) ∧ y = .int .i64 k ∧ w = wr) (fun _ y _ => (l.length - intOf y).toNat)
  case atStart => exact ⟨0, Nat.zero_le _, rfl, rfl, rfl⟩
  case round =>
    obtain ⟨k, hk, rfl, rfl, rfl⟩ := hrel
    have hsk := sumL_le l k
    by_cases hlt : k < l.length
    · obtain ⟨blk, off, rfl, hc⟩ := hp.cell k hlt
      have hst := sumL_take l k hlt
      have hsk1 := sumL_le l (k + 1)
      have hki : (k : Int) < (l.length : Int) := by omega
      generalize l[k] = sk at hc hst
      go_wp2
      go_roundw
      case rel => exact ⟨k + 1, by omega, by rw [hst]; go_num, by go_num, trivial⟩
      case measure => simp [intOf]; omega
    · obtain rfl : k = l.length := by omega
      go_wp2_with (first | (go_at_call 14; refine (check_nil _ _ _).mono ?_; rintro e w1 ⟨rfl, hw1⟩; rw [hw1]; clear hw1 w1))
      go_ret
      exact ⟨rfl, rfl⟩
set_option maxRecDepth 100000 in
set_option maxHeartbeats 1000000 in
theorem Write_any (base Bb : Nat) (d : List UInt8) (ls : List (Nat × Bool)) (p : Option Addr) (cap : Nat) (a : Int) (l : List ByteArray) (w : World) (h : BAt K w base Bb d ls) (hp : PsAt w p l) (hs : sumL l < 4611686018427387904) (hl : l.length < 4611686018427387904) (ha : a ≤ 9223372036854775807) :
    Calls Try.prog 7 #[.pointer (some ⟨Bb, 0, none⟩), .int .i64 a, .slice p l.length cap] w fun e w' =>
      if fitsB d.length a (sumL l) = true then e = .returned (.int .i64 0) ∧ (∃ ls', BAt K w' base Bb (over d a.toNat (catL l)) ls') ∧ Below base w w' ∧ Fr K w w'
      else e = .returned (.int .i64 9) ∧ w' = w := by
  have HH := Lib.hid h
  have hlen := h.len
  have HC := Lib.hid (check_any h a (sumL l) ha)
  have hbb : base ≤ w.heap.size := by obtain ⟨v, hv, _⟩ := h.blk; have := (Array.getElem?_eq_some_iff.1 hv).1; have := h.bb; omega
  clear h
  go_enter Try.func7, Try.ntmps7
  go_wp2_with fail
  go_loopw [7, 15] (fun x y wr => ∃ k : Nat, k ≤ l.length ∧ x = .int .i64 (sumL (l.take k) : Nat) ∧ y = .int .i64 k ∧ w = wr) (fun _ y _ => (l.length - intOf y).toNat)
  case atStart => exact ⟨0, Nat.zero_le _, rfl, rfl, rfl⟩
  case round =>
    obtain ⟨k, hk, rfl, rfl, rfl⟩ := hrel
    have hsk := sumL_le l k
    by_cases hlt : k < l.length
    · obtain ⟨blk, off, rfl, hc⟩ := hp.cell k hlt
      have hst := sumL_take l k hlt
      have hsk1 := sumL_le l (k + 1)
      have hki : (k : Int) < (l.length : Int) := by omega
      generalize l[k] = sk at hc hst
      go_wp2
      go_roundw
      case rel => exact ⟨k + 1, by omega, by rw [hst]; go_num, by go_num, trivial⟩
      case measure => simp [intOf]; omega
    · obtain rfl : k = l.length := by omega
      rw [List.take_length]
      by_cases hf : fitsB d.length a (sumL l) = true
      · rw [if_pos hf] at HC
        have hf' : 0 ≤ a ∧ 0 ≤ (sumL l : Int) ∧ (sumL l : Int) ≤ d.length - a := by simpa [fitsB] using hf
        have HF := Lib.hid hf
        obtain ⟨an, rfl⟩ : ∃ an : Nat, a = an := ⟨a.toNat, by omega⟩
        clear hf
        go_wp2_with (first | (go_at_call 14; refine HC.out.mono ?_; rintro e w1 ⟨rfl, hw1⟩; rw [hw1]; clear hw1 w1))
        go_loopw [1, 33] (fun x y ww => ∃ k : Nat, k ≤ l.length ∧ x = .int .i64 ((an + sumL (l.take k) : Nat) : Int) ∧ y = .int .i64 k ∧ (∃ ls', BAt K ww base Bb (over d an (catL (l.take k))) ls') ∧ RowKit.Below base w ww ∧ Fr K w ww) (fun _ y _ => (l.length - intOf y).toNat)
        case atStart => exact ⟨0, Nat.zero_le _, rfl, rfl, ⟨ls, by rw [List.take_zero]; show BAt K w base Bb (over d an []) ls; rw [over_nil]; exact HH.out⟩, Below.refl _ _, Fr.refl _⟩
        case round =>
          obtain ⟨k, hk2, rfl, rfl, ⟨ls2, hA2⟩, hB2, hF2⟩ := hrel
          by_cases hlt2 : k < l.length
          · obtain ⟨blk, off, rfl, hc⟩ := (hp.fr hF2).cell k hlt2
            have hst := sumL_take l k hlt2
            have hsk1 := sumL_le l (k + 1)
            have hct := catL_take l k hlt2
            have hcl := catL_len (l.take k)
            have hki : (k : Int) < (l.length : Int) := by omega
            generalize l[k] = sk at hc hst hct
            have HP := Lib.hid (put_any base Bb (an + sumL (l.take k)) _ sk ls2 wr hA2 (by rw [over_len]; omega))
            have HO : Hid (over (over d an (catL (l.take k))) (an + sumL (l.take k)) sk.data.toList = over d an (catL (l.take (k + 1)))) := by simp only [Hid]; rw [hct, ← hcl]; exact over_app _ _ _ _
            rw [HO.out] at HP
            clear hA2 HO hct hcl
            go_wp2_with (first | (go_at_call 15; refine HP.out.mono ?_; rintro e w2 ⟨⟨pv, rfl⟩, hA3, hB3, hF3⟩))
            go_roundw
            case rel => exact ⟨k + 1, by omega, by rw [hst]; go_num, by go_num, hA3, hB2.trans hB3, hF2.trans hF3⟩
            case measure => simp [intOf]; omega
          · obtain rfl : k = l.length := by omega
            rw [List.take_length] at hA2
            have HA2 := Lib.hid hA2
            clear hA2
            go_wp2
            go_ret
            first | exact ⟨rfl, ⟨ls2, HA2.out⟩, hB2, hF2⟩ | (rw [if_pos HF.out]; exact ⟨rfl, ⟨ls2, HA2.out⟩, hB2, hF2⟩)
      · rw [if_neg hf] at HC
        have HF := Lib.hid hf
        clear hf
        go_wp2_with (first | (go_at_call 14; refine HC.out.mono ?_; rintro e w1 ⟨rfl, hw1⟩; rw [hw1]; clear hw1 w1))
        go_ret
        first | exact ⟨rfl, rfl⟩ | (rw [if_neg HF.out]; exact ⟨rfl, rfl⟩)
end Go.Proofs.Ytblhikmhmnkclaa
