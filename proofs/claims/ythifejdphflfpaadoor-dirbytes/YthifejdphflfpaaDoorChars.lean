/- Whether a name has a byte that no name has. -/
import Derived.Test.YthifejdphflfpaaDoorDec
import Derived.Test.YthifejdphflfpaaDoorShelf
import Derived.WalkMore
import Derived.Lib.OthersKept
namespace Go.Proofs.YthifejdphflfpaaDoor
open Go.RowKit Go.Sort
/-- The two bytes that no name has. -/
def bars : ByteArray := ⟨#[0, 47]⟩
set_option maxRecDepth 100000 in
set_option maxHeartbeats 1000000 in
theorem IndexRune_err (w : World) : Calls Tryd.prog 74 #[.string ⟨#[0, 47]⟩, .int .i32 65533] w fun e w' => e = .returned (.int .i64 (-1)) ∧ Below w.heap.size w w' := by
  go_enter Tryd.func74, Tryd.ntmps74
  go_wp2_with fail
  go_loopg [5, 6] 2 (fun g _ _ wx => ∃ i : Nat, i + g = 2 ∧ wx = w.iter ⟨#[0, 47]⟩ i)
  case atStart => exact ⟨0, by omega, rfl⟩
  case round =>
    obtain ⟨i, hig, rfl⟩ := hrel
    cases gk with
    | zero =>
      obtain rfl : i = 2 := by omega
      have hnx := fun ty => run_next_end (P := Tryd.prog) w ⟨#[0, 47]⟩ 2 ty (by decide)
      go_wp2
      go_ret
      exact ⟨rfl, (Below.refl _ _).alloc (Nat.le_refl _) _⟩
    | succ g =>
      rcases (by omega : i = 0 ∨ i = 1) with rfl | rfl
      · have hnx := fun ty => run_next_ascii (P := Tryd.prog) w ⟨#[0, 47]⟩ 0 ty (by decide) (by decide)
        have e0 : ((⟨#[0, 47]⟩ : ByteArray)[0]'(by decide)).toNat = 0 := by decide
        rw [e0] at hnx
        go_wp2
        go_roundg g
        case measure => omega
        case rel => exact ⟨1, by omega, rfl⟩
      · have hnx := fun ty => run_next_ascii (P := Tryd.prog) w ⟨#[0, 47]⟩ 1 ty (by decide) (by decide)
        have e0 : ((⟨#[0, 47]⟩ : ByteArray)[1]'(by decide)).toNat = 47 := by decide
        rw [e0] at hnx
        go_wp2
        go_roundg g
        case measure => omega
        case rel => exact ⟨2, by omega, rfl⟩
set_option maxRecDepth 100000 in
set_option maxHeartbeats 1000000 in
theorem IndexRune_bad (r : Int) (w : World) (h0 : 128 ≤ r) (h1 : r ≠ 65533) (h2 : Lib.validRune r = false) : Calls Tryd.prog 74 #[.string ⟨#[0, 47]⟩, .int .i32 r] w fun e w' => e = .returned (.int .i64 (-1)) ∧ Below w.heap.size w w' := by
  have b0 : (0 : Int) ≤ r := by omega
  have b1 : ¬ r < 128 := by omega
  have b2 : (r == 65533) = false := beq_eq_false_iff_ne.2 h1
  have HV := Lib.hid (Tryd.utf8_ValidRune r w)
  rw [h2] at HV
  go_enter Tryd.func74, Tryd.ntmps74
  go_wp2_with (go_at_call 84; refine HV.out.mono ?_; rintro e w1 ⟨rfl, hw1⟩; rw [hw1]; clear hw1 w1)
  go_ret
  exact ⟨rfl, Below.refl _ _⟩
set_option maxRecDepth 100000 in
set_option maxHeartbeats 1000000 in
theorem IndexRune_good (r : Int) (w : World) (h0 : 128 ≤ r) (h1 : r ≠ 65533) (h2 : Lib.validRune r = true) : Calls Tryd.prog 74 #[.string ⟨#[0, 47]⟩, .int .i32 r] w fun e w' => e = .returned (.int .i64 (-1)) ∧ Below w.heap.size w w' := by
  have b0 : (0 : Int) ≤ r := by omega
  have b1 : ¬ r < 128 := by omega
  have b2 : (r == 65533) = false := beq_eq_false_iff_ne.2 h1
  obtain ⟨f1, f2, f3⟩ := encode_facts r (by rw [validRune_eq]; exact h2) h0
  obtain ⟨rs, hrs⟩ : ∃ rs, Utf8.encode r = rs := ⟨_, rfl⟩
  rw [hrs] at f1 f2 f3
  have hcv : ∀ w, (convert 21 9 (.int .i32 r)).run Tryd.prog w = .ok (.string rs) w := fun w => by rw [run_convert_int_string w _ _ _ _ (by kernel_rfl) Tryd.underlying9, hrs]
  clear hrs
  have HV := Lib.hid (Tryd.utf8_ValidRune r w)
  rw [h2] at HV
  obtain ⟨n, hn⟩ : ∃ n : Nat, rs.size = n := ⟨_, rfl⟩
  rw [hn] at f1 f2
  obtain ⟨c, hc⟩ : ∃ c : UInt8, ∀ h : rs.size - 1 < rs.size, rs[rs.size - 1]'h = c := ⟨rs[rs.size - 1]'(by omega), fun _ => rfl⟩
  have hc1 : 128 ≤ c.toNat := by have := f3 (by omega); rwa [hc] at this
  clear f3
  have hN := Lib.hid hn
  have b3 : ((47 : Int) == (c.toNat : Int)) = false := beq_eq_false_iff_ne.2 (by omega)
  have HI : Hid (∀ w, Calls Tryd.prog 83 #[.string ByteArray.empty, .int .u8 c.toNat] w fun e w' => e = .returned (.int .i64 (-1)) ∧ w' = w) := fun w => Tryd.strings_IndexByte ByteArray.empty c.toNat w
  clear hN
  rcases (by omega : n = 2 ∨ n = 3 ∨ n = 4) with rfl | rfl | rfl
  · have hc2 : ∀ h : 1 < rs.size, rs[1]'h = c := fun h => by have := hc (by omega); simpa [hn] using this
    have hlt : 1 < rs.size := by omega
    clear hc f1 f2
    go_enter Tryd.func74, Tryd.ntmps74
    go_wp2_with (first | (go_at_call 84; refine HV.out.mono ?_; rintro e w1 ⟨rfl, hw1⟩; rw [hw1]; clear hw1 w1))
    go_step3
    go_wp2_with fail
    go_loopw [9, 10] (fun i j wr => i = .int .i64 1 ∧ j = .int .i64 0 ∧ w = wr) (fun _ _ _ => 0)
    case atStart => exact ⟨rfl, rfl, rfl⟩
    case round =>
      obtain ⟨rfl, rfl, rfl⟩ := hrel
      have hx0 : ((⟨#[0, 47]⟩ : ByteArray)[1]'(by decide)).toNat = 47 := by decide
      go_wp2_with fail
      go_step3
      go_wp2_with fail
      go_quiet (fail)
      go_wp2_with fail
      go_region_with (go_at_call 83; refine (HI.out _).mono ?_; rintro e w1 ⟨rfl, hw1⟩; rw [hw1]; clear hw1 w1)
      all_goals (go_wp2_with fail; change bodyPost Tryd.prog Tryd.f74 (fun e w' => e = .returned (.int .i64 (-1)) ∧ Below w.heap.size w w') .ret _ _; go_ret; exact ⟨rfl, bdn (Below.refl _ _) _⟩)
  · have hlt : 2 < rs.size := by omega
    clear hc f1 f2
    go_enter Tryd.func74, Tryd.ntmps74
    go_wp2_with (first | (go_at_call 84; refine HV.out.mono ?_; rintro e w1 ⟨rfl, hw1⟩; rw [hw1]; clear hw1 w1))
    go_step3
    go_wp2_with fail
    go_loopw [9, 10] (fun i j wr => i = .int .i64 2 ∧ j = .int .i64 0 ∧ w = wr) (fun _ _ _ => 0)
    case atStart => exact ⟨rfl, rfl, rfl⟩
    case round =>
      obtain ⟨rfl, rfl, rfl⟩ := hrel
      go_wp2_with fail
      try rw [Exit.noGoto_ret]
      go_ret
      exact ⟨rfl, Below.refl _ _⟩
  · have hlt : 3 < rs.size := by omega
    clear hc f1 f2
    go_enter Tryd.func74, Tryd.ntmps74
    go_wp2_with (first | (go_at_call 84; refine HV.out.mono ?_; rintro e w1 ⟨rfl, hw1⟩; rw [hw1]; clear hw1 w1))
    go_step3
    go_wp2_with fail
    go_loopw [9, 10] (fun i j wr => i = .int .i64 3 ∧ j = .int .i64 0 ∧ w = wr) (fun _ _ _ => 0)
    case atStart => exact ⟨rfl, rfl, rfl⟩
    case round =>
      obtain ⟨rfl, rfl, rfl⟩ := hrel
      go_wp2_with fail
      try rw [Exit.noGoto_ret]
      go_ret
      exact ⟨rfl, Below.refl _ _⟩
theorem IndexRune_high (r : Int) (w : World) (h0 : 128 ≤ r) : Calls Tryd.prog 74 #[.string ⟨#[0, 47]⟩, .int .i32 r] w fun e w' => e = .returned (.int .i64 (-1)) ∧ Below w.heap.size w w' := by
  by_cases h1 : r = 65533
  · subst h1; exact IndexRune_err w
  · cases h2 : Lib.validRune r
    · exact IndexRune_bad r w h0 h1 h2
    · exact IndexRune_good r w h0 h1 h2
/-- Has it one of the two bytes? -/
def barred (l : List UInt8) : Bool := l.any fun x => x == 0 || x == 47
/-- Whether one of the two bytes stands ahead of a place. -/
def NoBar (s : ByteArray) (i : Nat) : Prop := ∀ j, (h : j < s.size) → j < i → s[j] ≠ 0 ∧ s[j] ≠ 47
theorem barred_no {s : ByteArray} (h : NoBar s s.size) : barred s.data.toList = false := by
  unfold barred
  rw [List.any_eq_false]
  intro x hx
  obtain ⟨i, hi, rfl⟩ := List.getElem_of_mem hx
  have hi' : i < s.size := by rw [Array.length_toList] at hi; exact hi
  have := h i hi' hi'
  have e : s.data.toList[i] = s[i]'hi' := rfl
  rw [e]
  simpa using this
theorem barred_yes {s : ByteArray} {i : Nat} (hi : i < s.size) (h : s[i] = 0 ∨ s[i] = 47) : barred s.data.toList = true := by
  unfold barred
  rw [List.any_eq_true]
  refine ⟨s[i], ?_, by simpa using h⟩
  exact Array.getElem_mem_toList (xs := s.data) hi
set_option maxRecDepth 100000 in
set_option maxHeartbeats 1000000 in
theorem IndexAny_short (s : ByteArray) (w : World) (h8 : s.size ≤ 8) : Calls Tryd.prog 66 #[.string s, .string ⟨#[0, 47]⟩] w fun e w' => (∃ n : Int, e = .returned (.int .i64 n) ∧ decide (0 ≤ n) = barred s.data.toList) ∧ Below w.heap.size w w' := by
  have h8z : decide ((8 : Int) < (s.size : Int)) = false := decide_eq_false (by omega)
  have HS := Lib.hid (Tryd.strings_shouldUseASCIISet s.size w)
  rw [h8z] at HS
  clear h8z
  go_enter Tryd.func66, Tryd.ntmps66
  go_wp2_with (go_at_call 75; refine HS.out.mono ?_; rintro e w' ⟨rfl, hw⟩; rw [hw])
  clear hw w'
  go_loopg [9, 10] s.size (fun g _ _ wx => ∃ i : Nat, i + g = s.size ∧ wx.heap[w.heap.size]? = some (.stringIter s i) ∧ Below w.heap.size w wx ∧ NoBar s i)
  case atStart => exact ⟨0, by omega, World.iter_heap w s 0, (Below.refl _ _).alloc (Nat.le_refl _) _, fun j _ h => absurd h (by omega)⟩
  case round =>
    obtain ⟨i, hig, hit, hbr, hno⟩ := hrel
    have HN := Lib.hid hno
    clear hno HS
    have Hbr := Lib.hid hbr
    have hBr : w.heap.size < wr.heap.size := (Array.getElem?_eq_some_iff.1 hit).1
    have hbi : ∀ p, Below w.heap.size w (wr.iterAt w.heap.size s p) := fun p => ⟨hbr.os, hbr.tape, hbr.output, by simpa [World.iterAt] using hbr.size, fun k hk => by simp only [World.iterAt]; rw [Array.getElem?_setIfInBounds_ne (by omega)]; exact hbr.block k hk⟩
    have HBI := Lib.hid hbi
    have HIT := Lib.hid (fun p => Lib.iterAt_heap wr w.heap.size s i p hit)
    have hsz : ∀ p, (wr.iterAt w.heap.size s p).heap.size = wr.heap.size := fun p => by simp [World.iterAt]
    have HSZ := Lib.hid hsz
    clear hbi hbr hsz
    cases gk with
    | zero =>
      obtain rfl : i = s.size := by omega
      have hnx := fun ty => Lib.run_next_end_at (P := Tryd.prog) wr w.heap.size s s.size ty hit (by omega)
      clear hit
      go_wp2
      go_ret
      exact ⟨⟨_, rfl, by rw [barred_no HN.out]; rfl⟩, Hbr.out⟩
    | succ g =>
      have hi : i < s.size := by omega
      obtain ⟨x, hx⟩ : ∃ x : UInt8, s[i]'hi = x := ⟨_, rfl⟩
      by_cases hx8 : x.toNat < 128
      · have hnx := fun ty => Lib.run_next_ascii_at (P := Tryd.prog) wr w.heap.size s i ty hit hi (by rw [hx]; exact hx8)
        rw [hx] at hnx
        obtain ⟨W, hW⟩ : ∃ W, wr.iterAt w.heap.size s (i + 1) = W := ⟨_, rfl⟩
        have HB1 : Hid (Below w.heap.size w W ∧ W.heap[w.heap.size]? = some (.stringIter s (i + 1))) := by rw [← hW]; exact ⟨HBI.out _, HIT.out _⟩
        rw [hW] at hnx
        have HX := Lib.hid hx
        clear hx hit hW
        have HI := Lib.hid (Tryd.strings_IndexRune_ascii ⟨#[0, 47]⟩ x.toNat W (by omega) (by omega))
        rw [show ((x.toNat : Int)).toNat.toUInt8 = x by simp] at HI
        by_cases hin : x = 0 ∨ x = 47
        · have hge : ∃ n : Int, Lib.indexByte (ByteArray.mk #[0, 47]).data.toList x = n ∧ 0 ≤ n := by
            rcases hin with rfl | rfl
            · exact ⟨0, rfl, by omega⟩
            · exact ⟨1, rfl, by omega⟩
          obtain ⟨n, hn, hn0⟩ := hge
          rw [hn] at HI
          have HIN := Lib.hid hin
          clear hin hn hx8
          go_wp2_with (go_at_call 74; refine HI.out.mono ?_; rintro e w' ⟨rfl, hw⟩; rw [hw]; clear hw w')
          go_ret
          exact ⟨⟨_, rfl, by rw [barred_yes hi (by rw [HX.out]; exact HIN.out)]; exact decide_eq_true (by omega)⟩, HB1.out.1⟩
        · have hlt : Lib.indexByte (ByteArray.mk #[0, 47]).data.toList x = -1 := by
            have h1 : x ≠ 0 := fun h => hin (.inl h)
            have h2 : x ≠ 47 := fun h => hin (.inr h)
            show Lib.indexByte [0, 47] x = -1
            simp [Lib.indexByte, Ne.symm h1, Ne.symm h2]
          rw [hlt] at HI
          have HIN := Lib.hid hin
          clear hin hlt hx8
          go_wp2_with (go_at_call 74; refine HI.out.mono ?_; rintro e w' ⟨rfl, hw⟩; rw [hw]; clear hw w')
          go_roundg g
          case measure => omega
          case rel =>
            refine ⟨i + 1, by omega, by exact HB1.out.2, by exact HB1.out.1, fun j hj hji => ?_⟩
            by_cases hjx : j = i
            · subst hjx; rw [HX.out]; exact ⟨fun h => HIN.out (.inl h), fun h => HIN.out (.inr h)⟩
            · exact HN.out j hj (by omega)
      · have hhi : 128 ≤ (s[i]'hi).toNat := by rw [hx]; omega
        have hd := decode_high s i hi hhi
        obtain ⟨hc1, hc2⟩ := decode_cover s i hi hhi
        have hnx := fun ty => Lib.run_next_any_at (P := Tryd.prog) wr w.heap.size s i ty hit hi
        obtain ⟨r, hr⟩ : ∃ r, (Utf8.decode s i).1 = r := ⟨_, rfl⟩
        obtain ⟨k, hk⟩ : ∃ k, (Utf8.decode s i).2 = k := ⟨_, rfl⟩
        rw [hr, hk] at hnx hd
        rw [hk] at hc1
        have HC := Lib.hid hc2
        have HK := Lib.hid hk
        obtain ⟨W, hW⟩ : ∃ W, wr.iterAt w.heap.size s (i + k) = W := ⟨_, rfl⟩
        have HB1 : Hid (Below w.heap.size w W ∧ W.heap[w.heap.size]? = some (.stringIter s (i + k)) ∧ w.heap.size < W.heap.size) := by rw [← hW]; exact ⟨HBI.out _, HIT.out _, by rw [HSZ.out]; exact hBr⟩
        rw [hW] at hnx
        have HI := Lib.hid (IndexRune_high r W (by omega))
        have HC1 := Lib.hid hc1
        have HD := Lib.hid hd
        clear hk hr hx8 hhi hc1 hc2 hx hit hW hd
        go_wp2_with (go_at_call 74; refine HI.out.mono ?_; rintro e w1 ⟨rfl, hb1⟩)
        go_roundg (s.size - (i + k))
        case measure => have := HD.out.2; omega
        case rel =>
          have h1 := HC1.out
          refine ⟨i + k, by omega, ?_, ?_, fun j hj hji => ?_⟩
          · rw [hb1.block w.heap.size HB1.out.2.2]; exact HB1.out.2.1
          · exact HB1.out.1.trans (hb1.mono (by have := HB1.out.2.2; omega))
          by_cases hjx : j < i
          · exact HN.out j hj hjx
          · have := HC.out j (by omega) (by rw [HK.out]; exact hji) hj
            exact ⟨fun h => by rw [h] at this; exact absurd this (by decide), fun h => by rw [h] at this; exact absurd this (by decide)⟩
theorem zeroSet : ∀ w, (zeroValue 104).run Tryd.prog w = .ok (.agg (Array.replicate 256 (.bool false))) w := (zero_of_info (P := Tryd.prog) (n := 256) (by kernel_rfl)).1
set_option maxHeartbeats 1000000 in
theorem ContainsAny_any (s : ByteArray) (w : World) (hs : s.size ≤ 32) : Calls Tryd.prog 57 #[.string s, .string ⟨#[0, 47]⟩] w fun e w' => e = .returned (.bool (barred s.data.toList)) ∧ Below w.heap.size w w' := by
  have HI : Hid (Calls Tryd.prog 66 #[.string s, .string ⟨#[0, 47]⟩] w fun e w' => (∃ n : Int, e = .returned (.int .i64 n) ∧ decide (0 ≤ n) = barred s.data.toList) ∧ Below w.heap.size w w') := by
    by_cases h8 : s.size ≤ 8
    · exact IndexAny_short s w h8
    · refine (Tryd.strings_IndexAny_long zeroSet s ⟨#[0, 47]⟩ w (by decide) (by omega) (by omega) (by decide) (fun j b hj => ?_)).mono fun e w' ⟨h1, h2⟩ => ⟨⟨_, h1, ?_⟩, ?_⟩
      · have := List.mem_of_getElem? hj
        simp at this
        rcases this with rfl | rfl <;> decide
      · have key : ∀ l : List UInt8, decide (0 ≤ Lib.indexAny l [0, 47]) = barred l := by
          intro l
          induction l with
          | nil => rfl
          | cons x l ih =>
            have hge := Lib.indexAny_ge [0, 47] l
            unfold Lib.indexAny
            have e : List.contains [0, 47] x = (x == 0 || x == 47) := by
              simp [List.contains, List.elem]
              cases h : (x == 0) <;> cases h2 : (x == 47) <;> rfl
            rw [e]
            have hb : barred (x :: l) = ((x == 0 || x == 47) || barred l) := rfl
            rw [hb, ← ih]
            cases hx : (x == 0 || x == 47)
            · simp only [Bool.false_eq_true, if_false, Bool.false_or]
              split
              · rename_i hm; rw [eq_of_beq hm]
              · rename_i hm
                have : Lib.indexAny l [0, 47] ≠ -1 := fun h => hm (by rw [h]; rfl)
                rw [decide_eq_true (by omega), decide_eq_true (by omega)]
            · simp
        exact key _
      · rw [h2]; exact ((Below.refl _ _).alloc (Nat.le_refl _) _).alloc (by simp) _
  go_enter Tryd.func57, Tryd.ntmps57
  go_wp2_with (go_at_call 66; refine HI.out.mono ?_; rintro e w1 ⟨⟨n, rfl, hn⟩, hb1⟩; have HN := Lib.hid hn; clear hn)
  go_ret
  exact ⟨ret_bool (by rw [← HN.out]), hb1⟩
end Go.Proofs.YthifejdphflfpaaDoor
