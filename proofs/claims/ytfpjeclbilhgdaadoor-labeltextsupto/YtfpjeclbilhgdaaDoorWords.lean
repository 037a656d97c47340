/- What parseCat and parseLevel of package label answer, for every string. -/
import Derived.Test.YtfpjeclbilhgdaaDoorShort
import Derived.Laws.Strings2
import Derived.Lib.Hide
import Derived.BigQuiet
namespace Go.Proofs.YtfpjeclbilhgdaaDoor
open Go.RowKit Go.Sort

def byS (s : ByteArray) (i : Nat) : Nat := (s.data.getD i 0).toNat
theorem byS_lt (s : ByteArray) (i : Nat) : byS s i < 256 := UInt8.toNat_lt _
theorem byS_get (s : ByteArray) (i : Nat) (h : i < s.size) : s[i].toNat = byS s i := by
  simp [byS, ByteArray.getElem_eq_getElem_data, Array.getD, h]
/-- One digit more, or none. -/
def pcStep (n : Int) (b : Nat) : Option Int := if b < 48 ∨ 57 < b then none else if (n = 0 ∧ b = 48) ∨ (2305843009213693951 - ((b : Int) - 48)) / 10 < n then none else some (10 * n + ((b : Int) - 48))
def pcT (s : ByteArray) : Nat → Option Int
  | 0 => some 0
  | k + 1 => (pcT s k).bind fun n => pcStep n (byS s k)
theorem pcT_none {s : ByteArray} {k n : Nat} (h : pcT s k = none) (hk : k ≤ n) : pcT s n = none := by
  induction n with
  | zero => obtain rfl : k = 0 := by omega
            exact h
  | succ n ih =>
    rcases Nat.lt_or_ge n k with h1 | h1
    · obtain rfl : k = n + 1 := by omega
      exact h
    · simp [pcT, ih h1]
theorem pcStep_lim {n : Int} {b : Nat} {m : Int} (h : pcStep n b = some m) (h0 : 0 ≤ n) : 0 ≤ m ∧ m ≤ 2305843009213693951 := by
  unfold pcStep at h
  split at h
  · cases h
  · split at h
    · cases h
    · cases h; omega
def pcS (s : ByteArray) : Int := (pcT s s.size).getD 0

set_option maxRecDepth 100000 in
set_option maxHeartbeats 1000000 in
theorem parseCat_any (s : ByteArray) (w : World) (hm : s.size ≤ maxLen) : Calls Tryd.prog 43 #[.string s] w fun e w' => e = .returned (.tuple #[.int .i64 (pcS s), .bool (decide (0 < pcS s))]) ∧ Below w.heap.size w w' := by
  unfold maxLen at hm
  go_enter Tryd.func43, Tryd.ntmps43
  go_wp2
  go_loopw [4, 9] (fun r i wr => ∃ (k : Nat) (n : Int), k ≤ s.size ∧ i = .int .i64 k ∧ r = .int .i64 n ∧ pcT s k = some n ∧ (0 ≤ n ∧ n ≤ 2305843009213693951) ∧ wr = w) (fun _ i _ => s.size - (intOf i).toNat)
  case atStart => exact ⟨0, 0, Nat.zero_le _, rfl, rfl, rfl, by omega, rfl⟩
  case round =>
    obtain ⟨k, n, hk, rfl, rfl, hp, hn, rfl⟩ := hrel
    have HP := Lib.hid hp
    clear hp
    obtain ⟨hn0, hn1⟩ := hn
    by_cases hlt : k < s.size
    · have hki : (k : Int) < (s.size : Int) := by omega
      have hb : s[k].toNat = byS s k := byS_get s k hlt
      have hb256 := byS_lt s k
      have HST : Hid (pcT s (k + 1) = pcStep n (byS s k)) := by simp only [Hid, pcT]; rw [HP.out]; rfl
      obtain ⟨b, hbb⟩ : ∃ b, b = byS s k := ⟨_, rfl⟩
      rw [← hbb] at hb hb256 HST
      clear hbb
      by_cases h1 : b < 48
      · have h1i : (b : Int) < 48 := by omega
        have HN : Hid (pcS s = 0) := by
          have : pcT s (k + 1) = none := by rw [HST.out, pcStep, if_pos (.inl h1)]
          simp only [Hid, pcS]; rw [pcT_none this (by omega)]; rfl
        go_wp2
        refine bodyPost_ret (by simp [results, Tryd.results43]; rfl) rfl ⟨by rw [HN.out]; rfl, Below.refl _ _⟩
      · have h1i : ¬ (b : Int) < 48 := by omega
        by_cases h2 : 57 < b
        · have h2i : 57 < (b : Int) := by omega
          have HN : Hid (pcS s = 0) := by
            have : pcT s (k + 1) = none := by rw [HST.out, pcStep, if_pos (.inr h2)]
            simp only [Hid, pcS]; rw [pcT_none this (by omega)]; rfl
          go_wp2
          refine bodyPost_ret (by simp [results, Tryd.results43]; rfl) rfl ⟨by rw [HN.out]; rfl, Below.refl _ _⟩
        · have h2i : ¬ 57 < (b : Int) := by omega
          have hw : ((b : Int) - 48) % 256 = (b : Int) - 48 := by omega
          have hw2 : IntKind.i64.wrap (b - 48 : Int) = (b : Int) - 48 := IntWalk.i64_in _ (by omega)
          by_cases h3 : (n = 0 ∧ b = 48) ∨ (2305843009213693951 - ((b : Int) - 48)) / 10 < n
          · have HN : Hid (pcS s = 0) := by
              have : pcT s (k + 1) = none := by rw [HST.out, pcStep, if_neg (by omega), if_pos h3]
              simp only [Hid, pcS]; rw [pcT_none this (by omega)]; rfl
            go_wp2
            all_goals refine bodyPost_ret (by simp [results, Tryd.results43]; rfl) rfl ⟨by rw [HN.out]; rfl, Below.refl _ _⟩
          · have HS : Hid (pcT s (k + 1) = some (10 * n + ((b : Int) - 48))) := by simp only [Hid]; rw [HST.out, pcStep, if_neg (by omega), if_neg h3]
            have hq : n ≤ (2305843009213693951 - ((b : Int) - 48)) / 10 := by omega
            have hq' : ¬ (2305843009213693951 - ((b : Int) - 48)) / 10 < n := by omega
            have hmx : 10 * n + ((b : Int) - 48) ≤ 2305843009213693951 := by omega
            by_cases h0 : n = 0
            · have hb48 : ¬ (b : Int) - 48 = 0 := by omega
              have h0' : (n == 0) = true := by simp [h0]
              have hb48' : ((b : Int) - 48 == 0) = false := by simpa using hb48
              clear h0
              go_wp2
              go_roundw
              case rel => exact ⟨k + 1, _, by omega, by go_num, rfl, HS.out, by omega, trivial⟩
              case measure => simp [intOf]; omega
            · have h0' : (n == 0) = false := by simpa using h0
              go_wp2
              go_roundw
              case rel => exact ⟨k + 1, _, by omega, by go_num, rfl, HS.out, by omega, trivial⟩
              case measure => simp [intOf]; omega
    · obtain rfl : k = s.size := by omega
      have HN : Hid (pcS s = n) := by simp only [Hid, pcS]; rw [HP.out]; rfl
      go_wp2
      refine bodyPost_ret (by simp [results, Tryd.results43]; rfl) rfl ⟨by rw [HN.out], Below.refl _ _⟩
def plv (b : Nat) : Option Int := if b = 42 then some 0 else if b = 48 then some 1 else if b = 49 then some 2 else if b = 50 then some 3 else if b = 51 then some 4 else if b = 74 then some 5 else none
def plS (s : ByteArray) : Option Int := if s.size = 1 then plv (byS s 0) else none

set_option maxRecDepth 100000 in
set_option maxHeartbeats 2000000 in
theorem parseLevel_any (s : ByteArray) (w : World) : Calls Tryd.prog 19 #[.string s] w fun e w' => e = .returned (.tuple #[.int .i64 ((plS s).getD 0), .bool (plS s).isSome]) ∧ Below w.heap.size w w' := by
  by_cases h1 : s.size = 1
  · have h0 : 0 < s.size := by omega
    have h0i : (0 : Int) < (s.size : Int) := by omega
    have h1i : ((s.size : Int) != 1) = false := by simp; omega
    have hb : s[0].toNat = byS s 0 := byS_get s 0 h0
    have hb256 := byS_lt s 0
    have HP : Hid (plS s = plv (byS s 0)) := by simp [Hid, plS, h1]
    obtain ⟨b, hbb⟩ : ∃ b, b = byS s 0 := ⟨_, rfl⟩
    rw [← hbb] at hb hb256 HP
    clear hbb
    have t0 : (⟨#[42, 48, 49, 50, 51, 74]⟩ : ByteArray)[0].toNat = 42 := rfl
    have t1 : (⟨#[42, 48, 49, 50, 51, 74]⟩ : ByteArray)[1].toNat = 48 := rfl
    have t2 : (⟨#[42, 48, 49, 50, 51, 74]⟩ : ByteArray)[2].toNat = 49 := rfl
    have t3 : (⟨#[42, 48, 49, 50, 51, 74]⟩ : ByteArray)[3].toNat = 50 := rfl
    have t4 : (⟨#[42, 48, 49, 50, 51, 74]⟩ : ByteArray)[4].toNat = 51 := rfl
    have t5 : (⟨#[42, 48, 49, 50, 51, 74]⟩ : ByteArray)[5].toNat = 74 := rfl
    go_enter Tryd.func19, Tryd.ntmps19
    go_wp2
    go_loopw [8] (fun i wr => ∃ (k : Nat) (n : Nat), k ≤ 6 ∧ i = .int .i64 k ∧ (0 < k → b ≠ 42) ∧ (1 < k → b ≠ 48) ∧ (2 < k → b ≠ 49) ∧ (3 < k → b ≠ 50) ∧ (4 < k → b ≠ 51) ∧ (5 < k → b ≠ 74) ∧ wr = w.drewN n) (fun i _ => 6 - (intOf i).toNat)
    case atStart => exact ⟨0, 0, by omega, rfl, by omega, by omega, by omega, by omega, by omega, by omega, rfl⟩
    case round =>
      obtain ⟨k, n, hk, rfl, a0, a1, a2, a3, a4, a5, rfl⟩ := hrel
      have HA := Lib.hid (show (0 < k → b ≠ 42) ∧ (1 < k → b ≠ 48) ∧ (2 < k → b ≠ 49) ∧ (3 < k → b ≠ 50) ∧ (4 < k → b ≠ 51) ∧ (5 < k → b ≠ 74) from ⟨a0, a1, a2, a3, a4, a5⟩)
      clear a0 a1 a2 a3 a4 a5
      rcases (show k = 0 ∨ k = 1 ∨ k = 2 ∨ k = 3 ∨ k = 4 ∨ k = 5 ∨ k = 6 by omega) with rfl | rfl | rfl | rfl | rfl | rfl | rfl
      · by_cases h : b = 42
        · have HN : Hid (plS s = some 0) := by simp only [Hid]; rw [HP.out, h]; rfl
          subst h
          go_wp2
          go_quiet (fail)
          go_wp2
          refine bodyPost_ret (by simp [results, Tryd.results19]; rfl) rfl ⟨by rw [HN.out]; rfl, bdn (bdn (Below.refl _ _) _) _⟩
        · have hbi : ((42 : Int) == (b : Int)) = false := by simp; omega
          go_wp2
          go_quiet (fail)
          go_wp2
          go_roundw
          case rel =>
            obtain ⟨a0, a1, a2, a3, a4, a5⟩ := HA.out
            exact ⟨1, n + nq, by omega, by go_num, by omega, by omega, by omega, by omega, by omega, by omega, rfl⟩
          case measure => simp [intOf]
      · by_cases h : b = 48
        · have HN : Hid (plS s = some 1) := by simp only [Hid]; rw [HP.out, h]; rfl
          subst h
          go_wp2
          go_quiet (fail)
          go_wp2
          refine bodyPost_ret (by simp [results, Tryd.results19]; rfl) rfl ⟨by rw [HN.out]; rfl, bdn (bdn (Below.refl _ _) _) _⟩
        · have hbi : ((48 : Int) == (b : Int)) = false := by simp; omega
          go_wp2
          go_quiet (fail)
          go_wp2
          go_roundw
          case rel =>
            obtain ⟨a0, a1, a2, a3, a4, a5⟩ := HA.out
            exact ⟨2, n + nq, by omega, by go_num, by omega, by omega, by omega, by omega, by omega, by omega, rfl⟩
          case measure => simp [intOf]
      · by_cases h : b = 49
        · have HN : Hid (plS s = some 2) := by simp only [Hid]; rw [HP.out, h]; rfl
          subst h
          go_wp2
          go_quiet (fail)
          go_wp2
          refine bodyPost_ret (by simp [results, Tryd.results19]; rfl) rfl ⟨by rw [HN.out]; rfl, bdn (bdn (Below.refl _ _) _) _⟩
        · have hbi : ((49 : Int) == (b : Int)) = false := by simp; omega
          go_wp2
          go_quiet (fail)
          go_wp2
          go_roundw
          case rel =>
            obtain ⟨a0, a1, a2, a3, a4, a5⟩ := HA.out
            exact ⟨3, n + nq, by omega, by go_num, by omega, by omega, by omega, by omega, by omega, by omega, rfl⟩
          case measure => simp [intOf]
      · by_cases h : b = 50
        · have HN : Hid (plS s = some 3) := by simp only [Hid]; rw [HP.out, h]; rfl
          subst h
          go_wp2
          go_quiet (fail)
          go_wp2
          refine bodyPost_ret (by simp [results, Tryd.results19]; rfl) rfl ⟨by rw [HN.out]; rfl, bdn (bdn (Below.refl _ _) _) _⟩
        · have hbi : ((50 : Int) == (b : Int)) = false := by simp; omega
          go_wp2
          go_quiet (fail)
          go_wp2
          go_roundw
          case rel =>
            obtain ⟨a0, a1, a2, a3, a4, a5⟩ := HA.out
            exact ⟨4, n + nq, by omega, by go_num, by omega, by omega, by omega, by omega, by omega, by omega, rfl⟩
          case measure => simp [intOf]
      · by_cases h : b = 51
        · have HN : Hid (plS s = some 4) := by simp only [Hid]; rw [HP.out, h]; rfl
          subst h
          go_wp2
          go_quiet (fail)
          go_wp2
          refine bodyPost_ret (by simp [results, Tryd.results19]; rfl) rfl ⟨by rw [HN.out]; rfl, bdn (bdn (Below.refl _ _) _) _⟩
        · have hbi : ((51 : Int) == (b : Int)) = false := by simp; omega
          go_wp2
          go_quiet (fail)
          go_wp2
          go_roundw
          case rel =>
            obtain ⟨a0, a1, a2, a3, a4, a5⟩ := HA.out
            exact ⟨5, n + nq, by omega, by go_num, by omega, by omega, by omega, by omega, by omega, by omega, rfl⟩
          case measure => simp [intOf]
      · by_cases h : b = 74
        · have HN : Hid (plS s = some 5) := by simp only [Hid]; rw [HP.out, h]; rfl
          subst h
          go_wp2
          go_quiet (fail)
          go_wp2
          refine bodyPost_ret (by simp [results, Tryd.results19]; rfl) rfl ⟨by rw [HN.out]; rfl, bdn (bdn (Below.refl _ _) _) _⟩
        · have hbi : ((74 : Int) == (b : Int)) = false := by simp; omega
          go_wp2
          go_quiet (fail)
          go_wp2
          go_roundw
          case rel =>
            obtain ⟨a0, a1, a2, a3, a4, a5⟩ := HA.out
            exact ⟨6, n + nq, by omega, by go_num, by omega, by omega, by omega, by omega, by omega, by omega, rfl⟩
          case measure => simp [intOf]
      · have HN : Hid (plS s = none) := by
          obtain ⟨a0, a1, a2, a3, a4, a5⟩ := HA.out
          simp only [Hid]; rw [HP.out]; unfold plv
          rw [if_neg (a0 (by omega)), if_neg (a1 (by omega)), if_neg (a2 (by omega)), if_neg (a3 (by omega)), if_neg (a4 (by omega)), if_neg (a5 (by omega))]
        go_wp2
        refine bodyPost_ret (by simp [results, Tryd.results19]; rfl) rfl ⟨by rw [HN.out]; rfl, bdn (Below.refl _ _) _⟩
  · have h1i : ((s.size : Int) != 1) = true := by simp; omega
    have HN : Hid (plS s = none) := by simp [Hid, plS, h1]
    go_enter Tryd.func19, Tryd.ntmps19
    go_wp2
    refine bodyPost_ret (by simp [results, Tryd.results19]; rfl) rfl ⟨by rw [HN.out]; rfl, Below.refl _ _⟩
end Go.Proofs.YtfpjeclbilhgdaaDoor
