/- Digits read, apart from programs: one by one, or two by two. -/
import Derived.Test.YtpledmomljjfeaaDoorHexM
import Derived.Test.YtpledmomljjfeaaDoorShelf
namespace Go.Proofs.YtpledmomljjfeaaDoor
/-- Read one by one; what a first digit said is kept. -/
def runN : Option Nat → List UInt8 → Option (List UInt8)
  | none, [] => some []
  | some _, [] => none
  | none, c :: l => match valN c with
    | some x => runN (some x) l
    | none => none
  | some y, c :: l => match valN c with
    | some x => (runN none l).map (UInt8.ofNat (16 * y + x) :: ·)
    | none => none
theorem run_unhex : ∀ l : List UInt8, runN none l = unhexN l
  | [] => rfl
  | [a] => by
    rw [runN, unhexN]
    cases valN a <;> rfl
  | a :: b :: l => by
    rw [runN, unhexN]
    cases ha : valN a with
    | none => rfl
    | some x =>
      simp only [runN]
      cases hb : valN b with
      | none => rfl
      | some y =>
        simp only [run_unhex l]
        cases unhexN l <;> rfl
theorem run_bad {p : Option Nat} {c : UInt8} {l : List UInt8} (h : valN c = none) : runN p (c :: l) = none := by
  cases p <;> simp [runN, h]
theorem run_first {c : UInt8} {l : List UInt8} {x : Nat} (h : valN c = some x) : runN none (c :: l) = runN (some x) l := by simp [runN, h]
theorem run_second {c : UInt8} {l : List UInt8} {x y : Nat} (h : valN c = some x) : runN (some y) (c :: l) = (runN none l).map (UInt8.ofNat (16 * y + x) :: ·) := by simp [runN, h]
theorem val_lt {c : UInt8} {x : Nat} (h : valN c = some x) : x < 16 := by
  unfold valN at h
  split at h
  · cases h; omega
  · split at h
    · cases h; omega
    · cases h
def digL : List UInt8 := [48, 49, 50, 51, 52, 53, 54, 55, 56, 57, 97, 98, 99, 100, 101, 102]
def valI (c : UInt8) : Int := match valN c with
  | some x => (x : Int)
  | none => -1
theorem index_all : ∀ n : Nat, n < 256 → Lib.indexByte digL (UInt8.ofNat n) = valI (UInt8.ofNat n) := by decide +kernel
theorem index_val (c : UInt8) : Lib.indexByte digL c = valI c := by
  have := index_all c.toNat c.toNat_lt
  simpa using this
theorem unhex_even : ∀ l : List UInt8, l.length % 2 = 1 → unhexN l = none
  | [], h => by simp at h
  | [_], _ => rfl
  | a :: b :: l, h => by
    have := unhex_even l (by simp at h; omega)
    rw [unhexN, this]
    cases valN a <;> cases valN b <;> rfl
theorem unhex_len : ∀ (l : List UInt8) {r : List UInt8}, unhexN l = some r → 2 * r.length = l.length
  | [], r, h => by cases h; rfl
  | [_], r, h => by cases h
  | a :: b :: l, r, h => by
    rw [unhexN] at h
    split at h
    · rename_i x y q h1 h2 h3
      cases h
      have := unhex_len l h3
      simp; omega
    · cases h
end Go.Proofs.YtpledmomljjfeaaDoor
