/- CpuWays: plain facts. -/
import Derived.Test.YtmmejicmjalibabEqS
namespace Go.Proofs.Ytmmejicmjalibab
open Go.RowKit Go.Lib
theorem wrap_idW {x : Int} (h : u64ok x) : IntKind.u64.wrap x = x := by rw [IntKind.wrap_u64]; exact Int.emod_eq_of_lt h.1 h.2
/-- The bytes of a way. -/
def wyB (op : UInt8) (n : Int) : List UInt8 := [op, 2, UInt8.ofNat (n % 256).toNat, UInt8.ofNat (n / 256 % 256).toNat]
theorem wy_dec (op : UInt8) (n : Int) (hop : op = 23 ∨ op = 24) (h1 : -32768 ≤ n) (h2 : n ≤ 32767) : decC ⟨(wyB op n).toArray⟩ = some ⟨op.toNat, 2, 0, 0, n⟩ := by
  have l1 : 0 ≤ n % 256 ∧ n % 256 < 256 := ⟨Int.emod_nonneg _ (by decide), Int.emod_lt_of_pos _ (by decide)⟩
  have l2 : 0 ≤ n / 256 % 256 ∧ n / 256 % 256 < 256 := ⟨Int.emod_nonneg _ (by decide), Int.emod_lt_of_pos _ (by decide)⟩
  have b0 : byS ⟨(wyB op n).toArray⟩ 0 = op.toNat := rfl
  have b1 : byS ⟨(wyB op n).toArray⟩ 1 = 2 := rfl
  have b2 : (byS ⟨(wyB op n).toArray⟩ 2 : Int) = n % 256 := by
    show (((UInt8.ofNat (n % 256).toNat).toNat : Nat) : Int) = _
    rw [UInt8.toNat_ofNat']; omega
  have b3 : (byS ⟨(wyB op n).toArray⟩ 3 : Int) = n / 256 % 256 := by
    show (((UInt8.ofNat (n / 256 % 256).toNat).toNat : Nat) : Int) = _
    rw [UInt8.toNat_ofNat']; omega
  have hs : sh (op.toNat : Int) = 6 := by rcases hop with rfl | rfl <;> decide
  have ho : (op.toNat : Int) = 23 ∨ (op.toNat : Int) = 24 := by rcases hop with rfl | rfl <;> decide
  have hu : unC ⟨(wyB op n).toArray⟩ = ⟨op.toNat, 2, 0, 0, n⟩ := by
    unfold unC
    rw [b0, hs]
    simp [up, wd, wth, upW, b0, b1, b2, b3]
    omega
  have hr : rightI ⟨op.toNat, 2, 0, 0, n⟩ = true := by
    unfold rightI okW
    rw [hs]
    simp [rst, wd, wth, fld, lowW, highW]
    omega
  have hq : q4s (bytesC ⟨op.toNat, 2, 0, 0, n⟩) = ⟨(wyB op n).toArray⟩ := by
    unfold bytesC
    rw [hs]
    have : pk ⟨op.toNat, 2, 0, 0, n⟩ 6 3 = ((op.toNat : Int), 2, n % 256, n / 256 % 256) := by
      simp [pk, pkW, wd]
      omega
    rw [this]
    unfold q4s q4l toU wyB
    congr 2
    simp only [List.map_cons, List.map_nil]
    rw [Int.emod_emod, Int.emod_emod]
    rcases hop with rfl | rfl <;> rfl
  unfold decC
  rw [hu, hq, hr]
  simp
  rfl
def r1v (x : Int) : List Int := [0, x, 0, 0, 0, 0, 0, 0, 0, 0, 0, 0, 0, 0, 0, 0]
def rwv (x : Int) : List Int := [0, 0, x, 0, 0, 0, 0, 0, 0, 0, 0, 0, 0, 0, 0, 0]
def rcv (x : Int) : List Int := [0, x, 0, 0, 0, 0, 0, 0, 0, 0, 0, 0, 0, 0, 0, 4]
theorem list_ok {l : List Int} {pc : Int} (h16 : l.length = 16) (h : ∀ z ∈ l, u64ok z) (hp : u64ok pc) : okR l pc := ⟨h16, h, hp⟩
theorem r1v_ok {x : Int} (hx : u64ok x) : okR (r1v x) 0 := by
  refine ⟨rfl, fun z hz => ?_, zero_ok⟩
  simp [r1v] at hz
  rcases hz with rfl | rfl | rfl <;> first | exact zero_ok | assumption
theorem rwv_ok {x : Int} (hx : u64ok x) : okR (rwv x) 0 := by
  refine ⟨rfl, fun z hz => ?_, zero_ok⟩
  simp [rwv] at hz
  rcases hz with rfl | rfl | rfl <;> first | exact zero_ok | assumption
theorem rcv_ok {x : Int} (hx : u64ok x) : okR (rcv x) 0 := by
  refine ⟨rfl, fun z hz => ?_, zero_ok⟩
  simp [rcv] at hz
  rcases hz with rfl | rfl | rfl | rfl <;> first | exact zero_ok | assumption | (unfold u64ok; omega)
theorem wy_call (x : Int) : overS 1 (r1v x) 0 [25, 15, 1, 0] = (rcv x, x, [25, 15, 1, 0], 1, 0) := by
  have hs : stepS (r1v x) 0 [25, 15, 1, 0] = (rcv x, x, [25, 15, 1, 0], 0) := by
    have hd : decC ⟨#[25, 15, 1, 0]⟩ = some ⟨25, 15, 1, 0, 0⟩ := by decide +kernel
    unfold stepS
    rw [if_pos (by decide)]
    show (match decC ⟨#[25, 15, 1, 0]⟩ with | some c => doS c (r1v x) 0 [25, 15, 1, 0] | none => (r1v x, 0, [25, 15, 1, 0], 4)) = _
    rw [hd]
    rfl
  rw [overS_ran hs]; rfl
theorem wy_back (x : Int) : overS 1 (rcv x) 0 [26, 0, 0, 0] = (rcv x, 4, [26, 0, 0, 0], 1, 0) := by
  have hs : stepS (rcv x) 0 [26, 0, 0, 0] = (rcv x, 4, [26, 0, 0, 0], 0) := by
    have hd : decC ⟨#[26, 0, 0, 0]⟩ = some ⟨26, 0, 0, 0, 0⟩ := by decide +kernel
    unfold stepS
    rw [if_pos (by decide)]
    show (match decC ⟨#[26, 0, 0, 0]⟩ with | some c => doS c (rcv x) 0 [26, 0, 0, 0] | none => (rcv x, 0, [26, 0, 0, 0], 4)) = _
    rw [hd]
    rfl
  rw [overS_ran hs]; rfl
theorem wy_way (op : UInt8) (n x : Int) (hop : op = 23 ∨ op = 24) (h1 : -32768 ≤ n) (h2 : n ≤ 32767) : overS 1 (rwv x) 0 (wyB op n) = (rwv x, brI op.toNat n 4 x, wyB op n, 1, 0) := by
  have hs : stepS (rwv x) 0 (wyB op n) = (rwv x, brI op.toNat n 4 x, wyB op n, 0) := by
    unfold stepS
    rw [if_pos (show (0 : Int) + 4 ≤ ((wyB op n).length : Nat) from by simp [wyB])]
    show (match decC ⟨(wyB op n).toArray⟩ with | some c => doS c (rwv x) 0 (wyB op n) | none => (rwv x, 0, wyB op n, 4)) = _
    rw [wy_dec op n hop h1 h2]
    rcases hop with rfl | rfl <;> rfl
  rw [overS_ran hs]; rfl
end Go.Proofs.Ytmmejicmjalibab
