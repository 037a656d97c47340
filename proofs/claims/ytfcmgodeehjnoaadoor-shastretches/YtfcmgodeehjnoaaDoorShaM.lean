/- SHA-256 as numbers, apart from programs: FIPS 180-4, word by word; the constants by the roots of primes. -/
import Derived.Test.YtfcmgodeehjnoaaDoorBase
namespace Go.Proofs.YtfcmgodeehjnoaaDoor
/-- A word's bits, n places to the right, round about. -/
def rotN (x n : Nat) : Nat := (x >>> n) ||| ((x <<< (32 - n)) % 4294967296)
def notN (x : Nat) : Nat := 4294967295 - x
def addN (a b : Nat) : Nat := (a + b) % 4294967296
def primesN : List Nat := [2, 3, 5, 7, 11, 13, 17, 19, 23, 29, 31, 37, 41, 43, 47, 53, 59, 61, 67, 71, 73, 79, 83, 89, 97, 101, 103, 107, 109, 113, 127, 131, 137, 139, 149, 151, 157, 163, 167, 173, 179, 181, 191, 193, 197, 199, 211, 223, 227, 229, 233, 239, 241, 251, 257, 263, 269, 271, 277, 281, 283, 293, 307, 311]
/-- The greatest x below 2^(k+1), in steps of bits, whose e-th power is at most p times 2^(32 e). -/
def rootF (p e : Nat) : Nat → Nat → Nat
  | 0, x => if (x + 1) ^ e ≤ p * 2 ^ (32 * e) then x + 1 else x
  | k + 1, x => rootF p e k (if (x + 2 ^ (k + 1)) ^ e ≤ p * 2 ^ (32 * e) then x + 2 ^ (k + 1) else x)
def rootN (p e : Nat) : Nat := rootF p e 36 0 % 4294967296
def kN : List Nat := primesN.map (rootN · 3)
def hN : List Nat := (primesN.take 8).map (rootN · 2)
theorem kN_first : kN.take 4 = [0x428a2f98, 0x71374491, 0xb5c0fbcf, 0xe9b5dba5] := by decide +kernel
theorem hN_is : hN = [0x6a09e667, 0xbb67ae85, 0x3c6ef372, 0xa54ff53a, 0x510e527f, 0x9b05688c, 0x1f83d9ab, 0x5be0cd19] := by decide +kernel
theorem kN_is : kN = [0x428a2f98,0x71374491,0xb5c0fbcf,0xe9b5dba5,0x3956c25b,0x59f111f1,0x923f82a4,0xab1c5ed5,0xd807aa98,0x12835b01,0x243185be,0x550c7dc3,0x72be5d74,0x80deb1fe,0x9bdc06a7,0xc19bf174,0xe49b69c1,0xefbe4786,0x0fc19dc6,0x240ca1cc,0x2de92c6f,0x4a7484aa,0x5cb0a9dc,0x76f988da,0x983e5152,0xa831c66d,0xb00327c8,0xbf597fc7,0xc6e00bf3,0xd5a79147,0x06ca6351,0x14292967,0x27b70a85,0x2e1b2138,0x4d2c6dfc,0x53380d13,0x650a7354,0x766a0abb,0x81c2c92e,0x92722c85,0xa2bfe8a1,0xa81a664b,0xc24b8b70,0xc76c51a3,0xd192e819,0xd6990624,0xf40e3585,0x106aa070,0x19a4c116,0x1e376c08,0x2748774c,0x34b0bcb5,0x391c0cb3,0x4ed8aa4a,0x5b9cca4f,0x682e6ff3,0x748f82ee,0x78a5636f,0x84c87814,0x8cc70208,0x90befffa,0xa4506ceb,0xbef9a3f7,0xc67178f2] := by decide +kernel
/-- The t-th word of a block's row: t below 16 out of the bytes, else out of the words ahead (the row is handed on, its last word first). -/
def wordN (m : List UInt8) (t : Nat) : Nat := (m.getD (4 * t) 0).toNat * 16777216 + (m.getD (4 * t + 1) 0).toNat * 65536 + (m.getD (4 * t + 2) 0).toNat * 256 + (m.getD (4 * t + 3) 0).toNat
def sig0 (x : Nat) : Nat := (rotN x 7 ^^^ rotN x 18) ^^^ (x >>> 3)
def sig1 (x : Nat) : Nat := (rotN x 17 ^^^ rotN x 19) ^^^ (x >>> 10)
def nextN (w : List Nat) (t : Nat) : Nat := addN (addN (addN (sig1 (w.getD (t - 2) 0)) (w.getD (t - 7) 0)) (sig0 (w.getD (t - 15) 0))) (w.getD (t - 16) 0)
def growN : Nat → List Nat → List Nat
  | 0, w => w
  | k + 1, w => growN k (w ++ [nextN w w.length])
def rowN (m : List UInt8) : List Nat := growN 48 ((List.range 16).map (wordN m))
/-- The eight numbers. -/
structure St8 where
  (a b c d e f g h : Nat)
def roundN (s : St8) (k w : Nat) : St8 :=
  let t1 := addN (addN (addN (addN s.h ((rotN s.e 6 ^^^ rotN s.e 11) ^^^ rotN s.e 25)) ((s.e &&& s.f) ||| (notN s.e &&& s.g))) k) w
  let t2 := addN ((rotN s.a 2 ^^^ rotN s.a 13) ^^^ rotN s.a 22) (((s.a &&& s.b) ||| (s.a &&& s.c)) ||| (s.b &&& s.c))
  ⟨addN t1 t2, s.a, s.b, s.c, addN s.d t1, s.e, s.f, s.g⟩
def roundsN (s : St8) (kw : List (Nat × Nat)) : St8 := kw.foldl (fun s x => roundN s x.1 x.2) s
def blockN (s : St8) (m : List UInt8) : St8 :=
  let r := roundsN s (kN.zip (rowN m))
  ⟨addN s.a r.a, addN s.b r.b, addN s.c r.c, addN s.d r.d, addN s.e r.e, addN s.f r.f, addN s.g r.g, addN s.h r.h⟩
def startN : St8 := ⟨0x6a09e667, 0xbb67ae85, 0x3c6ef372, 0xa54ff53a, 0x510e527f, 0x9b05688c, 0x1f83d9ab, 0x5be0cd19⟩
def blocksN : Nat → St8 → List UInt8 → St8
  | 0, s, _ => s
  | k + 1, s, l => blocksN k (blockN s (l.take 64)) (l.drop 64)
def bytes4 (x : Nat) : List UInt8 := [UInt8.ofNat (x >>> 24), UInt8.ofNat (x >>> 16), UInt8.ofNat (x >>> 8), UInt8.ofNat x]
def bytes8 (x : Nat) : List UInt8 := bytes4 (x >>> 32) ++ bytes4 x
/-- The bytes with the 1, the zeros and the length behind them. -/
def padN (l : List UInt8) : List UInt8 := l ++ (0x80 : UInt8) :: (List.replicate ((119 - l.length % 64) % 64) 0 ++ bytes8 (l.length * 8))
def outN (s : St8) : List UInt8 := bytes4 s.a ++ bytes4 s.b ++ bytes4 s.c ++ bytes4 s.d ++ bytes4 s.e ++ bytes4 s.f ++ bytes4 s.g ++ bytes4 s.h
def sumN (l : List UInt8) : List UInt8 := outN (blocksN ((padN l).length / 64) startN (padN l))
theorem sum_abc : sumN [97, 98, 99] = [0xba, 0x78, 0x16, 0xbf, 0x8f, 0x01, 0xcf, 0xea, 0x41, 0x41, 0x40, 0xde, 0x5d, 0xae, 0x22, 0x23, 0xb0, 0x03, 0x61, 0xa3, 0x96, 0x17, 0x7a, 0x9c, 0xb4, 0x10, 0xff, 0x61, 0xf2, 0x00, 0x15, 0xad] := by decide +kernel
theorem out_len (s : St8) : (outN s).length = 32 := rfl
theorem pad_len (l : List UInt8) : (padN l).length % 64 = 0 := by
  unfold padN
  simp only [List.length_append, List.length_cons, List.length_replicate, bytes8, bytes4, List.length_nil]
  omega
/-- Whole blocks ahead don't touch what comes behind. -/
theorem blocks_append : ∀ (k j : Nat) (s : St8) (l r : List UInt8), l.length = 64 * k → blocksN (k + j) s (l ++ r) = blocksN j (blocksN k s l) r
  | 0, j, s, l, r, h => by
    obtain rfl := List.eq_nil_of_length_eq_zero (by omega : l.length = 0)
    simp [blocksN]
  | k + 1, j, s, l, r, h => by
    have h1 : (l ++ r).take 64 = l.take 64 := by rw [List.take_append_of_le_length (by omega)]
    have h2 : (l ++ r).drop 64 = l.drop 64 ++ r := by rw [List.drop_append_of_le_length (by omega)]
    rw [show k + 1 + j = (k + j) + 1 from by omega, blocksN, blocksN, h1, h2]
    exact blocks_append k j _ _ r (by rw [List.length_drop]; omega)
end Go.Proofs.YtfcmgodeehjnoaaDoor
