/- The reference's own way to the constants, in its words, and that they are FIPS 180-4's. -/
import Derived.Test.YtfcmgodeehjnoaaDoorShaM
namespace Go.Proofs.YtfcmgodeehjnoaaDoor
/-- One row of a long product: what stands in out from place i + k on, and what is carried. -/
def timesK (ai i : Nat) : List Nat → Nat → List Nat → Nat → List Nat × Nat
  | [], _, out, c => (out, c)
  | bk :: bs, k, out, c => timesK ai i bs (k + 1) (out.set (i + k) ((ai * bk + out.getD (i + k) 0 + c) % 18446744073709551616 % 4294967296)) ((ai * bk + out.getD (i + k) 0 + c) % 18446744073709551616 / 4294967296)
def timesI (b : List Nat) : List Nat → Nat → List Nat → List Nat
  | [], _, out => out
  | ai :: xs, i, out => timesI b xs (i + 1) ((timesK ai i b 0 out 0).1.set (i + b.length) (((timesK ai i b 0 out 0).1.getD (i + b.length) 0 + (timesK ai i b 0 out 0).2) % 18446744073709551616))
def timesR (a b : List Nat) : List Nat := timesI b a 0 (List.replicate (a.length + b.length) 0)
def powR (f : List Nat) : Nat → List Nat → List Nat
  | 0, n => n
  | e + 1, n => powR f e (timesR n f)
def highR (l : List Nat) : Nat := l.foldr (fun x h => (h * 4294967296 + x) % 18446744073709551616) 0
def fitsR (x p e : Nat) : Bool :=
  let n := powR [x % 4294967296, x / 4294967296] e [1]
  decide (highR (n.drop e) < p) || (decide (highR (n.drop e) = p) && !((n.take e).any fun y => decide (0 < y)))
def rootR (p e : Nat) : Nat → Nat → Nat
  | 0, x => x
  | k + 1, x => rootR p e k (if fitsR (x + 2 ^ k) p e = true then x + 2 ^ k else x)
def isPrimeR (p : Nat) : Bool := (List.range 20).all fun d => decide (p < (d + 2) * (d + 2)) || decide (p % (d + 2) ≠ 0)
def primeR : Nat → Nat → Nat → Nat
  | 0, _, _ => 0
  | f + 1, p, n => if isPrimeR p = true then (if n = 0 then p else primeR f (p + 1) (n - 1)) else primeR f (p + 1) n
theorem primes_are : (List.range 64).map (primeR 398 2) = primesN := by decide +kernel
theorem k_are : (List.range 64).map (fun i => rootR (primeR 398 2 i) 3 37 0 % 4294967296) = kN := by decide +kernel
theorem h_are : (List.range 8).map (fun i => rootR (primeR 398 2 i) 2 37 0 % 4294967296) = hN := by decide +kernel
end Go.Proofs.YtfcmgodeehjnoaaDoor
