/- Digits of bytes, apart from programs; a sum that goes on: the whole blocks done, the rest kept. -/
import Derived.Test.YtfcmgodeehjnoaaDoorShaM
namespace Go.Proofs.YtfcmgodeehjnoaaDoor
def digN (n : Nat) : UInt8 := if n < 10 then UInt8.ofNat (48 + n) else UInt8.ofNat (87 + n)
def hexN (l : List UInt8) : List UInt8 := l.flatMap fun b => [digN (b.toNat / 16), digN (b.toNat % 16)]
/-- What a digit says. -/
def valN (c : UInt8) : Option Nat := if 48 ≤ c.toNat ∧ c.toNat ≤ 57 then some (c.toNat - 48) else if 97 ≤ c.toNat ∧ c.toNat ≤ 102 then some (c.toNat - 87) else none
def unhexN : List UInt8 → Option (List UInt8)
  | [] => some []
  | [_] => none
  | a :: b :: l => match valN a, valN b, unhexN l with
    | some x, some y, some r => some (UInt8.ofNat (16 * x + y) :: r)
    | _, _, _ => none
theorem val_dig : ∀ n : Nat, n < 16 → valN (digN n) = some n := by decide
theorem hex_len (l : List UInt8) : (hexN l).length = 2 * l.length := by
  induction l with
  | nil => rfl
  | cons b l ih =>
    have h : hexN (b :: l) = digN (b.toNat / 16) :: digN (b.toNat % 16) :: hexN l := rfl
    rw [h]; simp only [List.length_cons, ih]; omega
theorem unhex_hex : ∀ l : List UInt8, unhexN (hexN l) = some l
  | [] => rfl
  | b :: l => by
    have h : hexN (b :: l) = digN (b.toNat / 16) :: digN (b.toNat % 16) :: hexN l := rfl
    have hb : b.toNat < 256 := b.toNat_lt
    rw [h, unhexN, val_dig _ (by omega), val_dig _ (by omega), unhex_hex l]
    have e : UInt8.ofNat (16 * (b.toNat / 16) + b.toNat % 16) = b := by
      rw [show 16 * (b.toNat / 16) + b.toNat % 16 = b.toNat from by omega]; simp
    simp only [e]
/-- The blocks that are whole, taken. -/
def foldN (s : St8) (l : List UInt8) : St8 := blocksN (l.length / 64) s l
theorem fold_append (s : St8) (l r : List UInt8) (h : l.length % 64 = 0) : foldN s (l ++ r) = foldN (foldN s l) r := by
  unfold foldN
  have h1 : (l ++ r).length / 64 = l.length / 64 + r.length / 64 := by rw [List.length_append]; omega
  rw [h1]
  exact blocks_append _ _ s l r (by omega)
/-- Only the whole blocks count. -/
theorem blocks_take : ∀ (k : Nat) (s : St8) (l : List UInt8), blocksN k s l = blocksN k s (l.take (64 * k))
  | 0, _, _ => rfl
  | k + 1, s, l => by
    rw [blocksN, blocksN, List.take_take, show min 64 (64 * (k + 1)) = 64 from by omega, List.drop_take, show 64 * (k + 1) - 64 = 64 * k from by omega]
    exact blocks_take k _ _
/-- A sum that has taken l: the numbers behind the whole blocks, and the bytes behind them. -/
def goneN (l : List UInt8) : St8 := foldN startN l
def keptN (l : List UInt8) : List UInt8 := l.drop (64 * (l.length / 64))
theorem kept_len (l : List UInt8) : (keptN l).length = l.length % 64 := by unfold keptN; rw [List.length_drop]; omega
theorem gone_app (l r : List UInt8) : goneN (l ++ r) = foldN (goneN l) (keptN l ++ r) := by
  have h : l ++ r = l.take (64 * (l.length / 64)) ++ (keptN l ++ r) := by unfold keptN; rw [← List.append_assoc, List.take_append_drop]
  have h2 : goneN l = foldN startN (l.take (64 * (l.length / 64))) := by
    unfold goneN foldN
    rw [blocks_take, List.length_take]
    congr 1; omega
  have h3 : foldN startN (l ++ r) = foldN startN (l.take (64 * (l.length / 64)) ++ (keptN l ++ r)) := by rw [← h]
  unfold goneN at *
  rw [h3, fold_append _ _ _ (by rw [List.length_take]; omega), ← h2]
theorem kept_app (l r : List UInt8) : keptN (l ++ r) = keptN (keptN l ++ r) := by
  have hl := kept_len l
  unfold keptN at *
  rw [List.length_append, List.length_append, hl]
  rw [show 64 * ((l.length + r.length) / 64) = 64 * (l.length / 64) + 64 * ((l.length % 64 + r.length) / 64) from by omega, ← List.drop_drop]
  congr 1
  rw [List.drop_append_of_le_length (by omega)]
/-- The sum out of what is gone, what is kept, and how many there were. -/
theorem sum_gone (l : List UInt8) : sumN l = outN (foldN (goneN l) (keptN l ++ (0x80 : UInt8) :: (List.replicate ((119 - l.length % 64) % 64) 0 ++ bytes8 (l.length * 8)))) := by
  unfold sumN
  show outN (foldN startN (padN l)) = _
  unfold padN
  rw [show foldN startN (l ++ (0x80 : UInt8) :: (List.replicate ((119 - l.length % 64) % 64) 0 ++ bytes8 (l.length * 8))) = goneN (l ++ (0x80 : UInt8) :: (List.replicate ((119 - l.length % 64) % 64) 0 ++ bytes8 (l.length * 8))) from rfl, gone_app]
end Go.Proofs.YtfcmgodeehjnoaaDoor
