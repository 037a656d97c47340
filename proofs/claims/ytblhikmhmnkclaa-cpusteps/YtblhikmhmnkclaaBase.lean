/- What stands in memory of a row of bytes in pages, and the small calls of package pages. -/
import Derived.Test.YtblhikmhmnkclaaProg
import Derived.WalkKit
import Derived.Handy
import Derived.Laws.AppendOwn
import Derived.Laws.OwnMore
import Derived.Lib.Hide
import Derived.IntWalk
namespace Go.Proofs.Ytblhikmhmnkclaa
open Go.RowKit
theorem wrap64_id {n : Int} (h0 : -9223372036854775808 ≤ n) (h1 : n < 9223372036854775808) : wrap64 n = n := by unfold wrap64; omega
def u8s (l : List UInt8) : List Value := l.map fun b => .int .u8 (b.toNat : Int)
/-- The bytes of page i, with 0 behind the end. -/
def pad (d : List UInt8) (i : Nat) : List UInt8 := (List.range 64).map fun j => d.getD (64 * i + j) 0
def lfs (l : List (Nat × Bool)) : List Value := l.flatMap fun x => [.pointer (some ⟨x.1, 0, none⟩), .bool x.2]
theorem lfs_len (l : List (Nat × Bool)) : (lfs l).length = l.length * 2 := by
  unfold lfs; induction l with
  | nil => rfl
  | cons x l ih => simp only [List.flatMap_cons, List.length_append, ih, List.length_cons, List.length_nil]; omega
theorem lfs_at : ∀ (l : List (Nat × Bool)) (i : Nat) (x : Nat × Bool), l[i]? = some x → (lfs l)[i * 2]? = some (.pointer (some ⟨x.1, 0, none⟩)) ∧ (lfs l)[i * 2 + 1]? = some (.bool x.2)
  | [], i, x, h => by simp at h
  | y :: l, 0, x, h => by simp at h; subst h; exact ⟨rfl, rfl⟩
  | y :: l, i + 1, x, h => by
    have := lfs_at l i x (by simpa using h)
    rw [show (i + 1) * 2 = i * 2 + 1 + 1 from by omega]
    exact this
/-- The object's row of leaves and its own pages are none of the blocks K, which are all there already. -/
structure Foe (K : Nat → Prop) (w : World) (Bb : Nat) (ls : List (Nat × Bool)) : Prop where
  old : ∀ k, K k → k < w.heap.size
  pg : ∀ x ∈ ls, ¬ K x.1
  row : ∀ c t f a n cp, w.heap[Bb]? = some (.cells c t f) → c[1]? = some (.slice (some a) n cp) → ¬ K a.block
/-- No blocks at all. -/
def N0 : Nat → Prop := fun _ => False
theorem foe0 (w : World) (Bb : Nat) (ls : List (Nat × Bool)) : Foe N0 w Bb ls := ⟨fun _ h => h.elim, fun _ _ h => h, fun _ _ _ _ _ _ _ _ h => h⟩
theorem Foe.kept {K : Nat → Prop} {w w' : World} {Bb : Nat} {ls : List (Nat × Bool)} (h : Foe K w Bb ls) (hs : w.heap.size ≤ w'.heap.size) (hb : w'.heap[Bb]? = w.heap[Bb]?) : Foe K w' Bb ls := ⟨fun k hk => Nat.lt_of_lt_of_le (h.old k hk) hs, h.pg, fun c t f a n cp e => h.row c t f a n cp (hb.symm.trans e)⟩
/-- The object at Bb holds the bytes d; its leaves are ls: the page's block, and whether it is its own. What it may write lies at or behind base. -/
structure BAt (K : Nat → Prop) (w : World) (base Bb : Nat) (d : List UInt8) (ls : List (Nat × Bool)) : Prop where
  blk : ∃ v, w.heap[Bb]? = some (.cells #[.int .i64 d.length, v] 47 (0, 0)) ∧ w.ownsRow base 79 2 v ls.length (lfs ls)
  pgs : ∀ (i : Nat) (x : Nat × Bool), ls[i]? = some x → w.heap[x.1]? = some (.cells (u8s (pad d i)).toArray 96 (0, 0)) ∧ (x.2 = true → base ≤ x.1)
  dis : (ls.map (·.1)).Nodup
  len : d.length ≤ 4096
  cnt : ls.length = (d.length + 63) / 64
  bb : base ≤ Bb
  foe : Foe K w Bb ls
variable {K : Nat → Prop}
theorem pagesOf_any (n : Nat) (hn : n ≤ 4096) (w : World) : Calls Try.prog 37 #[.int .i64 n] w fun e w' => e = .returned (.int .i64 ((n + 63) / 64 : Nat)) ∧ w' = w := by
  go_enter Try.func37, Try.ntmps37
  have h : ((n : Int) + 64 - 1) / 64 = (((n + 63) / 64 : Nat) : Int) := by omega
  go_wp2
  go_ret
  rw [h]
  exact ⟨rfl, rfl⟩
theorem Len_nil (w : World) : Calls Try.prog 23 #[.pointer none] w fun e w' => e = .returned (.int .i64 0) ∧ w' = w := by
  go_enter Try.func23, Try.ntmps23
  go_wp2
  go_ret
  exact ⟨rfl, rfl⟩
theorem Len_any {base Bb : Nat} {d : List UInt8} {ls : List (Nat × Bool)} {w : World} (h : BAt K w base Bb d ls) : Calls Try.prog 23 #[.pointer (some ⟨Bb, 0, none⟩)] w fun e w' => e = .returned (.int .i64 d.length) ∧ w' = w := by
  obtain ⟨v, hv, _⟩ := h.blk
  have c0 : w.cell? ⟨Bb, 0, none⟩ = some (.int .i64 d.length) := by simp [World.cell?, hv]
  clear hv h
  go_enter Try.func23, Try.ntmps23
  go_wp2
  go_ret
  exact ⟨rfl, rfl⟩
/-- May n bytes from at on be had, of so many? -/
def fitsB (len : Nat) (at' n : Int) : Bool := decide (0 ≤ at' ∧ 0 ≤ n ∧ n ≤ len - at')
theorem check_nil (a n : Int) (w : World) : Calls Try.prog 14 #[.pointer none, .int .i64 a, .int .i64 n] w fun e w' => e = .returned (.int .i64 4) ∧ w' = w := by
  go_enter Try.func14, Try.ntmps14
  go_wp2
  go_ret
  exact ⟨rfl, rfl⟩
theorem check_any {base Bb : Nat} {d : List UInt8} {ls : List (Nat × Bool)} {w : World} (h : BAt K w base Bb d ls) (a n : Int) (ha : a ≤ 9223372036854775807) : Calls Try.prog 14 #[.pointer (some ⟨Bb, 0, none⟩), .int .i64 a, .int .i64 n] w fun e w' => e = .returned (.int .i64 (if fitsB d.length a n = true then 0 else 9)) ∧ w' = w := by
  obtain ⟨v, hv, _⟩ := h.blk
  have c0 : w.cell? ⟨Bb, 0, none⟩ = some (.int .i64 d.length) := by simp [World.cell?, hv]
  have hl := h.len
  clear hv h
  unfold fitsB
  by_cases h1 : a < 0
  · have hd : decide (0 ≤ a ∧ 0 ≤ n ∧ n ≤ (d.length : Int) - a) = false := by simp; omega
    rw [hd]; clear hd
    go_enter Try.func14, Try.ntmps14
    go_wp2
    go_ret
    exact ⟨rfl, rfl⟩
  · by_cases h2 : n < 0
    · have hd : decide (0 ≤ a ∧ 0 ≤ n ∧ n ≤ (d.length : Int) - a) = false := by simp; omega
      rw [hd]; clear hd
      go_enter Try.func14, Try.ntmps14
      go_wp2
      go_ret
      exact ⟨rfl, rfl⟩
    · have hw : wrap64 ((d.length : Int) - a) = (d.length : Int) - a := wrap64_id (by omega) (by omega)
      by_cases h3 : (d.length : Int) - a < n
      · have hd : decide (0 ≤ a ∧ 0 ≤ n ∧ n ≤ (d.length : Int) - a) = false := by simp; omega
        rw [hd]; clear hd
        go_enter Try.func14, Try.ntmps14
        go_wp2
        go_ret
        exact ⟨rfl, rfl⟩
      · have hd : decide (0 ≤ a ∧ 0 ≤ n ∧ n ≤ (d.length : Int) - a) = true := by simp; omega
        rw [hd]; clear hd
        go_enter Try.func14, Try.ntmps14
        go_wp2
        go_ret
        exact ⟨rfl, rfl⟩
/-- How many bytes of page i are taken. -/
def takenI (len i : Nat) : Int := max 0 (min ((len : Int) - i * 64) 64)
end Go.Proofs.Ytblhikmhmnkclaa
