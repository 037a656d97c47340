/- Words for HoldShifts. -/
import Derived.Test.YtebcnlhgkpaghaaLives
import Derived.Test.YtebcnlhgkpaghaaShift
import Derived.Test.YtebcnlhgkpaghaaInfo
namespace Go.Proofs.Ytebcnlhgkpaghaa
open Go.RowKit Go.Sort
theorem u64_wrap (n : Int) : IntKind.u64.wrap n = n % 18446744073709551616 := by
  simp [IntKind.wrap, IntKind.bits, IntKind.signed]
theorem mod_num (n : Int) (k : Nat) (h0 : 0 < k) (hk : k ≤ 4097) : ∃ m : Nat, m < k ∧ wrap64 ((IntKind.u64.wrap n).tmod k) = m := by
  have h1 : 0 ≤ IntKind.u64.wrap n := by rw [u64_wrap]; omega
  have h2 := Int.emod_lt_of_pos (IntKind.u64.wrap n) (by omega : (0 : Int) < k)
  have h3 := Int.emod_nonneg (IntKind.u64.wrap n) (by omega : (k : Int) ≠ 0)
  refine ⟨((IntKind.u64.wrap n).tmod k).toNat, ?_, ?_⟩
  · rw [Int.tmod_eq_emod_of_nonneg h1]; omega
  · rw [Int.tmod_eq_emod_of_nonneg h1]; unfold wrap64; omega
/-- The integers of a row, as they lie in memory. -/
def IntsAt (w : World) (p : Option Addr) (xs : List Int) : Prop := ∀ j, (h : j < xs.length) → ∃ b off, p = some ⟨b, off, none⟩ ∧ b < w.heap.size ∧ w.cell? ⟨b, off + j, none⟩ = some (.int .i64 xs[j])
theorem IntsAt.below {w w' : World} {p : Option Addr} {xs : List Int} (h : IntsAt w p xs) (hb : Below w.heap.size w w') : IntsAt w' p xs := fun j hj => by
  obtain ⟨b, off, hp, hbl, c0⟩ := h j hj
  exact ⟨b, off, hp, Nat.lt_of_lt_of_le hbl hb.size, (hb.cell (p := ⟨b, off + j, none⟩) hbl).trans c0⟩
/-- The three objects. -/
structure Three (T : Tab) (a b : Int) (r1 r5 r7 : Rc) : Prop where
  t1 : T 1 = some r1
  t5 : T 5 = some r5
  t7 : T 7 = some r7
  o1 : r1.ob = ⟨1, 1, 1099511627776, a, 1, 2, [], [5]⟩
  o5 : r5.ob = ⟨5, 1, a, b, 1, 2, [], [7]⟩
  o7 : r7.ob = ⟨7, 1, b, 0, 1, 2, [], []⟩
theorem info_of {w : World} {base tb mb : Nat} {D : DataW Unit} {T : Tab} (h : TAt w base tb mb D T) (x : Int) (hx : i64 x) (r : Rc) (hT : T x = some r) {id kind quota used links df : Int} {ents : List Int} (ho : r.ob = ⟨id, kind, quota, used, links, df, [], ents⟩) (W : World) (hb : Below w.heap.size w W) :
    Calls Try.prog 28 #[.pointer (some ⟨tb, 0, none⟩), .int .i64 x] W fun e w' => ∃ sp c, e = .returned (.tuple #[.agg #[.int .i64 id, .int .i64 kind, .int .i64 quota, .int .i64 used, .int .i64 links, .int .i64 df, .slice sp 0 c], .bool true]) ∧ Below W.heap.size W w' := by
  refine (Info_any (h.below hb) x hx r hT (by rw [ho]; simp)).mono ?_
  rintro e w' ⟨v, rfl, ⟨sp, c, rfl, _⟩, hb'⟩
  refine ⟨sp, c, ?_, hb'⟩
  unfold infoV
  rw [ho]; rfl
theorem Three.upd_in {T : Tab} {a b n : Int} {r1 r5 r7 : Rc} (h : Three T a b r1 r5 r7) : Three (upd (upd T 5 (shR r5 n)) 7 (shS r7 n)) a (b + n) r1 (shR r5 n) (shS r7 n) := by
  refine ⟨?_, ?_, ?_, h.o1, ?_, ?_⟩
  · unfold upd; rw [if_neg (by decide), if_neg (by decide)]; exact h.t1
  · unfold upd; rw [if_neg (by decide), if_pos rfl]
  · unfold upd; rw [if_pos rfl]
  · show ({ r5.ob with used := r5.ob.used + n } : Ob) = _; rw [h.o5]
  · show ({ r7.ob with quota := r7.ob.quota + n } : Ob) = _; rw [h.o7]
theorem Three.upd_out {T : Tab} {a b n : Int} {r1 r5 r7 : Rc} (h : Three T a b r1 r5 r7) : Three (upd (upd T 1 (shR r1 n)) 5 (shS r5 n)) (a + n) b (shR r1 n) (shS r5 n) r7 := by
  refine ⟨?_, ?_, ?_, ?_, ?_, h.o7⟩
  · unfold upd; rw [if_neg (by decide), if_pos rfl]
  · unfold upd; rw [if_pos rfl]
  · unfold upd; rw [if_neg (by decide), if_neg (by decide)]; exact h.t7
  · show ({ r1.ob with used := r1.ob.used + n } : Ob) = _; rw [h.o1]
  · show ({ r5.ob with quota := r5.ob.quota + n } : Ob) = _; rw [h.o5]
end Go.Proofs.Ytebcnlhgkpaghaa
