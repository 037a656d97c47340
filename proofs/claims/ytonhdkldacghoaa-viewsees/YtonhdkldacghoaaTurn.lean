/- What turn, Up, Down and Sees, Alters of package label answer, for every label. -/
import Derived.Test.YtonhdkldacghoaaShort
import Derived.Test.YtonhdkldacghoaaLeq
import Derived.Deep.RegionLaw
namespace Go.Proofs.Ytonhdkldacghoaa
open Go.RowKit Go.Sort

theorem step_append_own {P : Program} {ops : Array Oper} {o : Oper} {a : Act} {w : World} {K : Act → World → Prop} {Q : Exit → Act → World → Prop} {E : Prop} (hg : o.guard = none) (s x : Operand) (t : TypeId)
    (ho : o.op = .call { callee := .builtin .append, args := #[s, x], argTypes := #[t, t] })
    (base : Nat) (e : TypeId) (i : TypeInfo) (z : Value) (size bytes : Nat) (ht : P.underlying t = some (.slice e)) (hi : P.info? e = some i) (hz : i.zero = some z)
    (hsize : i.size = size) (hby : i.bytes = bytes) (hzs : z.cells.size = size) (hsz : 0 < size)
    (v : Value) (n : Nat) (xs : List Value) (hs : a.eval s = v) (hown : w.ownsRow base e size v n xs)
    (ad : Addr) (m c : Nat) (news : List Value) (hx : a.eval x = .slice (some ad) m c) (hl : news.length = m * size) (hnews : ∀ j u, news[j]? = some u → w.cell? (ad.add j) = some u) (h1 : ∀ u ∈ news, u.oneCell' = true)
    (h63 : n + m ≤ maxLen) (hbytes : (n + m) * bytes ≤ 140737488355328) (hbase : base ≤ w.heap.size)
    (h : ∀ v' w', w'.ownsRow base e size v' (n + m) (xs ++ news) → w.grownBy w' v.ownBlock → (v' = .slice none 0 0 ↔ v = .slice none 0 0 ∧ m = 0) → K (a.put o.dst v') w') :
    if Region.wanted o (yielded ops a.tmps) = true then Oper.wp P o a w K Q else E := by
  rw [if_pos (by simp [Region.wanted, hg])]
  exact wp_append_own w s x t ho base e i z size bytes ht hi hz hsize hby hzs hsz v n xs hs hown ad m c news hx hl hnews h1 h63 hbytes hbase h

theorem gb {w w' : World} (h : w.grownBy w' none) : Below w.heap.size w w' := ⟨h.os, h.tape, h.output, h.size, fun k hk => h.block k hk (by simp)⟩
def ot (f t l : Int) : Int := if (l == f) = true then t else l
def turnS (f t : Int) (xs : List (Int × Int)) : List (Int × Int) := xs.map fun x => (x.1, ot f t x.2)
theorem turn_snoc (f t : Int) (xs : List (Int × Int)) (k : Nat) (h : k < xs.length) : turnS f t (xs.take (k + 1)) = turnS f t (xs.take k) ++ [(xs[k].1, ot f t xs[k].2)] := by
  unfold turnS
  rw [List.take_succ_eq_append_getElem h, List.map_append]; rfl
theorem turn_len (f t : Int) (xs : List (Int × Int)) : (turnS f t xs).length = xs.length := List.length_map ..

theorem turn_start (d f t : Int) (p : Option Addr) (n cap : Nat) (w w0 : World) (h : ((((w.alloc (.cells #[.int .i64 d, .slice p n cap] 25)).alloc (.cells #[.int .i64 f] 3)).alloc (.cells #[.int .i64 t] 3)).alloc (.cells #[.int .i64 0, .slice none 0 0] 25)).grownBy w0 none) :
    Below w.heap.size w w0 ∧ w.heap.size + 4 ≤ w0.heap.size ∧ w0.cell? ⟨w.heap.size, 0, none⟩ = some (.int .i64 d) ∧ w0.cell? ⟨w.heap.size, 1, none⟩ = some (.slice p n cap) ∧ w0.cell? ⟨w.heap.size + 1, 0, none⟩ = some (.int .i64 f) ∧ w0.cell? ⟨w.heap.size + 1 + 1, 0, none⟩ = some (.int .i64 t) ∧
      w0.cell? ⟨w.heap.size + 1 + 1 + 1, 0, none⟩ = some (.int .i64 0) ∧ w0.cell? ⟨w.heap.size + 1 + 1 + 1, 1, none⟩ = some (.slice none 0 0) ∧ (∀ o, w0.frozen? ⟨w.heap.size + 1 + 1 + 1, o, none⟩ = false) := by
  have hb0 := gb h
  refine ⟨?_, ?_, ?_, ?_, ?_, ?_, ?_, ?_, fun o => ?_⟩
  · refine Below.trans ?_ (hb0.mono (by simp <;> omega)); go_grown
  · have := hb0.size; simp at this; omega
  · exact (hb0.cell (p := ⟨w.heap.size, 0, none⟩) (by simp <;> omega)).trans (by simp [go_sem])
  · exact (hb0.cell (p := ⟨w.heap.size, 1, none⟩) (by simp <;> omega)).trans (by simp [go_sem])
  · exact (hb0.cell (p := ⟨w.heap.size + 1, 0, none⟩) (by simp <;> omega)).trans (by simp [go_sem])
  · exact (hb0.cell (p := ⟨w.heap.size + 1 + 1, 0, none⟩) (by simp)).trans (by simp [go_sem])
  · exact (hb0.cell (p := ⟨w.heap.size + 1 + 1 + 1, 0, none⟩) (by simp)).trans (by simp [go_sem])
  · exact (hb0.cell (p := ⟨w.heap.size + 1 + 1 + 1, 1, none⟩) (by simp)).trans (by simp [go_sem])
  · exact (hb0.frozen (p := ⟨w.heap.size + 1 + 1 + 1, o, none⟩) (by simp)).trans (by simp [go_sem])

def upD (d : Int) : Int := ot 0 5 d
def upS (d : Int) (xs : List (Int × Int)) : List (Int × Int) := shortS (ot 0 5 d) (turnS 0 5 xs)
def seesS (dt dO : Int) (xs ys : List (Int × Int)) : Bool := leqS dO (upD dt) ys (upS dt xs)
def altersS (dt dO : Int) (xs ys : List (Int × Int)) : Bool := leqS dt dO xs ys && seesS dt dO xs ys
theorem upS_le (d : Int) (xs : List (Int × Int)) : (upS d xs).length ≤ xs.length := by
  unfold upS; exact Nat.le_trans (short_le _ _) (by rw [turn_len]; exact Nat.le_refl _)

end Go.Proofs.Ytonhdkldacghoaa
