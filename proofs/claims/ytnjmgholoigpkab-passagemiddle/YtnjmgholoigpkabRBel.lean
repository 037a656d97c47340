/- Below of the reference. -/
import Derived.Test.YtnjmgholoigpkabRFlo
namespace Go.Proofs.Ytnjmgholoigpkab
open Go.RowKit Go.Sort
theorem lsv3 {l m k : ML} {p p' q : Option Addr} {cap cap' caq : Nat} {W : World} (h : LV l (.agg #[.int .i64 l.1, .slice p l.2.length cap]) W) (h' : LV m (.agg #[.int .i64 m.1, .slice p' m.2.length cap']) W) (h'' : LV k (.agg #[.int .i64 k.1, .slice q k.2.length caq]) W) :
    LsV [l, m, k] (.slice (some ⟨W.heap.size, 0, none⟩) 3 3) (W.alloc (.cells #[.int .i64 l.1, .slice p l.2.length cap, .int .i64 m.1, .slice p' m.2.length cap', .int .i64 k.1, .slice q k.2.length caq] 24)) := by
  obtain ⟨p1, c1, e1, hc, hcap, h16⟩ := h
  obtain ⟨p2, c2, e2, hc', hcap', h16'⟩ := h'
  obtain ⟨p3, c3, e3, hd, hcaq, hd16⟩ := h''
  simp only [Value.agg.injEq, Array.mk.injEq, List.cons.injEq, Value.slice.injEq, and_true, true_and] at e1 e2 e3
  obtain ⟨rfl, rfl⟩ := e1
  obtain ⟨rfl, rfl⟩ := e2
  obtain ⟨rfl, rfl⟩ := e3
  exact ⟨_, rfl, by simp, fun j hj => by
      have hj2 : j < 3 := by simpa using hj
      rcases Nat.lt_or_ge j 1 with h0 | h0
      · obtain rfl : j = 0 := by omega
        exact ⟨p, cap, by simp, by simp [go_sem], by simp [go_sem], hc.below (by go_grown), hcap, h16⟩
      · rcases Nat.lt_or_ge j 2 with h0 | h0
        · obtain rfl : j = 1 := by omega
          exact ⟨p', cap', by simp, by simp [go_sem], by simp [go_sem], hc'.below (by go_grown), hcap', h16'⟩
        · obtain rfl : j = 2 := by omega
          exact ⟨q, caq, by simp, by simp [go_sem], by simp [go_sem], hd.below (by go_grown), hcaq, hd16⟩⟩
def belP (l a b : ML) (c : Int) : Bool := !decide (max (aZ a c) (aZ b c) < aZ l c)
def belM (l a b : ML) : Bool := (nmM [l, a, b] ++ [0]).all (belP l a b)
theorem all_st (P : Int → Bool) (cs : List Int) (k : Nat) (h : k < cs.length) : (cs.drop k).all P = (P cs[k] && (cs.drop (k + 1)).all P) := by
  rw [List.drop_eq_getElem_cons h, List.all_cons]
end Go.Proofs.Ytnjmgholoigpkab
