/- A queue as it lies in memory: a chain of items, each with its neighbours. -/
import Derived.Test.YthknnmllibdggaaBase
namespace Go.Proofs.Ythknnmllibdggaa
open Go.RowKit Go.Sort
/-- An item: its block, and what it holds. -/
structure It where
  I : Nat
  v : Value
def hdV (n : Value) : List It → Value
  | [] => n
  | x :: _ => pv x.I
def lsV (p : Value) : List It → Value
  | [] => p
  | x :: r => lsV (pv x.I) r
def chn (w : World) (ti : TypeId) : Value → List It → Value → Prop
  | _, [], _ => True
  | p, x :: r, n => w.heap[x.I]? = some (.cells #[x.v, p, hdV n r] ti (0, 0)) ∧ chn w ti (pv x.I) r n
theorem hdV_app (n : Value) : ∀ (a b : List It), hdV n (a ++ b) = hdV (hdV n b) a
  | [], _ => rfl
  | _ :: _, _ => rfl
theorem lsV_app : ∀ (p : Value) (a b : List It), lsV p (a ++ b) = lsV (lsV p a) b
  | _, [], _ => rfl
  | _, x :: r, b => lsV_app (pv x.I) r b
theorem chn_app (w : World) (ti : TypeId) : ∀ (p n : Value) (a b : List It), chn w ti p (a ++ b) n ↔ chn w ti p a (hdV n b) ∧ chn w ti (lsV p a) b n
  | _, _, [], _ => ⟨fun h => ⟨trivial, h⟩, fun h => h.2⟩
  | p, n, x :: r, b => by
    show (w.heap[x.I]? = some (.cells #[x.v, p, hdV n (r ++ b)] ti (0, 0)) ∧ chn w ti (pv x.I) (r ++ b) n) ↔ (_ ∧ chn w ti (pv x.I) r (hdV n b)) ∧ chn w ti (lsV (pv x.I) r) b n
    rw [chn_app w ti (pv x.I) n r b, hdV_app, and_assoc]
theorem chn_same {w w' : World} {ti : TypeId} : ∀ {p n : Value} {l : List It}, chn w ti p l n → (∀ x ∈ l, w'.heap[x.I]? = w.heap[x.I]?) → chn w' ti p l n
  | _, _, [], _, _ => trivial
  | _, _, x :: r, h, hs => ⟨(hs x (by simp)).trans h.1, chn_same h.2 (fun y hy => hs y (by simp [hy]))⟩
theorem chn_at {w : World} {ti : TypeId} : ∀ {p n : Value} {l : List It}, chn w ti p l n → ∀ x ∈ l, ∃ a b, w.heap[x.I]? = some (.cells #[x.v, a, b] ti (0, 0))
  | _, _, [], _, _, hx => by simp at hx
  | p, n, x :: r, h, y, hy => by
    rcases List.mem_cons.1 hy with rfl | hy
    · exact ⟨_, _, h.1⟩
    · exact chn_at h.2 y hy
structure QAt (w : World) (tq ti : TypeId) (Q : Nat) (l : List It) : Prop where
  blk : w.heap[Q]? = some (.cells #[hdV np l, lsV np l, .int .i64 l.length] tq (0, 0))
  ch : chn w ti np l np
  nd : (l.map It.I).Nodup
/-- The blocks of a queue. -/
def qf (Q : Nat) (l : List It) (k : Nat) : Prop := k = Q ∨ k ∈ l.map It.I
theorem QAt.same {w w' : World} {tq ti : TypeId} {Q : Nat} {l : List It} (h : QAt w tq ti Q l) (hs : ∀ k, qf Q l k → w'.heap[k]? = w.heap[k]?) : QAt w' tq ti Q l :=
  ⟨(hs Q (.inl rfl)).trans h.blk, chn_same h.ch (fun x hx => hs x.I (.inr (List.mem_map_of_mem hx))), h.nd⟩
theorem QAt.lt {w : World} {tq ti : TypeId} {Q : Nat} {l : List It} (h : QAt w tq ti Q l) {k : Nat} (hk : qf Q l k) : k < w.heap.size := by
  rcases hk with rfl | hk
  · exact heap_lt h.blk
  · obtain ⟨x, hx, rfl⟩ := List.mem_map.1 hk
    obtain ⟨a, b, hh⟩ := chn_at h.ch x hx
    exact heap_lt hh
theorem lsV_last (p : Value) (l : List It) (y : It) : lsV p (l ++ [y]) = pv y.I := by rw [lsV_app]; rfl
/-- Behind the first of a chain another next one. -/
theorem chn_end {w w' : World} {ti : TypeId} {p n n' : Value} {l : List It} {y : It} (h : chn w ti p (l ++ [y]) n) (hs : ∀ x ∈ l, w'.heap[x.I]? = w.heap[x.I]?) (hy : w'.heap[y.I]? = some (.cells #[y.v, lsV p l, n'] ti (0, 0))) : chn w' ti p (l ++ [y]) n' := by
  rw [chn_app] at h ⊢
  exact ⟨chn_same h.1 hs, hy, trivial⟩
theorem chn_head {w w' : World} {ti : TypeId} {p p' n : Value} {l : List It} {y : It} (h : chn w ti p (y :: l) n) (hs : ∀ x ∈ l, w'.heap[x.I]? = w.heap[x.I]?) (hy : w'.heap[y.I]? = some (.cells #[y.v, p', hdV n l] ti (0, 0))) : chn w' ti p' (y :: l) n :=
  ⟨hy, chn_same h.2 hs⟩
theorem snoc_or (l : List It) : l = [] ∨ ∃ a y, l = a ++ [y] := by
  rcases List.eq_nil_or_concat l with h | ⟨a, y, h⟩
  · exact .inl h
  · exact .inr ⟨a, y, by rw [h]; simp⟩
theorem QAt.pushed {w w' : World} {tq ti : TypeId} {Q I : Nat} {l : List It} {v : Value} (h : QAt w tq ti Q l) (hI : w.heap.size ≤ I)
    (hQ : w'.heap[Q]? = some (.cells #[hdV (pv I) l, pv I, .int .i64 (l.length + 1)] tq (0, 0))) (hnew : w'.heap[I]? = some (.cells #[v, lsV np l, np] ti (0, 0)))
    (hl : ∀ a y, l = a ++ [y] → w'.heap[y.I]? = some (.cells #[y.v, lsV np a, pv I] ti (0, 0)) ∧ ∀ x ∈ a, w'.heap[x.I]? = w.heap[x.I]?) : QAt w' tq ti Q (l ++ [⟨I, v⟩]) := by
  refine ⟨?_, ?_, ?_⟩
  · rw [hQ, hdV_app, lsV_last, List.length_append]; rfl
  · rw [chn_app]
    refine ⟨?_, hnew, trivial⟩
    rcases snoc_or l with rfl | ⟨a, y, rfl⟩
    · trivial
    · exact chn_end h.ch (hl a y rfl).2 (hl a y rfl).1
  · rw [List.map_append, List.nodup_append]
    refine ⟨h.nd, by simp, fun k hk m hm e => ?_⟩
    have h1 := h.lt (.inr hk)
    simp at hm
    omega
theorem QAt.cutted {w w' : World} {tq ti : TypeId} {Q : Nat} {a b : List It} {x : It} (h : QAt w tq ti Q (a ++ x :: b))
    (hQ : w'.heap[Q]? = some (.cells #[hdV np (a ++ b), lsV np (a ++ b), .int .i64 (a ++ b).length] tq (0, 0)))
    (ha : ∀ a' y, a = a' ++ [y] → w'.heap[y.I]? = some (.cells #[y.v, lsV np a', hdV np b] ti (0, 0)) ∧ ∀ x ∈ a', w'.heap[x.I]? = w.heap[x.I]?)
    (hb : ∀ y b', b = y :: b' → w'.heap[y.I]? = some (.cells #[y.v, lsV np a, hdV np b'] ti (0, 0)) ∧ ∀ x ∈ b', w'.heap[x.I]? = w.heap[x.I]?) : QAt w' tq ti Q (a ++ b) := by
  have hc := h.ch
  rw [chn_app] at hc
  refine ⟨hQ, ?_, ?_⟩
  · rw [chn_app]
    refine ⟨?_, ?_⟩
    · rcases snoc_or a with rfl | ⟨a', y, rfl⟩
      · trivial
      · exact chn_end hc.1 (ha a' y rfl).2 (ha a' y rfl).1
    · cases b with
      | nil => trivial
      | cons y b' => exact chn_head hc.2.2 (hb y b' rfl).2 (hb y b' rfl).1
  · refine h.nd.sublist ?_
    simp [List.map_append]
theorem QAt.item {w : World} {tq ti : TypeId} {Q : Nat} {a b : List It} {x : It} (h : QAt w tq ti Q (a ++ x :: b)) : w.heap[x.I]? = some (.cells #[x.v, lsV np a, hdV np b] ti (0, 0)) := by
  have hc := h.ch
  rw [chn_app] at hc
  exact hc.2.1
end Go.Proofs.Ythknnmllibdggaa
