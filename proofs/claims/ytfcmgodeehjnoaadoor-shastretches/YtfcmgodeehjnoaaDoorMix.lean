/- A block is mixed in. -/
import Derived.Test.YtfcmgodeehjnoaaDoorMixM
import Derived.Test.YtfcmgodeehjnoaaDoorSpread
import Derived.Lib.SlBuf
import Derived.Laws.IdiomCopy
namespace Go.Proofs.YtfcmgodeehjnoaaDoor
open Go.RowKit Go.Sort
/-- What the one package variable holds. -/
structure Env (w : World) : Prop where
  big : 2 ≤ w.heap.size
  roots : w.rangeAt 0 0 (U kN)
theorem Env.keep {w w' : World} {n : Nat} (h : Env w) (hb : Below n w w') (hn : 2 ≤ n) : Env w' where
  big := Nat.le_trans h.big hb.size
  roots := fun j v hv => by
    have := h.roots j v hv
    exact (hb.cell (p := ⟨0, 0 + j, none⟩) (by show 0 < n; omega)).trans this
theorem Env.below {w w' : World} (h : Env w) (hb : Below w.heap.size w w') : Env w' := h.keep hb h.big
theorem Env.oth {w w' : World} {b : Nat} (h : Env w) (hb : Oth b w w') (hn : 2 ≤ b) : Env w' where
  big := Nat.le_trans h.big hb.size
  roots := fun j v hv => by
    have h1 := h.roots j v hv
    have h2 := hb.block 0 (by have := h.big; omega) (by omega)
    simp only [World.cell?, h2] at h1 ⊢; exact h1
theorem root_at {w : World} (h : w.rangeAt 0 0 (U kN)) (j : Nat) (hj : j < 64) : w.cell? ⟨0, j, none⟩ = some (.int .u32 (kN.getD j 0 : Nat)) := by
  have := h j (.int .u32 (kN.getD j 0 : Nat)) (by
    have hk : j < kN.length := by rw [kN_len]; exact hj
    unfold U; rw [List.getElem?_map, List.getElem?_eq_getElem hk, List.getD_eq_getElem?_getD, List.getElem?_eq_getElem hk]; rfl)
  rw [Nat.zero_add] at this; exact this
theorem U_one (l : List Nat) : ∀ v ∈ U l, v.oneCell' = true := by
  intro v hv; unfold U at hv; obtain ⟨x, _, rfl⟩ := List.mem_map.1 hv; rfl
theorem B_one (l : List UInt8) : ∀ v ∈ B l, v.oneCell' = true := by
  intro v hv; unfold B at hv; obtain ⟨x, _, rfl⟩ := List.mem_map.1 hv; rfl
theorem u8arr : (Tryd.prog.info? 43).map (·.size) = some 8 := by kernel_rfl
theorem elem32 : (Tryd.prog.info? 32).map (·.size) = some 1 := by kernel_rfl
/-- The eight numbers move up by one. -/
theorem moved_up (W : World) (g : Nat) (s : St8) (ty : TypeId) (h : At W g 0 (U (lst s))) :
    (Builtin.copy_ #[52, 52] ty #[.slice (some ⟨g, 1, none⟩) 7 7, .slice (some ⟨g, 0, none⟩) 8 8]).run Tryd.prog W = .ok (.int .i64 7) (W.setCells g 1 (U [s.a, s.b, s.c, s.d, s.e, s.f, s.g])) := by
  have := run_copy_cells (P := Tryd.prog) W 52 52 ty 32 g 1 7 7 ⟨g, 0, none⟩ 8 8 (U [s.a, s.b, s.c, s.d, s.e, s.f, s.g]) Tryd.underlying52 elem32 rfl
    (fun j v hv => by
      rw [Addr.add_mid]
      refine h.rng j v ?_
      have hj : j < 7 := (List.getElem?_eq_some_iff.1 hv).1
      match j, hj with
      | 0, _ => exact hv
      | 1, _ => exact hv
      | 2, _ => exact hv
      | 3, _ => exact hv
      | 4, _ => exact hv
      | 5, _ => exact hv
      | 6, _ => exact hv)
    (fun j hj => by have := (h.there (1 + j) (by rw [U_len] at hj ⊢; simp only [lst, List.length_cons, List.length_nil] at hj ⊢; omega)).1; rw [Nat.zero_add] at this; exact this)
    (fun j hj => by have := (h.there (1 + j) (by rw [U_len] at hj ⊢; simp only [lst, List.length_cons, List.length_nil] at hj ⊢; omega)).2; rw [Nat.zero_add] at this; exact this)
    (U_one _)
  exact this
theorem moved_at {W : World} {g : Nat} {s : St8} (h : At W g 0 (U (lst s))) : At (W.setCells g 1 (U [s.a, s.b, s.c, s.d, s.e, s.f, s.g])) g 0 (U [s.a, s.a, s.b, s.c, s.d, s.e, s.f, s.g]) := by
  have := h.sets (i := 1) (U [s.a, s.b, s.c, s.d, s.e, s.f, s.g]) (by rw [U_len, U_len]; simp [lst])
  exact this
theorem hd_at {w : World} {g : Nat} {A : List Nat} {T : List Value} (h : At w g 0 (U A ++ T)) (k : Nat) (hk : k < A.length) : w.cell? ⟨g, k, none⟩ = some (.int .u32 (A.getD k 0 : Nat)) := by
  have := h.cell (j := k) (v := .int .u32 (A.getD k 0 : Nat)) (by
    rw [List.getElem?_append_left (by rw [U_len]; exact hk)]
    unfold U; rw [List.getElem?_map, List.getElem?_eq_getElem hk, List.getD_eq_getElem?_getD, List.getElem?_eq_getElem hk]; rfl)
  rw [Nat.zero_add] at this; exact this
theorem hd_fz {w : World} {g : Nat} {A : List Nat} {T : List Value} (h : At w g 0 (U A ++ T)) (k : Nat) (hk : k < A.length) : w.frozen? ⟨g, k, none⟩ = false := by
  have := h.fz k (by rw [List.length_append, U_len]; omega)
  rw [Nat.zero_add] at this; exact this
theorem hd_set {w : World} {g : Nat} {A : List Nat} {T : List Value} (h : At w g 0 (U A ++ T)) (k n : Nat) (hk : k < A.length) : At (w.setCell ⟨g, k, none⟩ (.int .u32 (n : Int))) g 0 (U (A.set k n) ++ T) := by
  have := h.set k (.int .u32 (n : Int)) (by rw [List.length_append, U_len]; omega)
  rw [List.set_append_left _ _ (by rw [U_len]; exact hk), U_set, Nat.zero_add] at this
  exact this
end Go.Proofs.YtfcmgodeehjnoaaDoor
