/- Nobody is lost: plain facts of rows of those that wait. -/
import Derived.Test.YthknnmllibdggaaLawB
import Derived.Test.YthknnmllibdggaaOpenO
namespace Go.Proofs.Ythknnmllibdggaa
open Go.RowKit Go.Sort
/-- The threads that wait. -/
def thsA (all : List Who) : List Int := all.map (·.1)
theorem thsA_app (all : List Who) (x : Who) : thsA (all ++ [x]) = thsA all ++ [x.1] := by unfold thsA; rw [List.map_append]; rfl
theorem waitsA_iff {all : List Who} {t : Int} : waitsA all t = true ↔ t ∈ thsA all := by unfold waitsA thsA; simp
theorem thsA_dropT (t : Int) (all : List Who) : thsA (dropT t all) = (thsA all).filter fun y => !(y == t) := by
  unfold thsA dropT
  rw [List.filter_map]; rfl
theorem thsA_len (all : List Who) : (thsA all).length = all.length := by unfold thsA; simp
theorem listA_nd {all : List Who} (hn : (all.map (·.1)).Nodup) (s o : Int) : (listA all s o).Nodup := by
  unfold listA
  exact hn.sublist (List.filter_sublist.map _)
theorem segA_nd {all : List Who} (hn : (all.map (·.1)).Nodup) (s : Int) : (segA all s).Nodup := by
  unfold segA
  exact hn.sublist (List.filter_sublist.map _)
theorem listA_sub {all : List Who} {s o t : Int} (h : t ∈ listA all s o) : t ∈ thsA all := by
  unfold thsA
  exact List.mem_map.2 ⟨_, mem_listA.1 h, rfl⟩
theorem segA_sub {all : List Who} {s t : Int} (h : t ∈ segA all s) : t ∈ thsA all := by
  obtain ⟨o, ho⟩ := mem_segA.1 h
  unfold thsA
  exact List.mem_map.2 ⟨_, ho, rfl⟩
theorem waitE_zero {all : List Who} {al : Int → List Int} {t s o : Int} (h : waitE all al t s o = 0) : waitsA all t = false := by
  unfold waitE at h
  cases hw : waitsA all t with
  | false => rfl
  | true =>
    rw [hw] at h
    by_cases h1 : (okN t && (okN s && okO o)) = false
    · rw [if_pos h1] at h; cases h
    · rw [if_neg h1, if_pos rfl] at h; cases h
/-- What is gone is gone once, and waited. -/
structure Gone (g : List Int) (all : List Who) : Prop where
  nd : g.Nodup
  sub : ∀ t ∈ g, t ∈ thsA all
theorem Gone.nil (all : List Who) : Gone [] all := ⟨List.nodup_nil, fun t ht => by simp at ht⟩
theorem Gone.one {all : List Who} {t : Int} (h : waitsA all t = true) : Gone [t] all := ⟨by simp, fun u hu => by simp at hu; subst hu; exact waitsA_iff.1 h⟩
theorem Gone.in_ {g : List Int} {all : List Who} (h : Gone g all) {j : Nat} (hj : j < g.length) : inB (thsA (dropL (g.take j) all)) g[j] = true := by
  rw [inB_iff]
  have h1 := h.sub g[j] (List.getElem_mem hj)
  unfold thsA at h1 ⊢
  obtain ⟨x, hx, he⟩ := List.mem_map.1 h1
  refine List.mem_map.2 ⟨x, ?_, he⟩
  unfold dropL
  rw [List.mem_filter]
  refine ⟨hx, ?_⟩
  have : g[j] ∉ g.take j := by
    intro hm
    have hnd := h.nd
    rw [← List.take_append_drop j g, List.nodup_append] at hnd
    exact hnd.2.2 _ hm _ (by rw [List.drop_eq_getElem_cons hj]; exact List.mem_cons_self ..) rfl
  rw [he]
  simpa using this
theorem Gone.step {g : List Int} {all : List Who} {j : Nat} (hj : j < g.length) : thsA (dropL (g.take (j + 1)) all) = (thsA (dropL (g.take j) all)).filter fun y => !(y == g[j]) := by
  rw [List.take_succ_eq_append_getElem hj, dropL_snoc, thsA_dropT]
theorem dropL_one (t : Int) (all : List Who) : dropL [t] all = dropT t all := by
  have := dropL_snoc [] t all
  rw [dropL_nil] at this
  exact this
theorem where_in {all : List Who} {t : Int} (hn : (all.map (·.1)).Nodup) (h : t ∈ thsA all) : ∃ x, whereA all t = some x ∧ x ∈ all ∧ x.1 = t ∧ inB (listA all x.2.1 x.2.2) t = true := by
  unfold thsA at h
  obtain ⟨x, hx, rfl⟩ := List.mem_map.1 h
  cases hf : whereA all x.1 with
  | none => exact absurd (List.find?_eq_none.1 hf x hx) (by simp)
  | some y =>
    have hy := List.mem_of_find?_eq_some hf
    have he : y.1 = x.1 := by simpa using List.find?_some hf
    have hyx := nd_at hn hy hx he
    subst hyx
    exact ⟨y, rfl, hy, rfl, inB_iff.2 (mem_listA.2 hy)⟩
end Go.Proofs.Ythknnmllibdggaa
