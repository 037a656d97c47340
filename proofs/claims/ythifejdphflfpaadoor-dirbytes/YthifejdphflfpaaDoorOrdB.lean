/- Entries put in one after the other, in any order; an entry appended to a row of one's own. -/
import Derived.Test.YthifejdphflfpaaDoorLives
import Derived.Maps.AppendAt
namespace Go.Proofs.YthifejdphflfpaaDoor
open Go.RowKit Go.Sort
theorem names_nodup {A : List Nm} (hA : rightL A = true) : (A.map Nm.nm).Nodup := by
  rw [List.Nodup, List.pairwise_map]
  refine ((right_iff A).1 hA).2.1.imp ?_
  intro x y h e
  rw [e] at h
  unfold ltB at h; rw [bl_irr] at h; cases h
/-- Putting in the entries of a directory, in any order: the next one goes in. -/
theorem step_ok {A R B : List Nm} {k : Nat} (hA : rightL A = true) (hp : A.Perm R) (hk : k < R.length) (hB : rightL B = true) (hpB : B.Perm (R.take k)) : putE B R[k] = 0 ∧ (insL B R[k]).Perm (R.take (k + 1)) := by
  have hnd : (R.map Nm.nm).Nodup := ((hp.map _).nodup_iff).1 (names_nodup hA)
  have hpi : (insL B R[k]).Perm (R.take (k + 1)) := by
    rw [List.take_succ_eq_append_getElem hk]
    exact ((insL_perm _ _).trans (hpB.cons _)).trans (List.perm_append_singleton _ _).symm
  have hg : goodN R[k] = true := ((right_iff A).1 hA).1 _ (hp.mem_iff.2 (List.getElem_mem hk))
  have hi : inB B R[k].nm = false := by
    cases h : inB B R[k].nm
    · rfl
    · obtain ⟨m, hm, he⟩ := (inB_iff _ _).1 h
      obtain ⟨j, hj, rfl⟩ := List.mem_take_iff_getElem.1 (hpB.mem_iff.1 hm)
      have h2 := List.pairwise_iff_getElem.1 hnd j k (by simp; omega) (by simpa using hk) (by omega)
      simp only [List.getElem_map] at h2
      exact absurd he h2
  refine ⟨?_, hpi⟩
  rw [putE_room hB hg hi, if_pos]
  have h1 := sizeL_perm hpi
  have h2 := sizeL_perm (insL_perm R[k] B)
  have h3 : sizeL (R[k] :: B) = ((R[k].nm.size : Int) + 10) + sizeL B := rfl
  have h4 := sizeL_take R (k + 1)
  have h5 := sizeL_perm hp
  have h6 := ((right_iff A).1 hA).2.2
  omega
theorem app_nm {W : World} {ops : Array Oper} {rest : List Oper} {o : Oper} {a : Act} {Q : Exit → Act → World → Prop} (hgd : o.guard = none) (s x : Operand)
    (ho : o.op = .call { callee := .builtin .append, args := #[s, x], argTypes := #[22, 22] }) (base : Nat) (v : Value) (xs : List Nm) (y : Nm) (hs : a.eval s = v) (hown : OwnP base xs v W) (hb : base ≤ W.heap.size) (hn : (xs.length + 1) * 32 ≤ 140737488355328)
    (g : Nat) (hg : g = W.heap.size) (hx : a.eval x = .slice (some ⟨g, 0, none⟩) 1 1)
    (h : ∀ v' w', OwnP base (xs ++ [y]) v' w' → Below base W w' → (∀ k, k < W.heap.size → some k ≠ v.ownBlock → w'.heap[k]? = W.heap[k]?) → (v'.ownBlock = v.ownBlock ∨ v'.ownBlock = some (W.heap.size + 1)) → wpList Tryd.prog ops Q rest (a.put o.dst v') w') : wpList Tryd.prog ops Q (o :: rest) a (W.alloc (.cells #[.string y.nm, .int .i64 y.kd, .int .i64 y.id] 25)) := by
  subst hg
  unfold OwnP at hown
  obtain ⟨i0, hi, hz0, hz1, hz2⟩ := info_parts' nameInfo
  have hN : ∀ j u, (nmC y)[j]? = some u → (W.alloc (.cells #[.string y.nm, .int .i64 y.kd, .int .i64 y.id] 25)).cell? ((⟨W.heap.size, 0, none⟩ : Addr).add j) = some u := fun j u hu => by
    rw [addr_plus]
    exact (NmAt.new W y).nth j u hu
  have hbW : Below base W (W.alloc (.cells #[.string y.nm, .int .i64 y.kd, .int .i64 y.id] 25)) := (Below.refl _ _).alloc hb _
  refine wpList_append_own_at _ hgd s x 22 ho base 25 i0 (.agg #[.string ⟨#[]⟩, .int .i64 0, .int .i64 0]) 3 32 Tryd.underlying22 hi hz0 hz1 hz2 rfl (by decide) v xs.length (flat xs) hs (hown.alloc _) ⟨W.heap.size, 0, none⟩ 1 1 (nmC y) hx rfl hN (fun u hu => flat_one [y] u (by simpa [flat] using hu)) (by unfold maxLen; omega) hn (by simp; omega) ?_
  intro v' w' h1 h2 _ h3
  refine h v' w' ?_ (Below.grown hbW h2 (by simp; omega) (fun j hj => (hown.lt j hj).1)) (fun k hk hne => (h2.block k (by simp; omega) hne).trans (Below.block ((Below.refl W.heap.size W).alloc (Nat.le_refl _) _) k hk)) (by simpa using h3)
  unfold OwnP
  rw [List.length_append, flat_append, show flat [y] = nmC y from by simp [flat]]
  exact h1
theorem OwnP.same {B : Nat} {l : List Nm} {v : Value} {W W' : World} (h : OwnP B l v W) (hs : ∀ k, v.ownBlock = some k → W'.heap[k]? = W.heap[k]?) : OwnP B l v W' := row_same h hs
theorem OwnP.le {B B' : Nat} {l : List Nm} {v : Value} {W : World} (h : OwnP B l v W) (hb : B' ≤ B) : OwnP B' l v W := row_mono h hb
theorem OwnP.nil (B : Nat) (W : World) : OwnP B [] (.slice none 0 0) W := World.ownsRow_nil _ _ _ _
/-- Two rows that don't share a block. -/
def Apt (a s : Value) : Prop := ∀ g, a.ownBlock = some g → s.ownBlock ≠ some g
end Go.Proofs.YthifejdphflfpaaDoor
