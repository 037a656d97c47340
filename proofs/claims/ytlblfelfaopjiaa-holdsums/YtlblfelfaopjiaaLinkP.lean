/- The table while boxes are made that link to an object. -/
import Derived.Test.YtlblfelfaopjiaaLinkM
namespace Go.Proofs.Ytlblfelfaopjiaa
open Go.RowKit Go.Sort
def boxes (k : Nat) : List Int := 500 :: (List.range k).map fun j : Nat => (10 : Int) + (j : Int)
theorem boxes_len (k : Nat) : (boxes k).length = k + 1 := by simp [boxes]
theorem boxes_succ (k : Nat) : boxes (k + 1) = boxes k ++ [10 + (k : Int)] := by
  unfold boxes; rw [List.range_succ, List.map_append]; rfl
/-- Behind k boxes. -/
def P1S (q : Int) (k : Nat) : Abs := fun x =>
  if x = 1 then some ⟨1, 1, 1099511627776, 5000 + 2000 * k, 1, 2, [], boxes k⟩
  else if x = 500 then some ⟨500, 1, 5000, q, 1, 2, [], [600]⟩
  else if x = 600 then some ⟨600, 2, q, 0, k + 1, 2, [], []⟩
  else if 10 ≤ x ∧ x < 10 + k then some ⟨x, 1, 2000, q, 1, 2, [], [600]⟩ else none
theorem P1S_zero (q : Int) : updS (updS (updS (updS (fun _ => none) 1 (root0 1 2 [])) 1 { root0 1 2 [] with used := (root0 1 2 []).used + 5000, ents := (root0 1 2 []).ents ++ [500] }) 500 { newOb 500 1 5000 2 [] with used := (newOb 500 1 5000 2 []).used + q, ents := (newOb 500 1 5000 2 []).ents ++ [600] }) 600 (newOb 600 2 q 2 []) = P1S q 0 := by
  funext x
  unfold updS P1S root0 newOb boxes
  by_cases h1 : x = 600
  · subst h1; rfl
  · by_cases h2 : x = 500
    · subst h2; simp
    · by_cases h3 : x = 1
      · subst h3; rfl
      · simp only [h1, h2, h3, if_false]
        rw [if_neg (by omega)]
theorem P1S_one (q : Int) (k : Nat) : P1S q k 1 = some ⟨1, 1, 1099511627776, 5000 + 2000 * k, 1, 2, [], boxes k⟩ := rfl
theorem P1S_600 (q : Int) (k : Nat) : P1S q k 600 = some ⟨600, 2, q, 0, k + 1, 2, [], []⟩ := rfl
theorem P1S_none (q : Int) (k : Nat) (hk : k < 12) : P1S q k (10 + (k : Int)) = none := by
  unfold P1S
  rw [if_neg (by omega), if_neg (by omega), if_neg (by omega), if_neg (by omega)]
/-- A box more, which the root has. -/
def P1A (q : Int) (k : Nat) : Abs := updS (updS (P1S q k) 1 ⟨1, 1, 1099511627776, 5000 + 2000 * k + 2000, 1, 2, [], boxes k ++ [10 + (k : Int)]⟩) (10 + (k : Int)) (newOb (10 + (k : Int)) 1 2000 2 [])
theorem P1A_box (q : Int) (k : Nat) : P1A q k (10 + (k : Int)) = some ⟨10 + (k : Int), 1, 2000, 0, 1, 2, [], []⟩ := by unfold P1A; rw [updS_at]; rfl
theorem P1A_600 (q : Int) (k : Nat) (hk : k < 12) : P1A q k 600 = some ⟨600, 2, q, 0, k + 1, 2, [], []⟩ := by
  unfold P1A; rw [updS_ne _ _ (by omega), updS_ne _ _ (by omega)]; rfl
theorem P1S_step (q : Int) (k : Nat) (hk : k < 12) : updS (updS (P1A q k) (10 + (k : Int)) ⟨10 + (k : Int), 1, 2000, 0 + q, 1, 2, [], [] ++ [600]⟩) 600 ⟨600, 2, q, 0, (k : Int) + 1 + 1, 2, [], []⟩ = P1S q (k + 1) := by
  funext x
  unfold P1A
  by_cases h1 : x = 600
  · subst h1; rw [updS_at]; unfold P1S; rw [if_neg (by decide), if_neg (by decide), if_pos rfl]; simp
  · rw [updS_ne _ _ h1]
    by_cases h2 : x = 10 + (k : Int)
    · subst h2; rw [updS_at]; unfold P1S; rw [if_neg (by omega), if_neg (by omega), if_neg (by omega), if_pos (by omega)]; simp
    · rw [updS_ne _ _ h2, updS_ne _ _ h2]
      by_cases h3 : x = 1
      · subst h3; rw [updS_at]; unfold P1S; rw [if_pos rfl, boxes_succ]
        rw [show (5000 : Int) + 2000 * ((k + 1 : Nat) : Int) = 5000 + 2000 * (k : Int) + 2000 from by omega]
      · rw [updS_ne _ _ h3]
        unfold P1S
        rw [if_neg h3, if_neg h3]
        by_cases h4 : x = 500
        · rw [if_pos h4, if_pos h4]
        · rw [if_neg h4, if_neg h4, if_neg h1, if_neg h1]
          by_cases h5 : 10 ≤ x ∧ x < 10 + k
          · rw [if_pos h5, if_pos (by omega)]
          · rw [if_neg h5, if_neg (by omega)]
theorem boxes_mem {k : Nat} {i : Int} (h : i ∈ boxes k) : i = 500 ∨ (10 ≤ i ∧ i < 10 + k) := by
  unfold boxes at h
  rcases List.mem_cons.1 h with h | h
  · exact .inl h
  · obtain ⟨j, hj, rfl⟩ := List.mem_map.1 h
    have := List.mem_range.1 hj
    exact .inr ⟨by omega, by omega⟩
theorem boxes_nodup {k : Nat} (hk : k ≤ 12) : (boxes k).Nodup := by
  unfold boxes
  refine List.nodup_cons.2 ⟨fun h => ?_, ?_⟩
  · obtain ⟨j, hj, e⟩ := List.mem_map.1 h
    have := List.mem_range.1 hj
    omega
  · rw [List.nodup_iff_pairwise_ne, List.pairwise_map]
    exact (List.nodup_range (n := k)).imp (fun hab e => hab (by omega))
theorem P1S_lk (q : Int) (k : Nat) (hk : k ≤ 12) : Lk (P1S q k) q (boxes k) := by
  have hne : boxes k ≠ [] := by simp [boxes]
  refine ⟨⟨_, P1S_one q k, rfl, fun i hi => hi, by rw [boxes_len]; show _ ≤ 5000 + 2000 * (k : Int); omega, by show 5000 + 2000 * (k : Int) ≤ _; omega⟩, fun i hi => ?_, fun _ => ⟨_, P1S_600 q k, rfl, rfl, by rw [boxes_len]; show (k : Int) + 1 = _; omega, rfl, rfl⟩, fun h => absurd h hne, boxes_nodup hk, fun i hi => ?_, by rw [boxes_len]; omega, fun x o hx => ?_⟩
  · rcases boxes_mem hi with rfl | ⟨h1, h2⟩
    · exact ⟨⟨500, 1, 5000, q, 1, 2, [], [600]⟩, rfl, rfl, rfl, rfl, by show (1 : Int) ≤ 5000; omega, by show (5000 : Int) ≤ 5000; omega, rfl⟩
    · refine ⟨⟨i, 1, 2000, q, 1, 2, [], [600]⟩, ?_, rfl, rfl, rfl, by show (1 : Int) ≤ 2000; omega, by show (2000 : Int) ≤ 5000; omega, rfl⟩
      unfold P1S; rw [if_neg (by omega), if_neg (by omega), if_neg (by omega), if_pos ⟨h1, h2⟩]
  · rcases boxes_mem hi with rfl | ⟨h1, h2⟩ <;> omega
  · unfold P1S at hx
    split at hx
    · cases hx; subst x
      refine ⟨by unfold i64; omega, fun y hy => ?_, by show (boxes k).length < _; rw [boxes_len]; omega, by show (1 : Int) ≤ 1; omega, by show (1 : Int) < 1000000; omega⟩
      have hy : y ∈ boxes k := hy
      rcases boxes_mem hy with rfl | ⟨h1, h2⟩ <;> unfold i64 <;> omega
    · split at hx
      · cases hx; subst x
        exact ⟨by unfold i64; omega, fun y hy => by simp at hy; subst hy; unfold i64; omega, by show 1 < 1000000; omega, by show (1 : Int) ≤ 1; omega, by show (1 : Int) < 1000000; omega⟩
      · split at hx
        · cases hx; subst x
          exact ⟨by unfold i64; omega, fun y hy => by simp at hy, by show 0 < 1000000; omega, by show (1 : Int) ≤ k + 1; omega, by show (k : Int) + 1 < 1000000; omega⟩
        · split at hx
          · rename_i h
            cases hx
            exact ⟨by unfold i64; omega, fun y hy => by simp at hy; subst hy; unfold i64; omega, by show 1 < 1000000; omega, by show (1 : Int) ≤ 1; omega, by show (1 : Int) < 1000000; omega⟩
          · cases hx
end Go.Proofs.Ytlblfelfaopjiaa
