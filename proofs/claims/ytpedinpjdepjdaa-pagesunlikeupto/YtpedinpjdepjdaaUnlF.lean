/- Which pages are unlike: told page by page and byte by byte. -/
import Derived.Test.YtpedinpjdepjdaaUnlikeA
import Derived.Test.YtpedinpjdepjdaaRefU
namespace Go.Proofs.Ytpedinpjdepjdaa
theorem getD_out (d : List UInt8) (i : Nat) (h : d.length ≤ i) : d.getD i 0 = 0 := by
  rw [List.getD_eq_getElem?_getD, List.getElem?_eq_none h]; rfl
theorem unB_iff (d e : List UInt8) (i : Nat) : unB d e i = true ↔ (i < d.length ↔ ¬ i < e.length) ∨ d.getD i 0 ≠ e.getD i 0 := by
  unfold unB
  by_cases h1 : i < d.length <;> by_cases h2 : i < e.length
  · simp [h1, h2]
  · simp [h1, h2]
  · simp [h1, h2]
  · simp [h1, h2]
theorem unB_symm (d e : List UInt8) (i : Nat) : unB d e i = unB e d i := by
  rw [Bool.eq_iff_iff, unB_iff, unB_iff]
  constructor
  · rintro (h | h)
    · exact .inl (by by_cases h1 : i < d.length <;> by_cases h2 : i < e.length <;> simp_all)
    · exact .inr (Ne.symm h)
  · rintro (h | h)
    · exact .inl (by by_cases h1 : i < d.length <;> by_cases h2 : i < e.length <;> simp_all)
    · exact .inr (Ne.symm h)
theorem unPK_iff (d e : List UInt8) (p : Nat) : unPK d e p 64 = true ↔ ∃ j, j < 64 ∧ unB d e (64 * p + j) = true := by
  unfold unPK; rw [List.any_eq_true]; simp
theorem pad_ne (d e : List UInt8) (i : Nat) : pad d i ≠ pad e i ↔ ∃ j, j < 64 ∧ d.getD (64 * i + j) 0 ≠ e.getD (64 * i + j) 0 := by
  constructor
  · intro h
    refine Classical.byContradiction fun hn => h ?_
    unfold pad
    refine List.map_congr_left fun j hj => ?_
    exact Classical.byContradiction fun hne => hn ⟨j, List.mem_range.1 hj, hne⟩
  · rintro ⟨j, hj, hne⟩ h
    have h1 : (pad d i)[j]? = (pad e i)[j]? := by rw [h]
    unfold pad at h1
    rw [List.getElem?_map, List.getElem?_map, List.getElem?_range hj] at h1
    exact hne (by simpa using h1)
theorem unl_eq (d e : List UInt8) (i : Nat) : unl d e i = unPK d e i 64 := by
  rw [Bool.eq_iff_iff, unPK_iff]
  unfold unl
  rw [Bool.or_eq_true]
  simp only [bne_iff_ne, ne_eq, Bool.not_eq_true', beq_eq_false_iff_ne]
  constructor
  · rintro (h | h)
    · unfold takenI at h
      by_cases hle : d.length ≤ e.length
      · refine ⟨d.length - 64 * i, ?_, (unB_iff _ _ _).2 (.inl ?_)⟩ <;> omega
      · refine ⟨e.length - 64 * i, ?_, (unB_iff _ _ _).2 (.inl ?_)⟩ <;> omega
    · obtain ⟨j, hj, hne⟩ := (pad_ne d e i).1 h
      exact ⟨j, hj, (unB_iff _ _ _).2 (.inr hne)⟩
  · rintro ⟨j, hj, h⟩
    rcases (unB_iff _ _ _).1 h with h | h
    · refine .inl ?_
      unfold takenI
      omega
    · exact .inr ((pad_ne d e i).2 ⟨j, hj, h⟩)
theorem unPs_far (d e : List UInt8) (N p : Nat) (hN : max ((d.length + 63) / 64) ((e.length + 63) / 64) = N) (hp : N ≤ p) : unPK d e p 64 = false := by
  rw [Bool.eq_false_iff]
  intro h
  obtain ⟨j, hj, hb⟩ := (unPK_iff _ _ _).1 h
  rcases (unB_iff _ _ _).1 hb with h1 | h1
  · omega
  · exact h1 (by rw [getD_out d _ (by omega), getD_out e _ (by omega)])
theorem filter_range_more (f : Nat → Bool) (N : Nat) (hf : ∀ p, N ≤ p → f p = false) : ∀ k, (List.range (N + k)).filter f = (List.range N).filter f
  | 0 => rfl
  | k + 1 => by
    rw [← Nat.add_assoc, List.range_succ, List.filter_append, filter_range_more f N hf k]
    simp [hf (N + k) (by omega)]
theorem unls_eq (d e : List UInt8) (N : Nat) (hd : d.length ≤ 4096) (he : e.length ≤ 4096) (hN : max ((d.length + 63) / 64) ((e.length + 63) / 64) = N) : unls d e N = unPs d e 64 := by
  unfold unls unPs
  have h1 : (List.range N).filter (unl d e) = (List.range N).filter fun p => unPK d e p 64 := List.filter_congr fun p _ => unl_eq d e p
  rw [h1]
  obtain ⟨k, hk⟩ : ∃ k, 64 = N + k := ⟨64 - N, by omega⟩
  have := filter_range_more (fun p => unPK d e p 64) N (fun p hp => unPs_far d e N p hN hp) k
  rw [← hk] at this
  exact this.symm
theorem unPs_symm (d e : List UInt8) : unPs e d 64 = unPs d e 64 := by
  unfold unPs unPK
  refine List.filter_congr fun p _ => ?_
  congr 1
  funext j
  exact unB_symm e d _
theorem unPs_self (d : List UInt8) : unPs d d 64 = [] := by
  unfold unPs
  rw [List.filter_eq_nil_iff]
  intro p _ h
  obtain ⟨j, _, hb⟩ := (unPK_iff _ _ _).1 h
  rcases (unB_iff _ _ _).1 hb with h1 | h1
  · omega
  · exact h1 rfl
end Go.Proofs.Ytpedinpjdepjdaa
