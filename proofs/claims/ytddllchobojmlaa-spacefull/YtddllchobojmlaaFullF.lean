/- Plain facts of sixteen mappings that are put in, in whatever order. -/
import Derived.Test.YtddllchobojmlaaFacts
namespace Go.Proofs.Ytddllchobojmlaa
/-- The mapping of number n. -/
def mk16 (s : Int) (n : Nat) : Mp := ⟨n * s, 4, 1, n + 1, 0, false, false⟩
/-- The row of the numbers that are not left. -/
def rowOf (s : Int) (L : List Nat) : List Mp := (List.range 16 |>.filter (fun n => !(L.contains n))).map (mk16 s)
theorem good16 {s : Int} {n : Nat} (hs : 4 ≤ s) (hs2 : s ≤ 1003) (hn : n < 16) : goodM (mk16 s n) = true := by
  rw [goodM_iff]
  have : (n : Int) * s ≤ 15 * 1003 := Int.mul_le_mul (by omega) hs2 (by omega) (by omega)
  have h0 : 0 ≤ (n : Int) * s := Int.mul_nonneg (by omega) (by omega)
  refine ⟨⟨by simp [mk16], by simp [mk16], h0, ?_, by simp [mk16], by simp [mk16]⟩, by simp [mk16, rid], ?_⟩
  · show (n : Int) * s + 4 ≤ 67108864; omega
  · show rid ((n : Int) + 1) = true
    simp only [rid, Bool.and_eq_true, decide_eq_true_eq]; omega
theorem bef16 {s : Int} {a b : Nat} (hs : 4 ≤ s) (h : a < b) : bef (mk16 s a) (mk16 s b) := by
  unfold bef
  show (a : Int) * s + 4 ≤ (b : Int) * s
  have h1 : ((a : Int) + 1) * s ≤ (b : Int) * s := Int.mul_le_mul_of_nonneg_right (by omega) (by omega)
  rw [Int.add_mul] at h1; omega
theorem pw16 {s : Int} (hs : 4 ≤ s) {N : List Nat} (h : N.Pairwise (· < ·)) : (N.map (mk16 s)).Pairwise bef := by
  rw [List.pairwise_map]; exact h.imp fun hab => bef16 hs hab
theorem range_pw (L : List Nat) : ((List.range 16).filter (fun n => !(L.contains n))).Pairwise (· < ·) := List.Pairwise.filter _ List.pairwise_lt_range
theorem right16 {s : Int} (hs : 4 ≤ s) (hs2 : s ≤ 1003) (L : List Nat) : rightS (rowOf s L) = true := by
  rw [rightS_iff]
  refine ⟨?_, fun x hx => ?_, pw16 hs (range_pw L)⟩
  · unfold rowOf; rw [List.length_map]; exact Nat.le_trans (List.length_filter_le _ _) (by simp)
  · obtain ⟨n, hn, rfl⟩ := List.mem_map.1 hx
    exact good16 hs hs2 (by have := (List.mem_filter.1 hn).1; simpa using this)
theorem split_at {X Y X' Y' : List Mp} {p : Mp → Bool} (h : X ++ Y = X' ++ Y') (h1 : ∀ x ∈ X, p x = true) (h2 : ∀ y ∈ Y, p y = false) (h1' : ∀ x ∈ X', p x = true) (h2' : ∀ y ∈ Y', p y = false) : X = X' ∧ Y = Y' := by
  have key : ∀ A B : List Mp, (∀ x ∈ A, p x = true) → (∀ y ∈ B, p y = false) → (A ++ B).takeWhile p = A := fun A B ha hb => by
    rw [List.takeWhile_append_of_pos ha]
    cases B with
    | nil => simp
    | cons b B => rw [List.takeWhile_cons, hb b (List.mem_cons_self ..)]; simp
  have e1 := key X Y h1 h2
  rw [h, key X' Y' h1' h2'] at e1
  subst e1
  exact ⟨rfl, List.append_cancel_left h⟩
theorem range_split {n : Nat} (hn : n < 16) : List.range 16 = List.range n ++ n :: (List.range (15 - n)).map (n + 1 + ·) := by
  have h1 : List.range 16 = List.range n ++ (List.range (16 - n)).map (n + ·) := by
    have := List.range_add (n := n) (m := 16 - n)
    rwa [show n + (16 - n) = 16 from by omega] at this
  rw [h1, show 16 - n = (15 - n) + 1 from by omega, List.range_succ_eq_map, List.map_cons, List.map_map]
  simp only [Nat.add_zero]
  congr 2
  apply List.map_congr_left
  intro a _
  simp; omega
theorem put16 {s : Int} (hs : 4 ≤ s) (hs2 : s ≤ 1003) {L : List Nat} (hnd : L.Nodup) (hlt : ∀ x ∈ L, x < 16) {k : Nat} (hk : k < L.length) :
    putE (rowOf s L) (mk16 s L[k]) = 0 ∧ putL (rowOf s L) (mk16 s L[k]) = rowOf s (L.take k ++ L.drop (k + 1)) := by
  obtain ⟨n, hn⟩ : ∃ n, L[k] = n := ⟨_, rfl⟩
  rw [hn]
  have hnL : n ∈ L := hn ▸ List.getElem_mem hk
  have hn16 := hlt n hnL
  have hspl : L = L.take k ++ n :: L.drop (k + 1) := by rw [← hn]; rw [List.getElem_cons_drop, List.take_append_drop]
  have hmem : ∀ a, a ≠ n → ((L.take k ++ L.drop (k + 1)).contains a = L.contains a) := fun a ha => by
    have h1 : a ∈ L ↔ a ∈ L.take k ++ L.drop (k + 1) := by
      conv => lhs; rw [hspl]
      simp only [List.mem_append, List.mem_cons]
      constructor
      · rintro (h | h | h)
        · exact .inl h
        · exact absurd h ha
        · exact .inr h
      · rintro (h | h)
        · exact .inl h
        · exact .inr (.inr h)
    by_cases h : a ∈ L
    · rw [List.contains_iff_mem.2 h, List.contains_iff_mem.2 (h1.1 h)]
    · rw [Bool.eq_false_iff.2 (fun hh => h (List.contains_iff_mem.1 hh)), Bool.eq_false_iff.2 (fun hh => h (h1.2 (List.contains_iff_mem.1 hh)))]
  have hnot : (L.take k ++ L.drop (k + 1)).contains n = false := by
    rw [Bool.eq_false_iff]
    intro hh
    have hh2 := List.contains_iff_mem.1 hh
    have hnd2 := hnd
    rw [hspl] at hnd2
    rw [List.nodup_append] at hnd2
    rcases List.mem_append.1 hh2 with h | h
    · exact hnd2.2.2 n h n (List.mem_cons_self ..) rfl
    · exact (List.nodup_cons.1 hnd2.2.1).1 h
  obtain ⟨F1, hF1⟩ : ∃ F1, F1 = ((List.range n).filter (fun a => !(L.contains a))).map (mk16 s) := ⟨_, rfl⟩
  obtain ⟨F2, hF2⟩ : ∃ F2, F2 = (((List.range (15 - n)).map (n + 1 + ·)).filter (fun a => !(L.contains a))).map (mk16 s) := ⟨_, rfl⟩
  have hrow : rowOf s L = F1 ++ F2 := by
    unfold rowOf
    rw [range_split hn16, List.filter_append, List.filter_cons, List.contains_iff_mem.2 hnL]
    simp only [Bool.not_true, Bool.false_eq_true, if_false, List.map_append]
    rw [hF1, hF2]
  have hrow2 : rowOf s (L.take k ++ L.drop (k + 1)) = F1 ++ mk16 s n :: F2 := by
    unfold rowOf
    rw [range_split hn16, List.filter_append, List.filter_cons, hnot]
    simp only [Bool.not_false, if_true, List.map_append, List.map_cons]
    rw [hF1, hF2]
    have q1 : (List.range n).filter (fun a => !((L.take k ++ L.drop (k + 1)).contains a)) = (List.range n).filter (fun a => !(L.contains a)) := List.filter_congr fun a ha => by rw [hmem a (by have := List.mem_range.1 ha; omega)]
    have q2 : ((List.range (15 - n)).map (n + 1 + ·)).filter (fun a => !((L.take k ++ L.drop (k + 1)).contains a)) = ((List.range (15 - n)).map (n + 1 + ·)).filter (fun a => !(L.contains a)) := List.filter_congr fun a ha => by
      obtain ⟨c, _, rfl⟩ := List.mem_map.1 ha
      rw [hmem _ (by omega)]
    rw [q1, q2]
  have b1 : ∀ x ∈ F1, bef x (mk16 s n) := fun x hx => by
    rw [hF1] at hx
    obtain ⟨a, ha, rfl⟩ := List.mem_map.1 hx
    exact bef16 hs (List.mem_range.1 (List.mem_filter.1 ha).1)
  have b2 : ∀ x ∈ F2, bef (mk16 s n) x := fun x hx => by
    rw [hF2] at hx
    obtain ⟨a, ha, rfl⟩ := List.mem_map.1 hx
    obtain ⟨c, _, rfl⟩ := List.mem_map.1 (List.mem_filter.1 ha).1
    exact bef16 hs (by omega)
  have hR := right16 hs hs2 L
  have hgs := ((rightS_iff _).1 hR).2.1
  have hgm := good16 hs hs2 hn16
  have hgm2 := ((goodM_iff _).1 hgm).1
  have hany : (rowOf s L).any (meet (mk16 s n)) = false := by
    rw [List.any_eq_false]
    intro x hx
    have hgx := ((goodM_iff _).1 (hgs x hx)).1
    rw [hrow] at hx
    rcases List.mem_append.1 hx with h | h
    · have := b1 x h; unfold bef at this; simp [meet]; omega
    · have := b2 x h; unfold bef at this; simp [meet]; omega
  have hlen : (rowOf s L).length < 16 := by
    have h1 : (rowOf s (L.take k ++ L.drop (k + 1))).length ≤ 16 := ((rightS_iff _).1 (right16 hs hs2 _)).1
    rw [hrow2] at h1
    rw [hrow]
    simp at h1 ⊢; omega
  have hE : putE (rowOf s L) (mk16 s n) = 0 := by unfold putE; simp [hR, hgm, hany]; omega
  refine ⟨hE, ?_⟩
  obtain ⟨A, B, e1, e2, e3, e4⟩ := put_parts hE
  have hsp := split_at (p := fun x => decide (x.at_ < (mk16 s n).at_)) (e1.symm.trans hrow)
    (fun x hx => by have h1 := e3 x hx; have h2 := ((goodM_iff _).1 (hgs x (by rw [e1]; exact List.mem_append_left _ hx))).1; unfold bef at h1; simp; omega)
    (fun x hx => by have h1 := e4 x hx; unfold bef at h1; simp; omega)
    (fun x hx => by have h1 := b1 x hx; have h2 := ((goodM_iff _).1 (hgs x (by rw [hrow]; exact List.mem_append_left _ hx))).1; unfold bef at h1; simp; omega)
    (fun x hx => by have h1 := b2 x hx; unfold bef at h1; simp; omega)
  rw [e2, hrow2, hsp.1, hsp.2]
theorem row_all (s : Int) : rowOf s [] = (List.range 16).map (mk16 s) := by
  unfold rowOf; congr 1
theorem row_none (s : Int) : rowOf s (List.range 16) = [] := by
  unfold rowOf
  rw [List.map_eq_nil_iff, List.filter_eq_nil_iff]
  intro a ha
  rw [List.contains_iff_mem.2 ha]; simp
theorem full_full {s : Int} (hs : 4 ≤ s) (hs2 : s ≤ 1003) : putE (rowOf s []) ⟨1048576, 1, 1, 99, 0, false, false⟩ = 7 := by
  have hR := right16 hs hs2 []
  have hany : (rowOf s []).any (meet ⟨1048576, 1, 1, 99, 0, false, false⟩) = false := by
    rw [List.any_eq_false]
    intro x hx
    rw [row_all] at hx
    obtain ⟨a, ha, rfl⟩ := List.mem_map.1 hx
    have ha2 := List.mem_range.1 ha
    have h1 : (a : Int) * s ≤ 15 * 1003 := Int.mul_le_mul (by omega) hs2 (by omega) (by omega)
    have h2 : decide ((1048576 : Int) < (a : Int) * s + 4) = false := by rw [decide_eq_false_iff_not]; omega
    show ¬ (decide ((a : Int) * s < 1048576 + 1) && decide ((1048576 : Int) < (a : Int) * s + 4)) = true
    rw [h2]; simp
  have hlen : (rowOf s []).length = 16 := by rw [row_all]; simp
  unfold putE
  rw [hR, hany, hlen]; decide
theorem full_form {s : Int} (hs : 4 ≤ s) (hs2 : s ≤ 1003) : putE (rowOf s []) ⟨3, 1, 1, 99, 0, false, false⟩ = 2 := by
  have hR := right16 hs hs2 []
  have hany : (rowOf s []).any (meet ⟨3, 1, 1, 99, 0, false, false⟩) = true := by
    rw [List.any_eq_true]
    refine ⟨mk16 s 0, by rw [row_all]; exact List.mem_map.2 ⟨0, by simp, rfl⟩, by simp [meet, mk16]⟩
  have hg : goodM ⟨3, 1, 1, 99, 0, false, false⟩ = true := by decide
  unfold putE
  rw [hR, hany, hg]; simp
end Go.Proofs.Ytddllchobojmlaa
