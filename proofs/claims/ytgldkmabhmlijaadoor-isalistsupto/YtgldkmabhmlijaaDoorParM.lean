/- Parse undoes Text: plain facts on lists of bytes. -/
import Derived.Test.YtgldkmabhmlijaaDoorParse
namespace Go.Proofs.YtgldkmabhmlijaaDoor
open Go.RowKit Go.Sort

theorem dig_toNat (d : Nat) (h : d < 10) : (UInt8.ofNat (48 + d)).toNat = 48 + d := by rw [UInt8.toNat_ofNat']; omega
theorem parse_digits (u : Nat) : u < 100000000000000000 → ∀ r, Lib.parseUint10 0 (Lib.decDigits u ++ r) = Lib.parseUint10 u r := by
  induction u using Nat.strongRecOn with
  | _ u ih =>
    intro hu r
    rw [Lib.decDigits]
    split
    · rename_i h
      simp only [List.cons_append, List.nil_append, Lib.parseUint10]
      rw [dig_toNat u h, if_pos (by omega), if_neg (by omega), if_neg (by omega)]
      congr 1; omega
    · rename_i h
      rw [List.append_assoc, ih (u / 10) (by omega) (by omega)]
      simp only [List.cons_append, List.nil_append, Lib.parseUint10]
      rw [dig_toNat (u % 10) (by omega), if_pos (by omega), if_neg (by omega), if_neg (by omega)]
      congr 1; omega
theorem dec_digits (u : Nat) : ∀ x ∈ Lib.decDigits u, 48 ≤ x.toNat ∧ x.toNat ≤ 57 := by
  induction u using Nat.strongRecOn with
  | _ u ih =>
    intro x hx
    rw [Lib.decDigits] at hx
    split at hx
    · rename_i h
      rw [List.mem_singleton.1 hx, dig_toNat u h]; omega
    · rename_i h
      rcases List.mem_append.1 hx with hx | hx
      · exact ih (u / 10) (by omega) x hx
      · rw [List.mem_singleton.1 hx, dig_toNat _ (by omega)]; omega
theorem dec_ne (u : Nat) : ∃ c r, Lib.decDigits u = c :: r := by
  have : 0 < (Lib.decDigits u).length := by
    rw [Lib.decDigits]; split <;> simp
  match h : Lib.decDigits u with
  | [] => rw [h] at this; simp at this
  | c :: r => exact ⟨c, r, rfl⟩
theorem mag_digits (u : Nat) (h : u < 100000000000000000) : Lib.parseMag (Lib.decDigits u) = .ok u := by
  obtain ⟨c, r, e⟩ := dec_ne u
  unfold Lib.parseMag
  rw [if_neg (by rw [e]; simp)]
  have := parse_digits u h []
  rw [List.append_nil] at this
  rw [this]; rfl
theorem atoi_itoa (n : Int) (h0 : -1000000 ≤ n) (h1 : n ≤ 1000000) : Lib.atoiAll (Lib.itoa n) = .ok n := by
  unfold Lib.itoa
  split
  · rename_i hn
    unfold Lib.atoiAll
    simp only
    rw [if_pos (.inr rfl), mag_digits _ (by omega)]
    simp only
    rw [if_neg (by rintro ⟨h, _⟩; exact h rfl), if_neg (by omega), if_pos (show UInt8.toNat 45 = 45 from rfl)]
    congr 1; omega
  · rename_i hn
    obtain ⟨c, r, e⟩ := dec_ne n.toNat
    have hc := dec_digits n.toNat c (by rw [e]; simp)
    have hm := mag_digits n.toNat (by omega)
    rw [e] at hm ⊢
    unfold Lib.atoiAll
    simp only
    rw [if_neg (by omega), hm]
    simp only
    rw [if_neg (by omega), if_neg (by omega), if_neg (by omega)]
    congr 1; omega
theorem itoa_head (n : Int) : ∃ c r, Lib.itoa n = c :: r ∧ c ≠ 114 := by
  unfold Lib.itoa
  split
  · exact ⟨45, _, rfl, by decide⟩
  · obtain ⟨c, r, e⟩ := dec_ne n.toNat
    refine ⟨c, r, e, ?_⟩
    have hc := dec_digits n.toNat c (by rw [e]; simp)
    rintro rfl
    exact absurd hc.2 (by decide)
theorem itoa_no32 (n : Int) : (32 : UInt8) ∉ Lib.itoa n := by
  unfold Lib.itoa
  intro h
  have k : ∀ u, (32 : UInt8) ∉ Lib.decDigits u := fun u hu => absurd (dec_digits u 32 hu).1 (by decide)
  split at h
  · rcases List.mem_cons.1 h with h | h
    · exact absurd h (by decide)
    · exact k _ h
  · exact k _ h
theorem num_plain (n : Int) (h0 : -1000000 ≤ n) (h1 : n ≤ 1000000) : numL (Lib.itoa n) = n := by
  obtain ⟨c, r, e, hc⟩ := itoa_head n
  have ht : Lib.trimPrefix (Lib.itoa n) [114] = Lib.itoa n := by
    rw [e]; unfold Lib.trimPrefix
    rw [if_neg]
    simp [Lib.hasPrefix, List.isPrefixOf, Ne.symm hc]
  unfold numL; rw [ht, atoi_itoa n h0 h1]
theorem num_reg (n : Int) (h0 : -1000000 ≤ n) (h1 : n ≤ 1000000) : numL (114 :: Lib.itoa n) = n := by
  have ht : Lib.trimPrefix (114 :: Lib.itoa n) [114] = Lib.itoa n := by
    unfold Lib.trimPrefix
    rw [if_pos (by simp [Lib.hasPrefix, List.isPrefixOf])]; rfl
  unfold numL; rw [ht, atoi_itoa n h0 h1]

theorem idx_hit (c : UInt8) : ∀ (a b : List UInt8), c ∉ a → Lib.indexByte (a ++ c :: b) c = a.length
  | [], b, _ => by simp [Lib.indexByte]
  | x :: a, b, h => by
    have hx : (x == c) = false := by simp only [beq_eq_false_iff_ne]; rintro rfl; exact h (by simp)
    have ih := idx_hit c a b (fun hm => h (by simp [hm]))
    simp only [List.cons_append, Lib.indexByte, hx, ih]
    rw [if_neg (by simp), if_neg (by simp)]; simp
theorem idx_miss (c : UInt8) : ∀ (a : List UInt8), c ∉ a → Lib.indexByte a c = -1
  | [], _ => rfl
  | x :: a, h => by
    have hx : (x == c) = false := by simp only [beq_eq_false_iff_ne]; rintro rfl; exact h (by simp)
    have ih := idx_miss c a (fun hm => h (by simp [hm]))
    simp [Lib.indexByte, hx, ih]
theorem spl_hit (k : Nat) (a b : List UInt8) (h : (32 : UInt8) ∉ a) : Lib.splitK [32] 0 (k + 1) (a ++ 32 :: b) = a :: Lib.splitK [32] 0 k b := by
  rw [Lib.splitK, Lib.index_one, idx_hit 32 a b h, if_neg (by simp)]
  congr 1
  · simp
  · congr 1; simp
theorem spl_miss (k : Nat) (a : List UInt8) (h : (32 : UInt8) ∉ a) : Lib.splitK [32] 0 k a = [a] := by
  cases k with
  | zero => rfl
  | succ k => rw [Lib.splitK, Lib.index_one, idx_miss 32 a h, if_pos (by simp)]

def pcL (ps : List (List UInt8)) (h : Nat) : Nat → Cod
  | 0 => ⟨opN (ps.getD 0 []), 0, 0, 0, 0⟩
  | k + 1 => if k + 1 < ps.length then wth (pcL ps h k) (wd h k) (numL (ps.getD (k + 1) [])) else pcL ps h k
theorem getD_map (ps : List ByteArray) (j : Nat) : (ps.map (·.data.toList)).getD j [] = (ps.getD j ⟨#[]⟩).data.toList := by
  rw [List.getD_eq_getElem?_getD, List.getD_eq_getElem?_getD, List.getElem?_map]
  cases ps[j]? <;> rfl
theorem pcK_eq (ps : List ByteArray) (h k : Nat) : pcK ps h k = pcL (ps.map (·.data.toList)) h k := by
  induction k with
  | zero => rw [pcK, pcL, getD_map]
  | succ k ih => rw [pcK, pcL, ih, getD_map, List.length_map]
theorem pcS_eq (s : ByteArray) (L : List (List UInt8)) (h : Lib.splitK [32] 0 (min 4 (s.size + 1) - 1) s.data.toList = L) : pcS s = pcL L (sh (opN (L.getD 0 []))) 3 := by
  have e : (spB s).map (·.data.toList) = L := by unfold spB; rw [Lib.splitB_data]; exact h
  unfold pcS
  rw [pcK_eq, e, ← getD_map, e]
theorem nm_facts : ∀ k : Fin 27, (32 : UInt8) ∉ nmL.getD k.val [] ∧ 2 ≤ (nmL.getD k.val []).length ∧ (sh (k.val : Int) = 0 → 3 ≤ (nmL.getD k.val []).length) ∧ ∀ j : Fin 27, j.val < k.val → nmL.getD j.val [] ≠ nmL.getD k.val [] := by decide
theorem opN_nm (k : Nat) (h : k < 27) : opN (nmL.getD k []) = k :=
  opN_at _ k h rfl (fun j hj => (nm_facts ⟨k, h⟩).2.2.2 ⟨j, by omega⟩ hj)
theorem parse_text (c : Cod) (hr : rightC c = true) : pcS ⟨(textC c).toArray⟩ = c := by
  obtain ⟨l1, l2, l3, l4, l5⟩ := right_lim hr
  obtain ⟨op, a, b, d, n⟩ := c
  simp only at l1 l2 l3 l4 l5
  obtain ⟨k, rfl⟩ : ∃ k : Nat, op = k := ⟨op.toNat, by omega⟩
  have hk : k < 27 := by omega
  obtain ⟨f1, f2, f3, _⟩ := nm_facts ⟨k, hk⟩
  simp only at f1 f2 f3
  have hop := opN_nm k hk
  have hr2 := hr
  unfold rightC at hr2
  simp only [Bool.and_eq_true, decide_eq_true_eq] at hr2
  have hw := hr2.2
  have r1 : (32 : UInt8) ∉ 114 :: Lib.itoa a := by simp [itoa_no32]
  have r2 : (32 : UInt8) ∉ 114 :: Lib.itoa b := by simp [itoa_no32]
  have r3 : (32 : UInt8) ∉ 114 :: Lib.itoa d := by simp [itoa_no32]
  have r4 := itoa_no32 n
  have g1 := num_reg a (by omega) (by omega)
  have g2 := num_reg b (by omega) (by omega)
  have g3 := num_reg d (by omega) (by omega)
  have g4 := num_plain n (by omega) (by omega)
  have hsz : ∀ l : List UInt8, (⟨l.toArray⟩ : ByteArray).size = l.length := fun l => by simp [ByteArray.size]
  generalize hnm : nmL.getD k [] = nm at f1 f2 f3 hop
  rcases sh_cases (k : Int) with hs | hs | hs | hs | hs | hs | hs
  · have ht : textC ⟨k, a, b, d, n⟩ = nm := by simp [textC, txK, hs, wd, tw, ← hnm, List.getD]
    rw [ht, pcS_eq _ [nm] (by rw [hsz]; exact spl_miss _ _ f1)]
    simp [hs, zer] at hw
    simp [pcL, hop]; omega
  · have ht : textC ⟨k, a, b, d, n⟩ = nm ++ 32 :: ((114 :: Lib.itoa a) ++ 32 :: (Lib.itoa n)) := by simp [textC, txK, hs, wd, tw, fld, ← hnm, List.getD]
    have hK : min 4 ((nm ++ 32 :: ((114 :: Lib.itoa a) ++ 32 :: (Lib.itoa n))).length + 1) - 1 = 3 := by simp; omega
    rw [ht, pcS_eq _ [nm, 114 :: Lib.itoa a, Lib.itoa n] (by rw [hsz, hK]; rw [spl_hit 2 _ _ f1, spl_hit 1 _ _ r1, spl_miss 1 _ r4])]
    simp [hs, zer, reg] at hw
    simp [pcL, hop, hs, wd, wth, g1, g4]; omega
  · have ht : textC ⟨k, a, b, d, n⟩ = nm ++ 32 :: ((114 :: Lib.itoa a) ++ 32 :: (114 :: Lib.itoa b)) := by simp [textC, txK, hs, wd, tw, fld, ← hnm, List.getD]
    have hK : min 4 ((nm ++ 32 :: ((114 :: Lib.itoa a) ++ 32 :: (114 :: Lib.itoa b))).length + 1) - 1 = 3 := by simp; omega
    rw [ht, pcS_eq _ [nm, 114 :: Lib.itoa a, 114 :: Lib.itoa b] (by rw [hsz, hK]; rw [spl_hit 2 _ _ f1, spl_hit 1 _ _ r1, spl_miss 1 _ r2])]
    simp [hs, zer, reg] at hw
    simp [pcL, hop, hs, wd, wth, g1, g2]; omega
  · have ht : textC ⟨k, a, b, d, n⟩ = nm ++ 32 :: ((114 :: Lib.itoa a) ++ 32 :: ((114 :: Lib.itoa b) ++ 32 :: (114 :: Lib.itoa d))) := by simp [textC, txK, hs, wd, tw, fld, ← hnm, List.getD]
    have hK : min 4 ((nm ++ 32 :: ((114 :: Lib.itoa a) ++ 32 :: ((114 :: Lib.itoa b) ++ 32 :: (114 :: Lib.itoa d)))).length + 1) - 1 = 3 := by simp; omega
    rw [ht, pcS_eq _ [nm, 114 :: Lib.itoa a, 114 :: Lib.itoa b, 114 :: Lib.itoa d] (by rw [hsz, hK]; rw [spl_hit 2 _ _ f1, spl_hit 1 _ _ r1, spl_hit 0 _ _ r2, spl_miss 0 _ r3])]
    simp [hs, zer, reg] at hw
    simp [pcL, hop, hs, wd, wth, g1, g2, g3]; omega
  · have ht : textC ⟨k, a, b, d, n⟩ = nm ++ 32 :: ((114 :: Lib.itoa a) ++ 32 :: ((114 :: Lib.itoa b) ++ 32 :: (Lib.itoa n))) := by simp [textC, txK, hs, wd, tw, fld, ← hnm, List.getD]
    have hK : min 4 ((nm ++ 32 :: ((114 :: Lib.itoa a) ++ 32 :: ((114 :: Lib.itoa b) ++ 32 :: (Lib.itoa n)))).length + 1) - 1 = 3 := by simp; omega
    rw [ht, pcS_eq _ [nm, 114 :: Lib.itoa a, 114 :: Lib.itoa b, Lib.itoa n] (by rw [hsz, hK]; rw [spl_hit 2 _ _ f1, spl_hit 1 _ _ r1, spl_hit 0 _ _ r2, spl_miss 0 _ r4])]
    simp [hs, zer, reg] at hw
    simp [pcL, hop, hs, wd, wth, g1, g2, g4]; omega
  · have ht : textC ⟨k, a, b, d, n⟩ = nm ++ 32 :: (Lib.itoa n) := by simp [textC, txK, hs, wd, tw, fld, ← hnm, List.getD]
    have hK : min 4 ((nm ++ 32 :: (Lib.itoa n)).length + 1) - 1 = 3 := by simp; omega
    rw [ht, pcS_eq _ [nm, Lib.itoa n] (by rw [hsz, hK]; rw [spl_hit 2 _ _ f1, spl_miss 2 _ r4])]
    simp [hs, zer, way] at hw
    simp [pcL, hop, hs, wd, wth, g4]; omega
  · have ht : textC ⟨k, a, b, d, n⟩ = nm ++ 32 :: ((114 :: Lib.itoa a) ++ 32 :: (Lib.itoa n)) := by simp [textC, txK, hs, wd, tw, fld, ← hnm, List.getD]
    have hK : min 4 ((nm ++ 32 :: ((114 :: Lib.itoa a) ++ 32 :: (Lib.itoa n))).length + 1) - 1 = 3 := by simp; omega
    rw [ht, pcS_eq _ [nm, 114 :: Lib.itoa a, Lib.itoa n] (by rw [hsz, hK]; rw [spl_hit 2 _ _ f1, spl_hit 1 _ _ r1, spl_miss 1 _ r4])]
    simp [hs, zer, reg, way] at hw
    simp [pcL, hop, hs, wd, wth, g1, g4]; omega
theorem parC_text (c : Cod) (hr : rightC c = true) : parC ⟨(textC c).toArray⟩ = some c := by
  unfold parC; rw [parse_text c hr, if_pos ⟨hr, rfl⟩]
theorem parC_some {s : ByteArray} {c : Cod} (h : parC s = some c) : rightC c = true ∧ textC c = s.data.toList := by
  unfold parC at h
  split at h
  · rename_i hh; cases h; exact hh
  · cases h
theorem parC_iff (s : ByteArray) (c : Cod) : parC s = some c ↔ rightC c = true ∧ textC c = s.data.toList := by
  refine ⟨parC_some, fun ⟨h1, h2⟩ => ?_⟩
  have := parC_text c h1
  rwa [h2] at this
theorem text_inj {c d : Cod} (hc : rightC c = true) (hd : rightC d = true) (h : textC c = textC d) : c = d := by
  have h1 := parC_text c hc
  have h2 := parC_text d hd
  rw [h] at h1
  exact Option.some.inj (h1.symm.trans h2)
end Go.Proofs.YtgldkmabhmlijaaDoor
