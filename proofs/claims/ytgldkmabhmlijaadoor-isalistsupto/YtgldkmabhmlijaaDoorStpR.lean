/- parseStep of package isa reads what the reference's Parse reads. -/
import Derived.Test.YtgldkmabhmlijaaDoorRPar
namespace Go.Proofs.YtgldkmabhmlijaaDoor
open Go.RowKit Go.Sort
theorem last_uniq {X Y t u : List UInt8} {b : UInt8} (h : X ++ b :: t = Y ++ b :: u) (ht : b ∉ t) (hu : b ∉ u) : X = Y ∧ t = u := by
  rcases List.append_eq_append_iff.1 h with ⟨us, h1, h2⟩ | ⟨bs, h1, h2⟩
  · cases us with
    | nil => simp at h1 h2; exact ⟨h1.symm, h2⟩
    | cons a us => simp only [List.cons_append, List.cons.injEq] at h2; exact absurd (show b ∈ t by rw [h2.2]; simp) ht
  · cases bs with
    | nil => simp at h1 h2; exact ⟨h1, h2.symm⟩
    | cons a us => simp only [List.cons_append, List.cons.injEq] at h2; exact absurd (show b ∈ u by rw [h2.2]; simp) hu
theorem blank_form (s : ByteArray) : (blankS s = -1 ∧ (32 : UInt8) ∉ s.data.toList) ∨ ∃ X t, s.data.toList = X ++ 32 :: t ∧ (32 : UInt8) ∉ t ∧ blankS s = (X.length : Int) ∧ (tailS s).data.toList = t ∧ (headS s).data.toList = X ++ [32, 48] := by
  have hl : s.data.toList.length = s.size := by simp
  have hget : ∀ j (h : j < s.data.toList.length), s.data[j]! = s.data.toList[j] := fun j h => by
    rw [getElem!_pos s.data j (by simpa using h)]; simp
  rcases Lib.lastIndexByte_spec s 32 with ⟨e, hn⟩ | ⟨i, hi, e, hc, hn⟩
  · refine .inl ⟨e, fun hm => ?_⟩
    obtain ⟨j, hj, hj2⟩ := List.getElem_of_mem hm
    have := hn j (by omega)
    rw [hget j hj, hj2] at this
    exact this rfl
  · have hi' : i < s.data.toList.length := by omega
    rw [hget i hi'] at hc
    have h32 : s.data.toList[i] = 32 := UInt8.toNat_inj.1 (by show _ = 32; omega)
    refine .inr ⟨s.data.toList.take i, s.data.toList.drop (i + 1), ?_, fun hm => ?_, ?_, ?_, ?_⟩
    · rw [← h32, ← List.drop_eq_getElem_cons hi', List.take_append_drop]
    · obtain ⟨j, hj, hj2⟩ := List.getElem_of_mem hm
      rw [List.length_drop] at hj
      rw [List.getElem_drop] at hj2
      have := hn (i + 1 + j) (by omega) (by omega)
      rw [hget _ (by omega), hj2] at this
      exact this rfl
    · show Lib.lastIndexByte s 32 = _
      rw [e, List.length_take]; congr 1; omega
    · unfold tailS
      rw [show blankS s = (i : Int) from e, show ((i : Int) + 1).toNat = i + 1 from by omega, ByteArray.data_extract, Array.toList_extract]
      simp only [List.extract_eq_take_drop]
      exact List.take_of_length_le (by rw [List.length_drop]; omega)
    · unfold headS
      rw [show blankS s = (i : Int) from e, show ((i : Int)).toNat = i from by omega, ByteArray.data_append, Array.toList_append, ByteArray.data_extract, Array.toList_extract]
      simp
theorem itoa_last (m : Int) : ∃ B d, Lib.itoa m = B ++ [d] ∧ isDg d = true := by
  have key : ∀ u : Nat, ∃ B d, Lib.decDigits u = B ++ [d] ∧ isDg d = true := fun u => by
    obtain ⟨x, r, e⟩ := dec_ne u
    obtain ⟨B, d, e2⟩ : ∃ B d, Lib.decDigits u = B ++ [d] := ⟨_, _, (List.dropLast_concat_getLast (by rw [e]; simp)).symm⟩
    exact ⟨B, d, e2, List.all_eq_true.1 (dec_all u) d (by rw [e2]; simp)⟩
  unfold Lib.itoa
  split
  · obtain ⟨B, d, e, h⟩ := key m.natAbs
    exact ⟨45 :: B, d, by rw [e]; rfl, h⟩
  · exact key _
theorem text_last (c : Cod) (hr : rightC c = true) : (32 : UInt8) ∉ textC c ∨ ∃ A d, textC c = A ++ [d] ∧ isDg d = true := by
  obtain ⟨l1, _⟩ := right_lim hr
  have hk : c.op.toNat < 27 := by omega
  have f1 := (nm_facts ⟨c.op.toNat, hk⟩).1
  simp only at f1
  rw [← txV_text]
  have key : ∀ (A : List UInt8) (m : Int), ∃ A' d, A ++ Lib.itoa m = A' ++ [d] ∧ isDg d = true := fun A m => by
    obtain ⟨B, d, e, h⟩ := itoa_last m
    exact ⟨A ++ B, d, by rw [e]; simp, h⟩
  rcases sh_cases c.op with hs | hs | hs | hs | hs | hs | hs
  · left; simp only [txV, hs, List.append_nil]; exact f1
  · right; have := key (nmL.getD c.op.toNat [] ++ 32 :: (114 :: Lib.itoa c.a) ++ [32]) c.n; simpa [txV, hs] using this
  · right; have := key (nmL.getD c.op.toNat [] ++ 32 :: (114 :: Lib.itoa c.a) ++ [32, 114]) c.b; simpa [txV, hs] using this
  · right; have := key (nmL.getD c.op.toNat [] ++ 32 :: (114 :: Lib.itoa c.a) ++ 32 :: (114 :: Lib.itoa c.b) ++ [32, 114]) c.c; simpa [txV, hs] using this
  · right; have := key (nmL.getD c.op.toNat [] ++ 32 :: (114 :: Lib.itoa c.a) ++ 32 :: (114 :: Lib.itoa c.b) ++ [32]) c.n; simpa [txV, hs] using this
  · right; have := key (nmL.getD c.op.toNat [] ++ [32]) c.n; simpa [txV, hs] using this
  · right; have := key (nmL.getD c.op.toNat [] ++ 32 :: (114 :: Lib.itoa c.a) ++ [32]) c.n; simpa [txV, hs] using this
theorem let_last {nm : List UInt8} (h : nameL nm = true) : ∃ B d, nm = B ++ [d] ∧ isDg d = false := by
  have hne := let_ne h
  unfold nameL at h
  simp only [Bool.and_eq_true, List.all_eq_true] at h
  refine ⟨_, _, (List.dropLast_concat_getLast hne).symm, ?_⟩
  have hx := h.2 _ (List.getLast_mem hne)
  unfold isLet at hx; unfold isDg; simp at hx ⊢; omega
theorem txV_jump (c : Cod) (h : sh c.op = 5 ∨ sh c.op = 6) : ∃ P, ∀ v, txV c v = P ++ 32 :: v := by
  rcases h with h | h
  · exact ⟨nmL.getD c.op.toNat [], fun v => by simp only [txV, h]⟩
  · exact ⟨nmL.getD c.op.toNat [] ++ 32 :: (114 :: Lib.itoa c.a), fun v => by simp [txV, h]⟩
theorem itoa_zero {n : Int} (h0 : -1000000 ≤ n) (h1 : n ≤ 1000000) (h : Lib.itoa n = [48]) : n = 0 := by
  have e1 := atoi_itoa n h0 h1
  have e2 := atoi_itoa 0 (by omega) (by omega)
  rw [h] at e1; rw [itoa0] at e2; rw [e2] at e1
  injection e1 with e; exact e.symm
theorem stp_rpar (s : ByteArray) (c : Cod) (nm : List UInt8) : rpar s.data.toList = some (c, nm) ↔ (stpS s).ok = true ∧ (stpS s).c = c ∧ (stpS s).name.data.toList = nm := by
  have hbf := blank_form s
  constructor
  · intro h
    obtain ⟨hr, ⟨rfl, ht⟩ | ⟨hnm, hsh, hn, ht⟩⟩ := rpar_some h
    · have hno : blankS s < 0 ∨ nameL (tailS s).data.toList = false := by
        rcases hbf with ⟨e, _⟩ | ⟨X, t, e1, e2, e3, e4, e5⟩
        · left; omega
        · right
          rw [e4]
          rcases hq : nameL t with _ | _
          · rfl
          · exfalso
            rcases text_last c hr with h32 | ⟨A, d, hA, hd⟩
            · rw [ht, e1] at h32; exact h32 (by simp)
            · obtain ⟨B, d', hB, hd'⟩ := let_last hq
              rw [ht, e1, hB] at hA
              have := congrArg List.getLast? hA
              rw [← List.cons_append, ← List.append_assoc, List.getLast?_concat, List.getLast?_concat] at this
              cases this
              rw [hd] at hd'; cases hd'
      have hp := (parC_iff s c).2 ⟨hr, ht⟩
      have : stpS s = ⟨c, ⟨#[]⟩, true⟩ := by unfold stpS; rw [if_pos hno, hp]; rfl
      rw [this]; exact ⟨rfl, rfl, rfl⟩
    · obtain ⟨P, hP⟩ := txV_jump c hsh
      rcases hbf with ⟨e, e2⟩ | ⟨X, t, e1, e2, e3, e4, e5⟩
      · rw [← ht, hP] at e2; exact absurd (by simp) e2
      · obtain ⟨rfl, rfl⟩ := last_uniq (e1.symm.trans (ht.symm.trans (hP nm))) e2 (let_no32 hnm)
        have hh : (headS s).data.toList = textC c := by rw [e5, ← txV_text, hn, itoa0, hP]
        have hp := (parC_iff (headS s) c).2 ⟨hr, hh.symm⟩
        have : stpS s = ⟨c, tailS s, true⟩ := by
          unfold stpS; rw [if_neg (by rw [e4, e3, hnm]; simp), hp]
          simp [hsh]
        rw [this]; exact ⟨rfl, rfl, e4⟩
  · rintro ⟨h1, h2, h3⟩
    by_cases hno : blankS s < 0 ∨ nameL (tailS s).data.toList = false
    · have hst : stpS s = ⟨(parC s).getD c0, ⟨#[]⟩, (parC s).isSome⟩ := by unfold stpS; rw [if_pos hno]
      rw [hst] at h1 h2 h3
      obtain ⟨c', hc'⟩ := Option.isSome_iff_exists.1 h1
      simp only at h2 h3
      rw [hc'] at h2
      simp only [Option.getD_some] at h2
      subst h2
      obtain ⟨hr, ht⟩ := parC_some hc'
      rw [← ht, rpar_text c' hr, ← h3]
    · have hst : stpS s = ⟨(parC (headS s)).getD c0, tailS s, (parC (headS s)).isSome && decide (sh ((parC (headS s)).getD c0).op = 5 ∨ sh ((parC (headS s)).getD c0).op = 6)⟩ := by unfold stpS; rw [if_neg hno]
      rw [hst] at h1 h2 h3
      simp only [Bool.and_eq_true, decide_eq_true_eq] at h1 h2 h3
      obtain ⟨c', hc'⟩ := Option.isSome_iff_exists.1 h1.1
      rw [hc'] at h1 h2
      simp only [Option.getD_some] at h1 h2
      subst h2
      obtain ⟨hr, ht⟩ := parC_some hc'
      have hnm : nameL (tailS s).data.toList = true := by
        rcases hq : nameL (tailS s).data.toList with _ | _
        · exact absurd (.inr hq) hno
        · rfl
      rcases hbf with ⟨e, _⟩ | ⟨X, t, e1, e2, e3, e4, e5⟩
      · exact absurd (.inl (by omega)) hno
      · obtain ⟨P, hP⟩ := txV_jump c' h1.2
        have hz : P ++ 32 :: Lib.itoa c'.n = X ++ 32 :: [48] := by rw [← hP, txV_text, ht, e5]
        obtain ⟨rfl, hz2⟩ := last_uniq hz (itoa_no32 _) (by decide)
        obtain ⟨_, _, _, _, l5⟩ := right_lim hr
        have hn := itoa_zero (by omega) (by omega) hz2
        rw [e4] at hnm h3
        subst h3
        rw [e1, ← hP]
        exact rpar_named c' hr h1.2 hn t hnm
end Go.Proofs.YtgldkmabhmlijaaDoor
