/- A directory comes back from its bytes: apart from memory. -/
import Derived.Test.YthifejdphflfpaaDoorDecode
import Derived.Test.YthifejdphflfpaaDoorCut
namespace Go.Proofs.YthifejdphflfpaaDoor
open Go.RowKit Go.Sort
theorem ext_list (s : ByteArray) (a b : Nat) : (s.extract a b).data.toList = (s.data.toList.drop a).take (b - a) := by
  rw [ByteArray.data_extract, Array.toList_extract, List.extract_eq_take_drop]
theorem numL_numK (X : Nat) : ∀ k, numL (numK (X : Int) k) = X % 2 ^ (8 * k)
  | 0 => by simp [numK, numL, Nat.mod_one]
  | k + 1 => by
    have hb : (bU ((X : Int) / 2 ^ (8 * k))).toNat = X / 2 ^ (8 * k) % 256 := by
      have h := bU_val ((X : Int) / 2 ^ (8 * k))
      have e : ((X : Int) / 2 ^ (8 * k)) % 256 = ((X / 2 ^ (8 * k) % 256 : Nat) : Int) := by rw [Int.natCast_emod, Int.natCast_ediv, Int.natCast_pow]; rfl
      rw [e] at h
      exact Int.ofNat.inj h
    rw [numK_succ, numL_snoc, numL_numK X k, numK_len, hb, show 8 * (k + 1) = 8 * k + 8 from by omega, Nat.pow_add, Nat.mod_mul, Nat.mul_comm (2 ^ (8 * k))]
def mkS (l : List UInt8) : ByteArray := ⟨l.toArray⟩
theorem mkS_list (l : List UInt8) : (mkS l).data.toList = l := by simp [mkS]
theorem mkS_size (l : List UInt8) : (mkS l).size = l.length := by show l.toArray.size = _; simp
theorem ba_ext {a b : ByteArray} (h : a.data.toList = b.data.toList) : a = b := ByteArray.ext (Array.ext' h)
theorem c0_mk (m : Nm) (r : List UInt8) (h : m.nm.size ≤ 32) : c0 (mkS (entB m ++ r)) = m.nm.size := by
  have e : c0 (mkS (entB m ++ r)) = (bU (m.nm.size : Int)).toNat := by
    unfold c0 mkS entB; simp
  have h2 := bU_val (m.nm.size : Int)
  rw [e]; omega
theorem getD_mk (l : List UInt8) (i : Nat) : (mkS l).data.getD i 0 = (l[i]?).getD 0 := by
  unfold mkS; simp
theorem fst_mk (m : Nm) (r : List UInt8) (hg : goodN m = true) : fstT (mkS (entB m ++ r)) = m := by
  have hs := goodN_size hg
  have hc := c0_mk m r hs.2
  have hl : m.nm.data.toList.length = m.nm.size := by simp
  have hk : m.kd = 1 ∨ m.kd = 2 := by
    unfold goodN at hg; simp only [Bool.and_eq_true, Bool.or_eq_true, beq_iff_eq] at hg; exact hg.1.2
  have hi : 1 ≤ m.id ∧ m.id ≤ 2305843009213693951 := by
    unfold goodN at hg; simp only [Bool.and_eq_true, decide_eq_true_eq] at hg; exact hg.2
  unfold fstT
  rw [hc]
  have h1 : (mkS (entB m ++ r)).extract 1 (1 + m.nm.size) = m.nm := by
    refine ba_ext ?_
    rw [ext_list, mkS_list]
    unfold entB
    simp only [List.cons_append, List.drop_succ_cons, List.drop_zero, List.append_assoc]
    rw [show 1 + m.nm.size - 1 = m.nm.data.toList.length from by omega, List.take_left]
  have h2 : (((mkS (entB m ++ r)).data.getD (1 + m.nm.size) 0).toNat : Int) = m.kd := by
    rw [getD_mk]
    unfold entB
    rw [show 1 + m.nm.size = m.nm.data.toList.length + 1 from by omega]
    simp only [List.cons_append, List.getElem?_cons_succ, List.append_assoc]
    rw [List.getElem?_append_right (Nat.le_refl _), Nat.sub_self]
    have := bU_val m.kd
    simp only [List.getElem?_cons_zero, Option.getD_some]
    omega
  have h3 : wrap64 (numL (((mkS (entB m ++ r)).extract (2 + m.nm.size) (mkS (entB m ++ r)).size).data.toList.take 8) : Nat) = m.id := by
    have e : (((mkS (entB m ++ r)).extract (2 + m.nm.size) (mkS (entB m ++ r)).size).data.toList.take 8) = numK m.id 8 := by
      rw [ext_list, mkS_list, mkS_size]
      have e2 : (entB m ++ r).drop (2 + m.nm.size) = numK m.id 8 ++ r := by
        unfold entB
        rw [show 2 + m.nm.size = (m.nm.data.toList.length + 1) + 1 from by omega]
        simp only [List.cons_append, List.drop_succ_cons, List.append_assoc]
        rw [List.drop_append, List.drop_of_length_le (by omega)]
        simp
      rw [e2, List.take_take, List.length_append, entB_length]
      rw [show min 8 (m.nm.size + 10 + r.length - (2 + m.nm.size)) = (numK m.id 8).length from by rw [numK_len]; omega, List.take_left]
    rw [e]
    obtain ⟨X, hX⟩ : ∃ X : Nat, m.id = (X : Int) := ⟨m.id.toNat, by omega⟩
    rw [hX, numL_numK, Nat.mod_eq_of_lt (by rw [show 8 * 8 = 64 from rfl]; omega)]
    unfold wrap64; omega
  rw [h1, h2, h3]
theorem rest_mk (m : Nm) (r : List UInt8) (h : m.nm.size ≤ 32) : restS (mkS (entB m ++ r)) = mkS r := by
  unfold restS
  rw [c0_mk m r h]
  refine ba_ext ?_
  rw [ext_list, mkS_list, mkS_list, mkS_size, show m.nm.size + 10 = (entB m).length from (entB_length m).symm, List.drop_left, List.length_append]
  rw [show (entB m).length + r.length - (entB m).length = r.length from by omega, List.take_length]
theorem ent_back : ∀ (l : List Nm) (f : Nat), (∀ m ∈ l, goodN m = true) → (encB l).length ≤ f → entF f (mkS (encB l)) = l.map fun m => (m, true)
  | [], f, _, _ => by
    cases f with
    | zero => rfl
    | succ f => unfold entF; rw [if_pos (by rw [mkS_size]; rfl)]; rfl
  | m :: l, f, hg, hf => by
    have e : encB (m :: l) = entB m ++ encB l := rfl
    have hgm := hg m (List.mem_cons_self ..)
    have hs := goodN_size hgm
    have hlen := entB_length m
    rw [e] at hf ⊢
    rw [List.length_append] at hf
    obtain ⟨f', rfl⟩ : ∃ f', f = f' + 1 := ⟨f - 1, by omega⟩
    have hw : wholeB (mkS (entB m ++ encB l)) = true := by
      unfold wholeB; rw [decide_eq_true_eq, c0_mk m _ hs.2, mkS_size, List.length_append]; omega
    unfold entF
    rw [if_neg (by rw [mkS_size, List.length_append]; omega), if_pos hw, fst_mk m _ hgm, rest_mk m _ hs.2, ent_back l f' (fun x hx => hg x (List.mem_cons_of_mem _ hx)) (by omega)]
    rfl
/-- A directory's bytes are read as that directory. -/
theorem par_enc {l : List Nm} (hr : rightL l = true) : (encS l).size ≤ 4096 ∧ decE (encS l) = 0 ∧ decL (encS l) = l := by
  obtain ⟨hg, _, hs⟩ := (right_iff l).1 hr
  have hl := encB_len l
  have he : encS l = mkS (encB l) := by unfold encS; rw [if_pos hr]; rfl
  have hz : (encS l).size ≤ 4096 := by rw [he, mkS_size]; omega
  have ha : allEn (encS l) = l.map fun m => (m, true) := by
    unfold allEn; rw [he]; exact ent_back l _ hg (by rw [mkS_size]; exact Nat.le_refl _)
  have hp : parS (encS l) = some l := by
    unfold parS
    rw [if_pos ⟨hz, by rw [ha, List.all_eq_true]; intro x hx; obtain ⟨m, _, rfl⟩ := List.mem_map.1 hx; rfl⟩, ha, List.map_map]
    congr 1
    exact List.map_id l
  refine ⟨hz, ?_, ?_⟩
  · unfold decE; rw [hp]; simp [hr]
  · unfold decL; rw [hp]; simp [hr]
theorem enc_inj {l m : List Nm} (hl : rightL l = true) (hm : rightL m = true) : (encS l = encS m) ↔ l = m :=
  ⟨fun h => by rw [← (par_enc hl).2.2, h, (par_enc hm).2.2], fun h => by rw [h]⟩
/-- What was put in is found, and cut out again leaves the directory as it was. -/
theorem put_back {l : List Nm} {n : Nm} (h : putE l n = 0) : rightL (insL l n) = true ∧ findL (insL l n) n.nm = some n ∧ cutE (insL l n) n.nm = 0 ∧ cutL (insL l n) n.nm = l := by
  obtain ⟨hr, hg, hi, hr2⟩ := putE_ok.1 h
  have hno : ∀ m ∈ l, (m.nm.toList == n.nm.toList) = false := fun m hm => by
    unfold inB at hi; rw [List.any_eq_false] at hi
    simpa using hi m hm
  have hin : inB (insL l n) n.nm = true := by
    rw [inB_iff]; exact ⟨n, (insL_perm n l).mem_iff.2 (List.mem_cons_self ..), rfl⟩
  have hC : cutE (insL l n) n.nm = 0 := by unfold cutE; simp [hr2, hin]
  have key : ∀ l : List Nm, (∀ m ∈ l, (m.nm.toList == n.nm.toList) = false) → findL (insL l n) n.nm = some n ∧ flt n.nm (insL l n) = l := fun l => by
    induction l with
    | nil => intro _; simp [insL, findL, flt]
    | cons m l ih =>
      intro hm
      have h1 := hm m (List.mem_cons_self ..)
      obtain ⟨i1, i2⟩ := ih (fun x hx => hm x (List.mem_cons_of_mem _ hx))
      rw [insL_cons]
      split
      · refine ⟨?_, ?_⟩
        · unfold findL at i1 ⊢; rw [List.find?_cons, h1]; exact i1
        · unfold flt at i2 ⊢; rw [List.filter_cons, h1]; simp [i2]
      · refine ⟨?_, ?_⟩
        · unfold findL; rw [List.find?_cons]; simp
        · unfold flt
          rw [List.filter_cons]
          simp only [beq_self_eq_true, Bool.not_true, Bool.false_eq_true, if_false]
          rw [List.filter_eq_self]
          intro x hx; rw [hm x hx]; rfl
  exact ⟨hr2, (key l hno).1, hC, by unfold cutL; rw [if_pos hC]; exact (key l hno).2⟩
end Go.Proofs.YthifejdphflfpaaDoor
