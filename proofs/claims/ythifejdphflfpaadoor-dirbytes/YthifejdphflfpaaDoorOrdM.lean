/- Directories as sorted lists: what putting in does, apart from memory. -/
import Derived.Test.YthifejdphflfpaaDoorPut
import Derived.Test.YthifejdphflfpaaDoorEncM
namespace Go.Proofs.YthifejdphflfpaaDoor
open Go.RowKit Go.Sort
theorem risesB_iff : ∀ (l : List Nm) (b : ByteArray), risesB b l = true ↔ (∀ m ∈ l, ltB b m.nm = true) ∧ l.Pairwise (fun x y => ltB x.nm y.nm = true)
  | [], b => by simp [risesB]
  | m :: l, b => by
    simp only [risesB, Bool.and_eq_true, List.mem_cons, List.pairwise_cons, risesB_iff l m.nm]
    constructor
    · rintro ⟨h1, h2, h3⟩
      exact ⟨fun x hx => by rcases hx with rfl | hx; exact h1; exact bl_trans _ _ _ h1 (h2 x hx), h2, h3⟩
    · rintro ⟨h1, h2, h3⟩
      exact ⟨h1 m (.inl rfl), h2, h3⟩
theorem lt_empty (b : ByteArray) (h : 1 ≤ b.size) : ltB ⟨#[]⟩ b = true := by
  unfold ltB
  rw [tl, tl]
  have hl : b.data.toList.length = b.size := by simp
  cases hb : b.data.toList with
  | nil => rw [hb] at hl; simp at hl; omega
  | cons x r => rfl
/-- A directory: right entries, rising names, at most 4096 bytes. -/
theorem right_iff (l : List Nm) : rightL l = true ↔ (∀ m ∈ l, goodN m = true) ∧ l.Pairwise (fun x y => ltB x.nm y.nm = true) ∧ sizeL l ≤ 4096 := by
  unfold rightL
  rw [rk_eq l 0 _ (by omega)]
  simp only [Bool.and_eq_true, decide_eq_true_eq, risesB_iff, List.all_eq_true]
  constructor
  · rintro ⟨⟨h1, _, h2⟩, h3⟩; exact ⟨h1, h2, by omega⟩
  · rintro ⟨h1, h2, h3⟩; exact ⟨⟨h1, fun m hm => lt_empty _ (goodN_size (h1 m hm)).1, h2⟩, by omega⟩
theorem insL_cons (m : Nm) (l : List Nm) (n : Nm) : insL (m :: l) n = if ltB m.nm n.nm = true then m :: insL l n else n :: m :: l := by
  unfold insL
  by_cases h : ltB m.nm n.nm = true
  · rw [if_pos h]; simp [h]
  · rw [if_neg h]; simp [h]
theorem insL_perm (n : Nm) : ∀ l : List Nm, (insL l n).Perm (n :: l)
  | [] => List.Perm.refl _
  | m :: l => by
    rw [insL_cons]
    split
    · exact ((insL_perm n l).cons m).trans (List.Perm.swap ..)
    · exact List.Perm.refl _
theorem sizeL_perm {a b : List Nm} (h : a.Perm b) : sizeL a = sizeL b := by
  induction h with
  | nil => rfl
  | cons x _ ih => show ((x.nm.size : Int) + 10) + sizeL _ = (x.nm.size + 10) + sizeL _; rw [ih]
  | swap x y l => show ((y.nm.size : Int) + 10) + (((x.nm.size : Int) + 10) + sizeL l) = (x.nm.size + 10) + ((y.nm.size + 10) + sizeL l); omega
  | trans _ _ h1 h2 => rw [h1, h2]
theorem inB_iff (l : List Nm) (x : ByteArray) : inB l x = true ↔ ∃ m ∈ l, m.nm = x := by
  unfold inB
  rw [List.any_eq_true]
  constructor
  · rintro ⟨m, h1, h2⟩; refine ⟨m, h1, ?_⟩
    have : m.nm.toList = x.toList := by simpa using h2
    rw [tl, tl] at this
    exact ByteArray.ext (Array.ext' this)
  · rintro ⟨m, h1, rfl⟩; exact ⟨m, h1, by simp⟩
theorem insL_rises (n : Nm) : ∀ l : List Nm, l.Pairwise (fun x y => ltB x.nm y.nm = true) → (∀ m ∈ l, m.nm ≠ n.nm) → (insL l n).Pairwise (fun x y => ltB x.nm y.nm = true)
  | [], _, _ => by simp [insL]
  | m :: l, h, hn => by
    rw [List.pairwise_cons] at h
    have ih := insL_rises n l h.2 (fun x hx => hn x (List.mem_cons_of_mem _ hx))
    rw [insL_cons]
    split
    · rename_i hlt
      rw [List.pairwise_cons]
      refine ⟨fun x hx => ?_, ih⟩
      rcases List.mem_cons.1 ((insL_perm n l).mem_iff.1 hx) with rfl | hx
      · exact hlt
      · exact h.1 x hx
    · rename_i hlt
      have hnm : ltB n.nm m.nm = true := bl_tri _ _ (by simpa [ltB] using hlt) (fun e => by
        rw [tl, tl] at e
        exact hn m (List.mem_cons_self ..) (ByteArray.ext (Array.ext' e)))
      rw [List.pairwise_cons, List.pairwise_cons]
      exact ⟨fun x hx => by rcases List.mem_cons.1 hx with rfl | hx; exact hnm; exact bl_trans _ _ _ hnm (h.1 x hx), h.1, h.2⟩
/-- What is put in at its place is a directory, if the entry is right, its name is new and there is room. -/
theorem ins_right {l : List Nm} {n : Nm} (hr : rightL l = true) (hg : goodN n = true) (hi : inB l n.nm = false) (hs : sizeL l + (n.nm.size + 10) ≤ 4096) : rightL (insL l n) = true := by
  rw [right_iff] at hr ⊢
  have hp := insL_perm n l
  refine ⟨fun m hm => ?_, insL_rises n l hr.2.1 (fun m hm e => ?_), ?_⟩
  · rcases List.mem_cons.1 (hp.mem_iff.1 hm) with rfl | hm
    · exact hg
    · exact hr.1 m hm
  · have := (inB_iff l n.nm).2 ⟨m, hm, e⟩
    rw [hi] at this; cases this
  · rw [sizeL_perm hp]
    show ((n.nm.size : Int) + 10) + sizeL l ≤ 4096
    omega
theorem ins_size {l : List Nm} {n : Nm} (h : rightL (insL l n) = true) : sizeL l + (n.nm.size + 10) ≤ 4096 := by
  have := ((right_iff _).1 h).2.2
  rw [sizeL_perm (insL_perm n l)] at this
  have e : sizeL (n :: l) = ((n.nm.size : Int) + 10) + sizeL l := rfl
  omega
theorem ltB_asymm (a b : ByteArray) (h : ltB a b = true) (h2 : ltB b a = true) : False := by
  have := bl_trans _ _ _ h h2
  rw [bl_irr] at this; cases this
/-- Two directories with the same entries are one. -/
theorem right_perm {a b : List Nm} (ha : rightL a = true) (hb : rightL b = true) (h : a.Perm b) : a = b :=
  h.eq_of_pairwise (le := fun x y => ltB x.nm y.nm = true) (fun _ _ _ _ h1 h2 => (ltB_asymm _ _ h1 h2).elim) ((right_iff a).1 ha).2.1 ((right_iff b).1 hb).2.1
/-- What Put answers, told by what hinders it. -/
theorem putE_ok {l : List Nm} {n : Nm} : putE l n = 0 ↔ rightL l = true ∧ goodN n = true ∧ inB l n.nm = false ∧ rightL (insL l n) = true := by
  unfold putE
  cases rightL l <;> cases goodN n <;> cases inB l n.nm <;> cases rightL (insL l n) <;> simp
theorem putE_room {l : List Nm} {n : Nm} (hr : rightL l = true) (hg : goodN n = true) (hi : inB l n.nm = false) : putE l n = if sizeL l + (n.nm.size + 10) ≤ 4096 then 0 else 27 := by
  unfold putE
  rw [hr, hg, hi]
  by_cases h : sizeL l + (n.nm.size + 10) ≤ 4096
  · rw [ins_right hr hg hi h, if_pos h]; simp
  · have : rightL (insL l n) = false := by
      cases hx : rightL (insL l n)
      · rfl
      · exact absurd (ins_size hx) h
    rw [this, if_neg h]; simp
/-- The entries of the first list from behind, begun k places on: which one is the i-th. -/
def rotL (s : List Nm) (k : Nat) : List Nm := s.reverse.drop k ++ s.reverse.take k
theorem rotL_perm (s : List Nm) (k : Nat) : (rotL s k).Perm s := by
  unfold rotL
  refine List.perm_append_comm.trans ?_
  rw [List.take_append_drop]
  exact List.reverse_perm s
theorem rotL_len (s : List Nm) (k : Nat) : (rotL s k).length = s.length := (rotL_perm s k).length_eq
theorem rotL_get (s : List Nm) (k i : Nat) (hk : k < s.length) (hi : i < s.length) : (rotL s k)[i]? = s[s.length - 1 - (i + k) % s.length]? := by
  unfold rotL
  rw [List.getElem?_append]
  simp only [List.length_drop, List.length_reverse]
  by_cases h : i < s.length - k
  · rw [if_pos h, List.getElem?_drop, List.getElem?_reverse (by omega), Nat.mod_eq_of_lt (by omega), Nat.add_comm k i]
  · rw [if_neg h, List.getElem?_take, if_pos (by omega), List.getElem?_reverse (by omega)]
    have : (i + k) % s.length = i - (s.length - k) := by
      rw [Nat.mod_eq_sub_mod (by omega), Nat.mod_eq_of_lt (by omega)]; omega
    rw [this]
end Go.Proofs.YthifejdphflfpaaDoor
