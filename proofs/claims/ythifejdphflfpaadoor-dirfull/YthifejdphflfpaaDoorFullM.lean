/- The names of DirFull, and how many of them go into a directory: apart from memory. -/
import Derived.Test.YthifejdphflfpaaDoorOrdB
namespace Go.Proofs.YthifejdphflfpaaDoor
open Go.RowKit Go.Sort
/-- The letters of the k-th name, as far as j letters. -/
def fulL (k j : Nat) : List UInt8 := [bU (97 + (k : Int) / 26 % 26), bU (97 + (k : Int) % 26), bU (48 + (k : Int) / 676)] ++ List.replicate (j - 3) 120
def fulB (k j : Nat) : ByteArray := ⟨(fulL k j).toArray⟩
theorem fulL_len (k j : Nat) (h : 3 ≤ j) : (fulL k j).length = j := by simp [fulL]; omega
theorem fulB_size (k j : Nat) (h : 3 ≤ j) : (fulB k j).size = j := by
  show (fulL k j).toArray.size = j
  simp [fulL_len k j h]
theorem fulL_succ (k j : Nat) (h : 3 ≤ j) : fulL k (j + 1) = fulL k j ++ [bU 120] := by
  unfold fulL
  rw [show j + 1 - 3 = (j - 3) + 1 from by omega, List.replicate_succ', ← List.append_assoc]
  rfl
def fulN (k j : Nat) : Nm := ⟨fulB k j, 1 + (k : Int) % 2, 1 + (k : Int)⟩
theorem fulN_good (k j : Nat) (hk : k < 400) (h1 : 3 ≤ j) (h2 : j ≤ 32) : goodN (fulN k j) = true := by
  have hs : (fulB k j).size = j := fulB_size k j h1
  have hl := fulL_len k j h1
  have hd : (fulB k j).data.toList = fulL k j := by simp [fulB]
  have hb : barred (fulL k j) = false := by
    unfold barred
    rw [List.any_eq_false]
    intro x hx
    have hx' : x.toNat = 120 ∨ (97 ≤ x.toNat ∧ x.toNat ≤ 122) ∨ x.toNat = 48 := by
      unfold fulL at hx
      rcases List.mem_append.1 hx with hx | hx
      · simp only [List.mem_cons, List.not_mem_nil, or_false] at hx
        have h0 := bU_val (97 + (k : Int) / 26 % 26)
        have h1 := bU_val (97 + (k : Int) % 26)
        have h2 := bU_val (48 + (k : Int) / 676)
        rcases hx with rfl | rfl | rfl
        · right; left; omega
        · right; left; omega
        · right; right; omega
      · have := (List.mem_replicate.1 hx).2
        subst this; left; rfl
    simp only [Bool.or_eq_true, beq_iff_eq, not_or]
    exact ⟨fun e => by subst e; simp at hx', fun e => by subst e; simp at hx'⟩
  have n1 : (fulL k j == [46]) = false := by rw [beq_eq_false_iff_ne]; intro e; rw [e] at hl; simp at hl; omega
  have n2 : (fulL k j == [46, 46]) = false := by rw [beq_eq_false_iff_ne]; intro e; rw [e] at hl; simp at hl; omega
  have hn : nameB (fulB k j) = true := by
    unfold nameB
    rw [hs, hd, hb, n1, n2, decide_eq_true (show 1 ≤ j ∧ j ≤ 32 from by omega)]; rfl
  have e : goodN (fulN k j) = (nameB (fulB k j) && (1 + (k : Int) % 2 == 1 || 1 + (k : Int) % 2 == 2) && decide (1 ≤ 1 + (k : Int) ∧ 1 + (k : Int) ≤ 2305843009213693951)) := rfl
  have e2 : (1 + (k : Int) % 2 == 1 || 1 + (k : Int) % 2 == 2) = true := by simp; omega
  rw [e, hn, e2, decide_eq_true (show 1 ≤ 1 + (k : Int) ∧ 1 + (k : Int) ≤ 2305843009213693951 from by omega)]; rfl
theorem fulB_inj (i k j : Nat) (hi : i < 400) (hk : k < 400) (h : fulB i j = fulB k j) : i = k := by
  have hd : fulL i j = fulL k j := by
    have := congrArg (fun b : ByteArray => b.data.toList) h
    simpa [fulB] using this
  unfold fulL at hd
  simp only [List.cons_append, List.nil_append, List.cons.injEq] at hd
  have h0 := congrArg (fun x : UInt8 => (x.toNat : Int)) hd.1
  have h1 := congrArg (fun x : UInt8 => (x.toNat : Int)) hd.2.1
  simp only [bU_val] at h0 h1
  omega
/-- A directory with the first k names. -/
structure Ful (N k : Nat) (L : List Nm) : Prop where
  right : rightL L = true
  len : L.length = k
  all : ∀ m ∈ L, ∃ i, i < k ∧ m.nm = fulB i N
theorem Ful.size {N k : Nat} {L : List Nm} (h : Ful N k L) (h3 : 3 ≤ N) : sizeL L = (k : Int) * (N + 10) := by
  have key : ∀ l : List Nm, (∀ m ∈ l, m.nm.size = N) → sizeL l = (l.length : Int) * (N + 10) := fun l => by
    induction l with
    | nil => intro _; simp [sizeL]
    | cons m l ih =>
      intro hm
      have e : sizeL (m :: l) = ((m.nm.size : Int) + 10) + sizeL l := rfl
      rw [e, ih (fun x hx => hm x (List.mem_cons_of_mem _ hx)), hm m (List.mem_cons_self ..), List.length_cons]
      push_cast
      rw [Int.add_mul]
      omega
  rw [key L (fun m hm => by obtain ⟨i, _, e⟩ := h.all m hm; rw [e]; exact fulB_size i N h3), h.len]
theorem Ful.room {N k : Nat} {L : List Nm} (h : Ful N k L) (h3 : 3 ≤ N) : (k : Int) * (N + 10) ≤ 4096 := by
  rw [← h.size h3]; exact ((right_iff L).1 h.right).2.2
theorem Ful.lt {N k : Nat} {L : List Nm} (h : Ful N k L) (h3 : 3 ≤ N) : k < 400 := by
  have h1 := h.room h3
  have h2 : (k : Int) * 13 ≤ (k : Int) * (N + 10) := Int.mul_le_mul_of_nonneg_left (by omega) (by omega)
  omega
theorem Ful.put {N k : Nat} {L : List Nm} (h : Ful N k L) (h3 : 3 ≤ N) (hN : N ≤ 32) : putE L (fulN k N) = (if ((k : Int) + 1) * (N + 10) ≤ 4096 then 0 else 27) := by
  have hk := h.lt h3
  rw [putE_room h.right (fulN_good k N hk h3 hN)]
  · have e1 := h.size h3
    have e2 : (fulN k N).nm.size = N := fulB_size k N h3
    rw [e1, e2, Int.add_mul]
    have e3 : (1 : Int) * (N + 10) = N + 10 := by omega
    rw [e3]
  · cases hi : inB L (fulN k N).nm
    · rfl
    · obtain ⟨m, hm, he⟩ := (inB_iff _ _).1 hi
      obtain ⟨i, hik, hmi⟩ := h.all m hm
      have := fulB_inj i k N (by omega) hk (by rw [← hmi, he]; rfl)
      omega
theorem Ful.next {N k : Nat} {L : List Nm} (h : Ful N k L) (he : putE L (fulN k N) = 0) : Ful N (k + 1) (insL L (fulN k N)) := by
  have hp := insL_perm (fulN k N) L
  refine ⟨(putE_ok.1 he).2.2.2, by rw [hp.length_eq, List.length_cons, h.len], fun m hm => ?_⟩
  rcases List.mem_cons.1 (hp.mem_iff.1 hm) with rfl | hm
  · exact ⟨k, by omega, rfl⟩
  · obtain ⟨i, hi, e⟩ := h.all m hm
    exact ⟨i, by omega, e⟩
theorem Ful.zero (N : Nat) : Ful N 0 [] := ⟨rfl, rfl, fun m hm => by cases hm⟩
end Go.Proofs.YthifejdphflfpaaDoor
