/- The reference's Parse as a function of a text's bytes, and that it reads what parseStep of package isa reads. -/
import Derived.Test.YtgldkmabhmlijaaDoorStep
namespace Go.Proofs.YtgldkmabhmlijaaDoor
open Go.RowKit Go.Sort
/-- The parts of a text between bytes c; a stands ahead of the first. -/
def wdA (c : UInt8) : List UInt8 → List UInt8 → List (List UInt8)
  | a, [] => [a]
  | a, x :: l => if x = c then a :: wdA c [] l else wdA c (a ++ [x]) l
theorem wdA_miss (c : UInt8) : ∀ (l a : List UInt8), c ∉ l → wdA c a l = [a ++ l]
  | [], a, _ => by simp [wdA]
  | x :: l, a, h => by
    have hx : x ≠ c := fun e => h (by simp [e])
    rw [wdA, if_neg hx, wdA_miss c l _ (fun hm => h (by simp [hm]))]; simp
theorem wdA_hit (c : UInt8) (b : List UInt8) : ∀ (l a : List UInt8), c ∉ l → wdA c a (l ++ c :: b) = (a ++ l) :: wdA c [] b
  | [], a, _ => by simp [wdA]
  | x :: l, a, h => by
    have hx : x ≠ c := fun e => h (by simp [e])
    rw [List.cons_append, wdA, if_neg hx, wdA_hit c b l _ (fun hm => h (by simp [hm]))]; simp
theorem wdA_len (c : UInt8) : ∀ (l a : List UInt8), 1 ≤ (wdA c a l).length ∧ (wdA c a l).length ≤ l.length + 1
  | [], a => by simp [wdA]
  | x :: l, a => by
    rw [wdA]
    split
    · have := wdA_len c l []; simp only [List.length_cons]; omega
    · have := wdA_len c l (a ++ [x]); simp only [List.length_cons]; omega
/-- No part is longer than the whole. -/
theorem wdA_sizes (c : UInt8) : ∀ (l a : List UInt8), ∀ x ∈ wdA c a l, x.length ≤ a.length + l.length
  | [], a, x, hx => by simp [wdA] at hx; simp [hx]
  | y :: l, a, x, hx => by
    rw [wdA] at hx
    split at hx
    · rcases List.mem_cons.1 hx with rfl | hx
      · simp
      · have := wdA_sizes c l [] x hx; simp at this ⊢; omega
    · have := wdA_sizes c l _ x hx; simp at this ⊢; omega
def isDg (b : UInt8) : Bool := decide (48 ≤ b.toNat) && decide (b.toNat ≤ 57)
def dnN (n : Nat) (l : List UInt8) : Nat := l.foldl (fun n x => 10 * n + (x.toNat - 48)) n
theorem dnN_snoc (l : List UInt8) (n : Nat) (x : UInt8) : dnN n (l ++ [x]) = 10 * dnN n l + (x.toNat - 48) := by
  unfold dnN; rw [List.foldl_append]; rfl
/-- The digits of a word: behind its sign, if it has one. -/
def dgs (l : List UInt8) : List UInt8 := if l.head? = some 45 then l.tail else l
def valL (l : List UInt8) : Option Int :=
  if (dgs l).length = 0 ∨ 6 < (dgs l).length ∨ (dgs l).all isDg = false then none else some (if l.head? = some 45 then -(dnN 0 (dgs l) : Int) else dnN 0 (dgs l))
def regL (l : List UInt8) : Option Int := if 2 ≤ l.length ∧ l.length ≤ 3 ∧ l.head? = some 114 then valL l.tail else none
theorem dn_dec (u : Nat) : dnN 0 (Lib.decDigits u) = u := by
  induction u using Nat.strongRecOn with
  | _ u ih =>
    rw [Lib.decDigits]
    split
    · rename_i h
      simp only [dnN, List.foldl_cons, List.foldl_nil]; rw [dig_toNat u h]; omega
    · rename_i h
      rw [dnN_snoc, ih (u / 10) (by omega), dig_toNat (u % 10) (by omega)]; omega
theorem dec_len (k : Nat) : ∀ u, u < 10 ^ (k + 1) → (Lib.decDigits u).length ≤ k + 1 := by
  induction k with
  | zero => intro u hu; rw [Lib.decDigits, dif_pos (by simpa using hu)]; simp
  | succ k ih =>
    intro u hu
    rw [Lib.decDigits]
    split
    · simp
    · have := ih (u / 10) (by rw [Nat.pow_succ] at hu; omega)
      simp only [List.length_append, List.length_cons, List.length_nil]; omega
theorem dec_all (u : Nat) : (Lib.decDigits u).all isDg = true := by
  rw [List.all_eq_true]; intro x hx; have := dec_digits u x hx; simp [isDg, this.1, this.2]
theorem dgs_itoa (n : Int) : dgs (Lib.itoa n) = Lib.decDigits n.natAbs ∧ ((Lib.itoa n).head? = some 45 ↔ n < 0) := by
  unfold Lib.itoa
  split
  · rename_i h; refine ⟨by simp [dgs], by simp [h]⟩
  · rename_i h
    obtain ⟨c, r, e⟩ := dec_ne n.toNat
    have hc := dec_digits n.toNat c (by rw [e]; simp)
    have hne : c ≠ 45 := by rintro rfl; exact absurd hc.1 (by decide)
    have hn : n.natAbs = n.toNat := by omega
    rw [hn, e]
    simp [dgs, hne]; omega
theorem valL_itoa (n : Int) (h0 : -999999 ≤ n) (h1 : n ≤ 999999) : valL (Lib.itoa n) = some n := by
  obtain ⟨e1, e2⟩ := dgs_itoa n
  have hl := dec_len 5 n.natAbs (by show n.natAbs < 1000000; omega)
  obtain ⟨c, r, e⟩ := dec_ne n.natAbs
  unfold valL
  rw [e1, if_neg (by rintro (h | h | h); · rw [e] at h; simp at h
                     · omega
                     · rw [dec_all] at h; cases h), dn_dec]
  by_cases hn : n < 0
  · rw [if_pos (e2.2 hn)]; congr 1; omega
  · rw [if_neg (fun h => hn (e2.1 h))]; congr 1; omega
theorem regL_itoa (n : Int) (h0 : 0 ≤ n) (h1 : n ≤ 15) : regL (114 :: Lib.itoa n) = some n := by
  have hl : (Lib.itoa n).length ≤ 2 ∧ 1 ≤ (Lib.itoa n).length := by
    unfold Lib.itoa; rw [if_neg (by omega)]
    obtain ⟨c, r, e⟩ := dec_ne n.toNat
    exact ⟨dec_len 1 n.toNat (by show n.toNat < 100; omega), by rw [e]; simp⟩
  unfold regL
  rw [if_pos ⟨by simp; omega, by simp; omega, rfl⟩]
  exact valL_itoa n (by omega) (by omega)
/-- How many registers, and numbers, a shape has. -/
def rgN : Nat → Nat
  | 1 => 1 | 2 => 2 | 3 => 3 | 4 => 2 | 6 => 1 | _ => 0
def nuN : Nat → Nat
  | 1 => 1 | 4 => 1 | 5 => 1 | 6 => 1 | _ => 0
def setR (c : Cod) (i : Nat) (n : Int) : Cod := if i = 0 then { c with a := n } else if i = 1 then { c with b := n } else { c with c := n }
def rgK (ws : List (List UInt8)) (op : Int) : Nat → Option Cod
  | 0 => some ⟨op, 0, 0, 0, 0⟩
  | i + 1 => match rgK ws op i with
    | none => none
    | some c => match regL (ws.getD (i + 1) []) with
      | none => none
      | some n => some (setR c i n)
theorem rgK_some {ws : List (List UInt8)} {op : Int} : ∀ {i : Nat} {c : Cod}, rgK ws op i = some c → c.op = op ∧ c.n = 0
  | 0, c, h => by cases h; exact ⟨rfl, rfl⟩
  | i + 1, c, h => by
    rw [rgK] at h
    split at h
    · cases h
    · rename_i c' h'
      split at h
      · cases h
      · cases h
        have := rgK_some h'
        unfold setR; (repeat' split) <;> exact this
def finR (s : List UInt8) (c : Cod) (nm : List UInt8) : Option (Cod × List UInt8) :=
  if rightC c = true ∧ (if nm = [] then textC c else (textC c).dropLast ++ nm) = s then some (c, nm) else none
/-- The reference's Parse. -/
def rpB (s : List UInt8) (ws : List (List UInt8)) (h : Nat) : Option Cod → Option (Cod × List UInt8)
  | none => none
  | some c => if nuN h = 0 then finR s c [] else match valL (ws.getD (rgN h + 1) []) with
    | some n => finR s { c with n := n } []
    | none => if (h = 5 ∨ h = 6) ∧ nameL (ws.getD (rgN h + 1) []) = true then finR s c (ws.getD (rgN h + 1) []) else none
def rpar (s : List UInt8) : Option (Cod × List UInt8) :=
  if opN ((wdA 32 [] s).getD 0 []) < 0 ∨ (wdA 32 [] s).length ≠ 1 + rgN (sh (opN ((wdA 32 [] s).getD 0 []))) + nuN (sh (opN ((wdA 32 [] s).getD 0 []))) then none
  else rpB s (wdA 32 [] s) (sh (opN ((wdA 32 [] s).getD 0 []))) (rgK (wdA 32 [] s) (opN ((wdA 32 [] s).getD 0 [])) (rgN (sh (opN ((wdA 32 [] s).getD 0 [])))))
theorem rpar_of {s : List UInt8} {ws : List (List UInt8)} {k : Nat} (hk : k < 27) (hw : wdA 32 [] s = ws) (h0 : ws.getD 0 [] = nmL.getD k []) (hl : ws.length = 1 + rgN (sh k) + nuN (sh k)) : rpar s = rpB s ws (sh k) (rgK ws k (rgN (sh k))) := by
  unfold rpar
  rw [hw, h0, opN_nm k hk, if_neg (by rintro (h | h); · omega
                                      · exact h hl)]
theorem let_no32 {nm : List UInt8} (h : nameL nm = true) : (32 : UInt8) ∉ nm := fun hm => by
  unfold nameL at h
  simp only [Bool.and_eq_true, List.all_eq_true] at h
  have := h.2 32 hm
  exact absurd this (by decide)
theorem let_ne {nm : List UInt8} (h : nameL nm = true) : nm ≠ [] := fun e => by subst e; exact absurd h (by decide)
theorem let_val {nm : List UInt8} (h : nameL nm = true) : valL nm = none := by
  have hne := let_ne h
  unfold nameL at h
  simp only [Bool.and_eq_true, List.all_eq_true] at h
  obtain ⟨x, r, rfl⟩ : ∃ x r, nm = x :: r := by cases nm with | nil => exact absurd rfl hne | cons x r => exact ⟨x, r, rfl⟩
  have hx := h.2 x (by simp)
  have h45 : x ≠ 45 := by rintro rfl; exact absurd hx (by decide)
  have hd : dgs (x :: r) = x :: r := by unfold dgs; rw [if_neg (by simp [h45])]
  have : isDg x = false := by
    unfold isLet at hx; unfold isDg; simp at hx ⊢; omega
  unfold valL
  rw [hd, if_pos (.inr (.inr (by simp [this])))]
/-- A right instruction's text has the shape's words; v in the number's place (where it has one). -/
def txV (c : Cod) (v : List UInt8) : List UInt8 :=
  nmL.getD c.op.toNat [] ++ (match sh c.op with
    | 1 => 32 :: (114 :: Lib.itoa c.a) ++ 32 :: v
    | 2 => 32 :: (114 :: Lib.itoa c.a) ++ 32 :: (114 :: Lib.itoa c.b)
    | 3 => 32 :: (114 :: Lib.itoa c.a) ++ 32 :: ((114 :: Lib.itoa c.b) ++ 32 :: (114 :: Lib.itoa c.c))
    | 4 => 32 :: (114 :: Lib.itoa c.a) ++ 32 :: ((114 :: Lib.itoa c.b) ++ 32 :: v)
    | 5 => 32 :: v
    | 6 => 32 :: (114 :: Lib.itoa c.a) ++ 32 :: v
    | _ => [])
theorem txV_text (c : Cod) : txV c (Lib.itoa c.n) = textC c := by
  rcases sh_cases c.op with hs | hs | hs | hs | hs | hs | hs <;> simp [txV, textC, txK, hs, wd, tw, fld]
theorem reg_no32 (n : Int) : (32 : UInt8) ∉ 114 :: Lib.itoa n := by simp [itoa_no32]
theorem rpar_txV (c : Cod) (hr : rightC c = true) (v : List UInt8) (hv : (32 : UInt8) ∉ v) :
    rpar (txV c v) = if nuN (sh c.op) = 0 then finR (txV c v) c [] else match valL v with
      | some n => finR (txV c v) { c with n := n } []
      | none => if (sh c.op = 5 ∨ sh c.op = 6) ∧ nameL v = true then finR (txV c v) { c with n := 0 } v else none := by
  obtain ⟨l1, l2, l3, l4, l5⟩ := right_lim hr
  obtain ⟨op, a, b, d, n⟩ := c
  simp only at l1 l2 l3 l4 l5
  obtain ⟨k, rfl⟩ : ∃ k : Nat, op = k := ⟨op.toNat, by omega⟩
  have hk : k < 27 := by omega
  have f1 := (nm_facts ⟨k, hk⟩).1
  simp only at f1
  have g1 := regL_itoa a (by omega) (by omega)
  have g2 := regL_itoa b (by omega) (by omega)
  have g3 := regL_itoa d (by omega) (by omega)
  have hr2 := hr
  unfold rightC at hr2
  simp only [Bool.and_eq_true, decide_eq_true_eq] at hr2
  have hw := hr2.2
  clear hr2
  generalize hnm : nmL.getD k [] = nm at f1
  have hkt : (k : Int).toNat = k := by omega
  rcases sh_cases (k : Int) with hs | hs | hs | hs | hs | hs | hs
  · have ht : txV ⟨k, a, b, d, n⟩ v = nm := by simp only [txV, hkt, hs, hnm, List.append_nil]
    rw [ht, rpar_of (ws := [nm]) hk (wdA_miss 32 nm [] f1) hnm.symm (by rw [hs]; rfl)]
    simp [hs, zer] at hw
    obtain ⟨rfl, rfl, rfl, rfl⟩ : a = 0 ∧ b = 0 ∧ d = 0 ∧ n = 0 := by omega
    simp [hs, rgN, rgK, rpB, nuN]
  · have ht : txV ⟨k, a, b, d, n⟩ v = nm ++ 32 :: ((114 :: Lib.itoa a) ++ 32 :: v) := by simp only [txV, hkt, hs, hnm]; rfl
    rw [ht, rpar_of (ws := [nm, 114 :: Lib.itoa a, v]) hk (by rw [wdA_hit 32 _ nm [] f1, wdA_hit 32 _ _ [] (reg_no32 a), wdA_miss 32 _ [] hv]; rfl) hnm.symm (by rw [hs]; rfl)]
    simp [hs, zer, reg] at hw
    obtain ⟨rfl, rfl⟩ : b = 0 ∧ d = 0 := by omega
    simp [hs, rgN, rgK, rpB, nuN, g1, setR]
  · have ht : txV ⟨k, a, b, d, n⟩ v = nm ++ 32 :: ((114 :: Lib.itoa a) ++ 32 :: (114 :: Lib.itoa b)) := by simp only [txV, hkt, hs, hnm]; rfl
    rw [ht, rpar_of (ws := [nm, 114 :: Lib.itoa a, 114 :: Lib.itoa b]) hk (by rw [wdA_hit 32 _ nm [] f1, wdA_hit 32 _ _ [] (reg_no32 a), wdA_miss 32 _ [] (reg_no32 b)]; rfl) hnm.symm (by rw [hs]; rfl)]
    simp [hs, zer, reg] at hw
    obtain ⟨rfl, rfl⟩ : d = 0 ∧ n = 0 := by omega
    simp [hs, rgN, rgK, rpB, nuN, g1, g2, setR]
  · have ht : txV ⟨k, a, b, d, n⟩ v = nm ++ 32 :: ((114 :: Lib.itoa a) ++ 32 :: ((114 :: Lib.itoa b) ++ 32 :: (114 :: Lib.itoa d))) := by simp only [txV, hkt, hs, hnm]; rfl
    rw [ht, rpar_of (ws := [nm, 114 :: Lib.itoa a, 114 :: Lib.itoa b, 114 :: Lib.itoa d]) hk (by rw [wdA_hit 32 _ nm [] f1, wdA_hit 32 _ _ [] (reg_no32 a), wdA_hit 32 _ _ [] (reg_no32 b), wdA_miss 32 _ [] (reg_no32 d)]; rfl) hnm.symm (by rw [hs]; rfl)]
    simp [hs, zer, reg] at hw
    obtain rfl : n = 0 := by omega
    simp [hs, rgN, rgK, rpB, nuN, g1, g2, g3, setR]
  · have ht : txV ⟨k, a, b, d, n⟩ v = nm ++ 32 :: ((114 :: Lib.itoa a) ++ 32 :: ((114 :: Lib.itoa b) ++ 32 :: v)) := by simp only [txV, hkt, hs, hnm]; rfl
    rw [ht, rpar_of (ws := [nm, 114 :: Lib.itoa a, 114 :: Lib.itoa b, v]) hk (by rw [wdA_hit 32 _ nm [] f1, wdA_hit 32 _ _ [] (reg_no32 a), wdA_hit 32 _ _ [] (reg_no32 b), wdA_miss 32 _ [] hv]; rfl) hnm.symm (by rw [hs]; rfl)]
    simp [hs, zer, reg] at hw
    obtain rfl : d = 0 := by omega
    simp [hs, rgN, rgK, rpB, nuN, g1, g2, setR]
  · have ht : txV ⟨k, a, b, d, n⟩ v = nm ++ 32 :: v := by simp only [txV, hkt, hs, hnm]
    rw [ht, rpar_of (ws := [nm, v]) hk (by rw [wdA_hit 32 _ nm [] f1, wdA_miss 32 _ [] hv]; rfl) hnm.symm (by rw [hs]; rfl)]
    simp [hs, zer, way] at hw
    obtain ⟨rfl, rfl, rfl⟩ : a = 0 ∧ b = 0 ∧ d = 0 := by omega
    simp [hs, rgN, rgK, rpB, nuN]
  · have ht : txV ⟨k, a, b, d, n⟩ v = nm ++ 32 :: ((114 :: Lib.itoa a) ++ 32 :: v) := by simp only [txV, hkt, hs, hnm]; rfl
    rw [ht, rpar_of (ws := [nm, 114 :: Lib.itoa a, v]) hk (by rw [wdA_hit 32 _ nm [] f1, wdA_hit 32 _ _ [] (reg_no32 a), wdA_miss 32 _ [] hv]; rfl) hnm.symm (by rw [hs]; rfl)]
    simp [hs, zer, reg, way] at hw
    obtain ⟨rfl, rfl⟩ : b = 0 ∧ d = 0 := by omega
    simp [hs, rgN, rgK, rpB, nuN, g1, setR]
theorem rpar_text (c : Cod) (hr : rightC c = true) : rpar (textC c) = some (c, []) := by
  have h := rpar_txV c hr (Lib.itoa c.n) (itoa_no32 c.n)
  obtain ⟨_, _, _, _, l5⟩ := right_lim hr
  rw [txV_text, valL_itoa c.n (by omega) (by omega)] at h
  have hf : finR (textC c) c [] = some (c, []) := by unfold finR; rw [if_pos ⟨hr, rfl⟩]
  rw [h]; simp only; rw [hf]; simp
theorem itoa0 : Lib.itoa 0 = [48] := by decide +kernel
theorem txV_0 (c : Cod) (h : sh c.op = 5 ∨ sh c.op = 6) (v : List UInt8) : (txV c [48]).dropLast ++ v = txV c v := by
  have : txV c [48] = txV c [] ++ [48] := by rcases h with h | h <;> simp [txV, h]
  rw [this, List.dropLast_concat]
  rcases h with h | h <;> simp [txV, h]
theorem rpar_named (c : Cod) (hr : rightC c = true) (hs : sh c.op = 5 ∨ sh c.op = 6) (hn : c.n = 0) (v : List UInt8) (hv : nameL v = true) : rpar (txV c v) = some (c, v) := by
  rw [rpar_txV c hr v (let_no32 hv), let_val hv]
  have hc : { c with n := 0 } = c := by cases c; simp_all
  have ht : (textC c).dropLast ++ v = txV c v := by rw [← txV_text, hn, itoa0]; exact txV_0 c hs v
  have hf : finR (txV c v) c v = some (c, v) := by unfold finR; rw [if_pos ⟨hr, by rw [if_neg (let_ne hv)]; exact ht⟩]
  rw [if_neg (by rcases hs with h | h <;> rw [h] <;> decide)]
  simp only
  rw [if_pos ⟨hs, hv⟩, hc, hf]
theorem finR_some {s : List UInt8} {c c' : Cod} {nm nm' : List UInt8} (h : finR s c nm = some (c', nm')) : c' = c ∧ nm' = nm ∧ rightC c = true ∧ (if nm = [] then textC c else (textC c).dropLast ++ nm) = s := by
  unfold finR at h
  by_cases hh : rightC c = true ∧ (if nm = [] then textC c else (textC c).dropLast ++ nm) = s
  · rw [if_pos hh] at h; cases h; exact ⟨rfl, rfl, hh.1, hh.2⟩
  · rw [if_neg hh] at h; cases h
theorem rpar_some {s : List UInt8} {c : Cod} {nm : List UInt8} (h : rpar s = some (c, nm)) : rightC c = true ∧ ((nm = [] ∧ textC c = s) ∨ (nameL nm = true ∧ (sh c.op = 5 ∨ sh c.op = 6) ∧ c.n = 0 ∧ txV c nm = s)) := by
  unfold rpar at h
  split at h
  · cases h
  · unfold rpB at h
    split at h
    · cases h
    · rename_i c1 h1
      obtain ⟨o1, n1⟩ := rgK_some h1
      split at h
      · obtain ⟨rfl, rfl, e1, e2⟩ := finR_some h
        exact ⟨e1, .inl ⟨rfl, by simpa using e2⟩⟩
      · split at h
        · obtain ⟨rfl, rfl, e1, e2⟩ := finR_some h
          exact ⟨e1, .inl ⟨rfl, by simpa using e2⟩⟩
        · split at h
          · rename_i hh
            obtain ⟨rfl, rfl, e1, e2⟩ := finR_some h
            rw [← o1] at hh e2 ⊢
            refine ⟨e1, .inr ⟨hh.2, hh.1, n1, ?_⟩⟩
            rw [if_neg (let_ne hh.2), ← txV_text, n1, itoa0, txV_0 c hh.1] at e2
            exact e2
          · cases h
end Go.Proofs.YtgldkmabhmlijaaDoor
