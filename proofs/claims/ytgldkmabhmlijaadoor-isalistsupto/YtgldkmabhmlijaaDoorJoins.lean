/- Texts of lines that are instructions: what Build of package isa makes of them, as plain facts. -/
import Derived.Test.YtgldkmabhmlijaaDoorBuild
import Derived.Test.YtgldkmabhmlijaaDoorStpR
import Derived.Maps.Views
namespace Go.Proofs.YtgldkmabhmlijaaDoor
open Go.RowKit Go.Sort Go.Shelf
def tB (l : List UInt8) : ByteArray := ⟨l.toArray⟩
theorem tB_list (l : List UInt8) : (tB l).data.toList = l := by simp [tB]
theorem tB_size (l : List UInt8) : (tB l).size = l.length := rfl
theorem list_tB (q : ByteArray) : tB q.data.toList = q := ByteArray.ext (by simp [tB])
theorem tB_app (a b : List UInt8) : tB a ++ tB b = tB (a ++ b) := ByteArray.ext (by simp [tB, ByteArray.data_append])
/-- Lines, each with its end. -/
def unl (ls : List (List UInt8)) : List UInt8 := ls.flatMap fun l => l ++ [10]
theorem unl_cons (l : List UInt8) (ls : List (List UInt8)) : unl (l :: ls) = l ++ 10 :: unl ls := by simp [unl]
theorem unl_append (a b : List (List UInt8)) : unl (a ++ b) = unl a ++ unl b := by simp [unl]
def nums : Int → List (List UInt8) → List (Int × ByteArray)
  | _, [] => []
  | n, l :: ls => (n, tB l) :: nums (n + 1) ls
theorem nums_append : ∀ (a b : List (List UInt8)) (n : Int), nums n (a ++ b) = nums n a ++ nums (n + a.length) b
  | [], b, n => by simp [nums]
  | x :: a, b, n => by
    rw [List.cons_append, nums, nums, nums_append a b (n + 1), List.cons_append, List.length_cons]
    congr 3; omega
theorem nums_len : ∀ (a : List (List UInt8)) (n : Int), (nums n a).length = a.length
  | [], _ => rfl
  | x :: a, n => by rw [nums, List.length_cons, nums_len a, List.length_cons]
theorem cutN_hit (l r : List UInt8) (h : (10 : UInt8) ∉ l) : cutN (l ++ 10 :: r) = (l, r, true) := by
  unfold cutN Lib.cut
  rw [Lib.index_one, idx_hit 10 l r h, if_pos (by omega)]
  simp
theorem cutN_miss (l : List UInt8) (h : (10 : UInt8) ∉ l) : cutN l = (l, [], false) := by
  unfold cutN Lib.cut
  rw [Lib.index_one, idx_miss 10 l h, if_neg (by omega)]
theorem lnE_lines : ∀ (ls : List (List UInt8)) (z : List UInt8) (f : Nat) (n : Int), (∀ l ∈ ls, (10 : UInt8) ∉ l) → (10 : UInt8) ∉ z → (unl ls ++ z).length < f → lnE f n (unl ls ++ z) = nums n (ls ++ [z])
  | [], z, f, n, _, hz, hf => by
    obtain ⟨f', rfl⟩ : ∃ f', f = f' + 1 := ⟨f - 1, by omega⟩
    rw [show unl [] ++ z = z from rfl, lnE, cutN_miss z hz, if_neg (by simp)]; rfl
  | l :: ls, z, f, n, hl, hz, hf => by
    obtain ⟨f', rfl⟩ : ∃ f', f = f' + 1 := ⟨f - 1, by omega⟩
    rw [unl_cons, List.append_assoc, List.cons_append, lnE, cutN_hit l _ (hl l (by simp)), if_pos rfl]
    rw [unl_cons] at hf
    rw [lnE_lines ls z f' (n + 1) (fun x hx => hl x (by simp [hx])) hz (by simp at hf ⊢; omega)]
    rfl
theorem allLn_lines (ls : List (List UInt8)) (z : List UInt8) (hl : ∀ l ∈ ls, (10 : UInt8) ∉ l) (hz : (10 : UInt8) ∉ z) : allLn (tB (unl ls ++ z)) = nums 1 (ls ++ [z]) := by
  unfold allLn
  rw [tB_list, tB_size]
  exact lnE_lines ls z _ 1 hl hz (Nat.lt_succ_self _)
theorem itoa_bytes (n : Int) : ∀ b ∈ Lib.itoa n, b ≠ 58 ∧ b ≠ 10 := by
  have key : ∀ u : Nat, ∀ b ∈ Lib.decDigits u, b ≠ 58 ∧ b ≠ 10 := fun u b hb => by
    have := dec_digits u b hb
    constructor
    · rintro rfl; exact absurd this.2 (by decide)
    · rintro rfl; exact absurd this.1 (by decide)
  intro b hb
  unfold Lib.itoa at hb
  split at hb
  · rcases List.mem_cons.1 hb with rfl | hb
    · decide
    · exact key _ b hb
  · exact key _ b hb
theorem nm_bytes : ∀ k : Fin 27, (58 : UInt8) ∉ nmL.getD k.val [] ∧ (10 : UInt8) ∉ nmL.getD k.val [] := by decide
theorem txV_bytes (c : Cod) (hr : rightC c = true) (v : List UInt8) (hv : ∀ b ∈ v, b ≠ 58 ∧ b ≠ 10) : ∀ b ∈ txV c v, b ≠ 58 ∧ b ≠ 10 := by
  obtain ⟨l1, _⟩ := right_lim hr
  obtain ⟨n1, n2⟩ := nm_bytes ⟨c.op.toNat, by omega⟩
  simp only at n1 n2
  have ha := itoa_bytes c.a
  have hb := itoa_bytes c.b
  have hc := itoa_bytes c.c
  intro b hm
  have h32 : (32 : UInt8) ≠ 58 ∧ (32 : UInt8) ≠ 10 := by decide
  have h114 : (114 : UInt8) ≠ 58 ∧ (114 : UInt8) ≠ 10 := by decide
  unfold txV at hm
  rcases List.mem_append.1 hm with hm | hm
  · exact ⟨fun e => n1 (e ▸ hm), fun e => n2 (e ▸ hm)⟩
  · rcases sh_cases c.op with hs | hs | hs | hs | hs | hs | hs <;> rw [hs] at hm <;> simp at hm <;>
    (first
      | exact hm.elim
      | (rcases hm with rfl | rfl | hm | rfl | rfl | hm | rfl | rfl | hm) <;> first | exact h32 | exact h114 | exact ha b hm | exact hb b hm | exact hc b hm | exact hv b hm
      | (rcases hm with rfl | rfl | hm | rfl | rfl | hm | rfl | hm) <;> first | exact h32 | exact h114 | exact ha b hm | exact hb b hm | exact hc b hm | exact hv b hm
      | (rcases hm with rfl | rfl | hm | rfl | rfl | hm) <;> first | exact h32 | exact h114 | exact ha b hm | exact hb b hm | exact hc b hm | exact hv b hm
      | (rcases hm with rfl | rfl | hm | rfl | hm) <;> first | exact h32 | exact h114 | exact ha b hm | exact hb b hm | exact hc b hm | exact hv b hm
      | (rcases hm with rfl | hm) <;> first | exact h32 | exact hv b hm)
theorem text_bytes (c : Cod) (hr : rightC c = true) : ∀ b ∈ textC c, b ≠ 58 ∧ b ≠ 10 := by
  rw [← txV_text]; exact txV_bytes c hr _ (itoa_bytes _)
theorem txV_pos (c : Cod) (hr : rightC c = true) (v : List UInt8) : 2 ≤ (txV c v).length := by
  obtain ⟨l1, _⟩ := right_lim hr
  have f := (nm_facts ⟨c.op.toNat, by omega⟩).2.1
  simp only at f
  rw [txV, List.length_append]; omega
theorem noPl {l : List UInt8} (h : ∀ b ∈ l, b ≠ 58 ∧ b ≠ 10) : isPl (tB l) = false := by
  unfold isPl Lib.hasSuffix
  rw [tB_list]
  rcases hq : List.isSuffixOf [58] l with _ | _
  · rfl
  · obtain ⟨t, ht⟩ := List.isSuffixOf_iff_suffix.1 hq
    exact absurd rfl (h 58 (by rw [← ht]; simp)).1
theorem noEmpty {l : List UInt8} (h : 1 ≤ l.length) : (tB l).toList.isEmpty = false := by
  rw [ByteArray.toList_eq, tB_list]
  cases l with
  | nil => simp at h
  | cons x l => rfl
/-- A line that is an instruction, with its number or with a name for it, is read as that. -/
theorem read_line (p : Prg) (n : Int) (l : List UInt8) (c : Cod) (nm : List UInt8) (h : rpar l = some (c, nm)) (h1 : 1 ≤ l.length) (hb : ∀ b ∈ l, b ≠ 58 ∧ b ≠ 10) :
    readS p n (tB l) = (true, { p with st := p.st ++ [⟨c, n, tB nm⟩] }) := by
  have hs := (stp_rpar (tB l) c nm).1 (by rw [tB_list]; exact h)
  unfold readS
  rw [if_neg (by rw [noEmpty h1]; decide), if_neg (by rw [noPl hb]; decide), hs.1, hs.2.1, show (stpS (tB l)).name = tB nm from by rw [← hs.2.2, list_tB]]
def stes : Int → List Cod → List Ste
  | _, [] => []
  | n, c :: cs => ⟨c, n, ⟨#[]⟩⟩ :: stes (n + 1) cs
theorem stes_len : ∀ (cs : List Cod) (n : Int), (stes n cs).length = cs.length
  | [], _ => rfl
  | c :: cs, n => by rw [stes, List.length_cons, stes_len cs, List.length_cons]
theorem stes_mem : ∀ (cs : List Cod) (n : Int) (x : Ste), x ∈ stes n cs → x.name = ⟨#[]⟩ ∧ x.c ∈ cs
  | [], _, x, h => by simp [stes] at h
  | c :: cs, n, x, h => by
    rw [stes] at h
    rcases List.mem_cons.1 h with rfl | h
    · exact ⟨rfl, by simp⟩
    · have := stes_mem cs (n + 1) x h; exact ⟨this.1, by simp [this.2]⟩
theorem rds_cons (p : Prg) (x : Int × ByteArray) (l : List (Int × ByteArray)) : rds p (x :: l) = rds (readS p x.1 x.2).2 l := rfl
theorem rds_append (p : Prg) (a b : List (Int × ByteArray)) : rds p (a ++ b) = rds (rds p a) b := by unfold rds; rw [List.foldl_append]
theorem read_codes : ∀ (cs : List Cod) (p : Prg) (n : Int), (∀ c ∈ cs, rightC c = true) → badL p (nums n (cs.map textC)) = none ∧ rds p (nums n (cs.map textC)) = { p with st := p.st ++ stes n cs }
  | [], p, n, _ => by simp [nums, badL, rds, stes]
  | c :: cs, p, n, h => by
    have hr := h c (by simp)
    have h2 := txV_pos c hr (Lib.itoa c.n)
    rw [txV_text] at h2
    have hq := read_line p n (textC c) c [] (rpar_text c hr) (by omega) (text_bytes c hr)
    have ih := read_codes cs { p with st := p.st ++ [⟨c, n, tB []⟩] } (n + 1) (fun x hx => h x (by simp [hx]))
    rw [List.map_cons, nums, badL, rds_cons, hq]
    refine ⟨by simpa using ih.1, ?_⟩
    rw [ih.2]
    simp [stes, tB]
theorem bsU_range (p : Prg) (k : Nat) : bsU p k = (List.range k).flatMap fun i => (q4s (bytesC (fixN p.D i (p.st.getD i ste0)))).data.toList := by
  unfold bsU q4s; simp
theorem build_of {s : ByteArray} {L : List (Int × ByteArray)} {p : Prg} (h : allLn s = L) (hc : L.length ≤ 1024) (hb : badL prg0 L = none) (hp : rds prg0 L = p) (hok : ∀ x ∈ p.st, okN p.D x = true) :
    buildR s = #[.string (tB (bsU p p.st.length)), .int .i64 0, .int .i64 0] := by
  unfold buildR
  have := cnt_le L
  rw [h, if_neg (by omega), hb]
  simp only
  rw [hp, bytesR_good (fun i hi => hok _ (by rw [List.getD_eq_getElem?_getD, List.getElem?_eq_getElem hi]; exact List.getElem_mem _))]
  rfl
end Go.Proofs.YtgldkmabhmlijaaDoor
