/- IsaBuilds (P2.1): for every text, whatever its bytes are: Build of package isa answers the bytes, the line and the error that the reference answers, where the text has at most 4000 bytes, and the law answers true; condition: the package variables that the card lists lie as their text lays them (the card ties them to it). -/
import Derived.Test.YtgldkmabhmlijaaGreatDoorRParse1
import Derived.Test.YtgldkmabhmlijaaGreatDoorRParse2
import Derived.Test.YtgldkmabhmlijaaGreatDoorRParse3
import Derived.Test.YtgldkmabhmlijaaGreatDoorRParse4
import Derived.Test.YtgldkmabhmlijaaGreatDoorRParse5
import Derived.Test.YtgldkmabhmlijaaGreatDoorRParse6
import Derived.Test.YtgldkmabhmlijaaGreatDoorRParse7
import Derived.Test.YtgldkmabhmlijaaGreatDoorBuild
import Derived.Test.YtgldkmabhmlijaaGreatDoorStpR
import Derived.Maps.Views
import Derived.Test.YtgldkmabhmlijaaGreatDoorRWords
import Derived.Test.YtgldkmabhmlijaaGreatDoorRight
import Derived.Maps.AppendAt
import Derived.Test.YtgldkmabhmlijaaGreatDoorREncode
import Derived.Deep.DeepCutAuto
import Derived.Test.YtgldkmabhmlijaaGreatDoorCodesLaw
import Derived.Test.YtgldkmabhmlijaaGreatDoorOpenI
import Derived.Test.YtgldkmabhmlijaaGreatDoorLives
import Derived.ChangeMaps5
/- What Parse of the reference answers, for every text; and that it is what Parse of package isa answers. -/
namespace Go.Proofs.YtgldkmabhmlijaaGreatDoor
open Go.RowKit Go.Sort
theorem opN_lim (l : List UInt8) : opN l < 0 ∨ (0 ≤ opN l ∧ opN l ≤ 26) := by
  unfold opN; split <;> omega
theorem rParse_any (s : ByteArray) (w : World) (hs : s.size < 100000) : Calls Tryz.prog 7 #[.string s] w (RP s w) := by
  rcases opN_lim ((wdA 32 [] s.data.toList).getD 0 []) with h | h
  · exact rParse_no s w hs _ rfl h
  · rcases sh_cases (opN ((wdA 32 [] s.data.toList).getD 0 [])) with e | e | e | e | e | e | e
    · exact rParse_0 s w hs _ rfl h e
    · exact rParse_1 s w hs _ rfl h e
    · exact rParse_2 s w hs _ rfl h e
    · exact rParse_3 s w hs _ rfl h e
    · exact rParse_4 s w hs _ rfl h e
    · exact rParse_5 s w hs _ rfl h e
    · exact rParse_6 s w hs _ rfl h e
theorem parC_rpar (s : ByteArray) (c : Cod) : parC s = some c ↔ rpar s.data.toList = some (c, []) := by
  rw [parC_iff]
  constructor
  · rintro ⟨h1, h2⟩; rw [← h2]; exact rpar_text c h1
  · intro h
    obtain ⟨hr, ⟨_, ht⟩ | ⟨hnm, _⟩⟩ := rpar_some h
    · exact ⟨hr, ht⟩
    · exact absurd hnm (by decide)
end Go.Proofs.YtgldkmabhmlijaaGreatDoor
/- Texts of lines that are instructions: what Build of package isa makes of them, as plain facts. -/
namespace Go.Proofs.YtgldkmabhmlijaaGreatDoor
open Go.RowKit Go.Sort Go.Shelf
def tB (l : List UInt8) : ByteArray := ⟨l.toArray⟩
theorem tB_list (l : List UInt8) : (tB l).data.toList = l := by simp [tB]
theorem tB_size (l : List UInt8) : (tB l).size = l.length := rfl
theorem list_tB (q : ByteArray) : tB q.data.toList = q := ByteArray.ext (by simp [tB])
theorem tB_app (a b : List UInt8) : tB a ++ tB b = tB (a ++ b) := ByteArray.ext (by simp [tB, ByteArray.data_append])
/-- Lines, each with its end. -/
def unl (ls : List (List UInt8)) : List UInt8 := ls.flatMap fun l => l ++ [10]
theorem unl_cons (l : List UInt8) (ls : List (List UInt8)) : unl (l :: ls) = l ++ 10 :: unl ls := by simp [unl]
theorem unl_append (a b : List (List UInt8)) : unl (a ++ b) = unl a ++ unl b := by simp [unl]
def nums : Int → List (List UInt8) → List (Int × ByteArray)
  | _, [] => []
  | n, l :: ls => (n, tB l) :: nums (n + 1) ls
theorem nums_append : ∀ (a b : List (List UInt8)) (n : Int), nums n (a ++ b) = nums n a ++ nums (n + a.length) b
  | [], b, n => by simp [nums]
  | x :: a, b, n => by
    rw [List.cons_append, nums, nums, nums_append a b (n + 1), List.cons_append, List.length_cons]
    congr 3; omega
theorem nums_len : ∀ (a : List (List UInt8)) (n : Int), (nums n a).length = a.length
  | [], _ => rfl
  | x :: a, n => by rw [nums, List.length_cons, nums_len a, List.length_cons]
theorem cutN_hit (l r : List UInt8) (h : (10 : UInt8) ∉ l) : cutN (l ++ 10 :: r) = (l, r, true) := by
  unfold cutN Lib.cut
  rw [Lib.index_one, idx_hit 10 l r h, if_pos (by omega)]
  simp
theorem cutN_miss (l : List UInt8) (h : (10 : UInt8) ∉ l) : cutN l = (l, [], false) := by
  unfold cutN Lib.cut
  rw [Lib.index_one, idx_miss 10 l h, if_neg (by omega)]
theorem lnE_lines : ∀ (ls : List (List UInt8)) (z : List UInt8) (f : Nat) (n : Int), (∀ l ∈ ls, (10 : UInt8) ∉ l) → (10 : UInt8) ∉ z → (unl ls ++ z).length < f → lnE f n (unl ls ++ z) = nums n (ls ++ [z])
  | [], z, f, n, _, hz, hf => by
    obtain ⟨f', rfl⟩ : ∃ f', f = f' + 1 := ⟨f - 1, by omega⟩
    rw [show unl [] ++ z = z from rfl, lnE, cutN_miss z hz, if_neg (by simp)]; rfl
  | l :: ls, z, f, n, hl, hz, hf => by
    obtain ⟨f', rfl⟩ : ∃ f', f = f' + 1 := ⟨f - 1, by omega⟩
    rw [unl_cons, List.append_assoc, List.cons_append, lnE, cutN_hit l _ (hl l (by simp)), if_pos rfl]
    rw [unl_cons] at hf
    rw [lnE_lines ls z f' (n + 1) (fun x hx => hl x (by simp [hx])) hz (by simp at hf ⊢; omega)]
    rfl
theorem allLn_lines (ls : List (List UInt8)) (z : List UInt8) (hl : ∀ l ∈ ls, (10 : UInt8) ∉ l) (hz : (10 : UInt8) ∉ z) : allLn (tB (unl ls ++ z)) = nums 1 (ls ++ [z]) := by
  unfold allLn
  rw [tB_list, tB_size]
  exact lnE_lines ls z _ 1 hl hz (Nat.lt_succ_self _)
theorem itoa_bytes (n : Int) : ∀ b ∈ Lib.itoa n, b ≠ 58 ∧ b ≠ 10 := by
  have key : ∀ u : Nat, ∀ b ∈ Lib.decDigits u, b ≠ 58 ∧ b ≠ 10 := fun u b hb => by
    have := dec_digits u b hb
    constructor
    · rintro rfl; exact absurd this.2 (by decide)
    · rintro rfl; exact absurd this.1 (by decide)
  intro b hb
  unfold Lib.itoa at hb
  split at hb
  · rcases List.mem_cons.1 hb with rfl | hb
    · decide
    · exact key _ b hb
  · exact key _ b hb
theorem nm_bytes : ∀ k : Fin 27, (58 : UInt8) ∉ nmL.getD k.val [] ∧ (10 : UInt8) ∉ nmL.getD k.val [] := by decide
theorem txV_bytes (c : Cod) (hr : rightC c = true) (v : List UInt8) (hv : ∀ b ∈ v, b ≠ 58 ∧ b ≠ 10) : ∀ b ∈ txV c v, b ≠ 58 ∧ b ≠ 10 := by
  obtain ⟨l1, _⟩ := right_lim hr
  obtain ⟨n1, n2⟩ := nm_bytes ⟨c.op.toNat, by omega⟩
  simp only at n1 n2
  have ha := itoa_bytes c.a
  have hb := itoa_bytes c.b
  have hc := itoa_bytes c.c
  intro b hm
  have h32 : (32 : UInt8) ≠ 58 ∧ (32 : UInt8) ≠ 10 := by decide
  have h114 : (114 : UInt8) ≠ 58 ∧ (114 : UInt8) ≠ 10 := by decide
  unfold txV at hm
  rcases List.mem_append.1 hm with hm | hm
  · exact ⟨fun e => n1 (e ▸ hm), fun e => n2 (e ▸ hm)⟩
  · rcases sh_cases c.op with hs | hs | hs | hs | hs | hs | hs <;> rw [hs] at hm <;> simp at hm <;>
    (first
      | exact hm.elim
      | (rcases hm with rfl | rfl | hm | rfl | rfl | hm | rfl | rfl | hm) <;> first | exact h32 | exact h114 | exact ha b hm | exact hb b hm | exact hc b hm | exact hv b hm
      | (rcases hm with rfl | rfl | hm | rfl | rfl | hm | rfl | hm) <;> first | exact h32 | exact h114 | exact ha b hm | exact hb b hm | exact hc b hm | exact hv b hm
      | (rcases hm with rfl | rfl | hm | rfl | rfl | hm) <;> first | exact h32 | exact h114 | exact ha b hm | exact hb b hm | exact hc b hm | exact hv b hm
      | (rcases hm with rfl | rfl | hm | rfl | hm) <;> first | exact h32 | exact h114 | exact ha b hm | exact hb b hm | exact hc b hm | exact hv b hm
      | (rcases hm with rfl | hm) <;> first | exact h32 | exact hv b hm)
theorem text_bytes (c : Cod) (hr : rightC c = true) : ∀ b ∈ textC c, b ≠ 58 ∧ b ≠ 10 := by
  rw [← txV_text]; exact txV_bytes c hr _ (itoa_bytes _)
theorem txV_pos (c : Cod) (hr : rightC c = true) (v : List UInt8) : 2 ≤ (txV c v).length := by
  obtain ⟨l1, _⟩ := right_lim hr
  have f := (nm_facts ⟨c.op.toNat, by omega⟩).2.1
  simp only at f
  rw [txV, List.length_append]; omega
theorem noPl {l : List UInt8} (h : ∀ b ∈ l, b ≠ 58 ∧ b ≠ 10) : isPl (tB l) = false := by
  unfold isPl Lib.hasSuffix
  rw [tB_list]
  rcases hq : List.isSuffixOf [58] l with _ | _
  · rfl
  · obtain ⟨t, ht⟩ := List.isSuffixOf_iff_suffix.1 hq
    exact absurd rfl (h 58 (by rw [← ht]; simp)).1
theorem noEmpty {l : List UInt8} (h : 1 ≤ l.length) : (tB l).toList.isEmpty = false := by
  rw [ByteArray.toList_eq, tB_list]
  cases l with
  | nil => simp at h
  | cons x l => rfl
/-- A line that is an instruction, with its number or with a name for it, is read as that. -/
theorem read_line (p : Prg) (n : Int) (l : List UInt8) (c : Cod) (nm : List UInt8) (h : rpar l = some (c, nm)) (h1 : 1 ≤ l.length) (hb : ∀ b ∈ l, b ≠ 58 ∧ b ≠ 10) :
    readS p n (tB l) = (true, { p with st := p.st ++ [⟨c, n, tB nm⟩] }) := by
  have hs := (stp_rpar (tB l) c nm).1 (by rw [tB_list]; exact h)
  unfold readS
  rw [if_neg (by rw [noEmpty h1]; decide), if_neg (by rw [noPl hb]; decide), hs.1, hs.2.1, show (stpS (tB l)).name = tB nm from by rw [← hs.2.2, list_tB]]
def stes : Int → List Cod → List Ste
  | _, [] => []
  | n, c :: cs => ⟨c, n, ⟨#[]⟩⟩ :: stes (n + 1) cs
theorem stes_len : ∀ (cs : List Cod) (n : Int), (stes n cs).length = cs.length
  | [], _ => rfl
  | c :: cs, n => by rw [stes, List.length_cons, stes_len cs, List.length_cons]
theorem stes_mem : ∀ (cs : List Cod) (n : Int) (x : Ste), x ∈ stes n cs → x.name = ⟨#[]⟩ ∧ x.c ∈ cs
  | [], _, x, h => by simp [stes] at h
  | c :: cs, n, x, h => by
    rw [stes] at h
    rcases List.mem_cons.1 h with rfl | h
    · exact ⟨rfl, by simp⟩
    · have := stes_mem cs (n + 1) x h; exact ⟨this.1, by simp [this.2]⟩
theorem rds_cons (p : Prg) (x : Int × ByteArray) (l : List (Int × ByteArray)) : rds p (x :: l) = rds (readS p x.1 x.2).2 l := rfl
theorem rds_append (p : Prg) (a b : List (Int × ByteArray)) : rds p (a ++ b) = rds (rds p a) b := by unfold rds; rw [List.foldl_append]
theorem read_codes : ∀ (cs : List Cod) (p : Prg) (n : Int), (∀ c ∈ cs, rightC c = true) → badL p (nums n (cs.map textC)) = none ∧ rds p (nums n (cs.map textC)) = { p with st := p.st ++ stes n cs }
  | [], p, n, _ => by simp [nums, badL, rds, stes]
  | c :: cs, p, n, h => by
    have hr := h c (by simp)
    have h2 := txV_pos c hr (Lib.itoa c.n)
    rw [txV_text] at h2
    have hq := read_line p n (textC c) c [] (rpar_text c hr) (by omega) (text_bytes c hr)
    have ih := read_codes cs { p with st := p.st ++ [⟨c, n, tB []⟩] } (n + 1) (fun x hx => h x (by simp [hx]))
    rw [List.map_cons, nums, badL, rds_cons, hq]
    refine ⟨by simpa using ih.1, ?_⟩
    rw [ih.2]
    simp [stes, tB]
theorem bsU_range (p : Prg) (k : Nat) : bsU p k = (List.range k).flatMap fun i => (q4s (bytesC (fixN p.D i (p.st.getD i ste0)))).data.toList := by
  unfold bsU q4s; simp
theorem build_of {s : ByteArray} {L : List (Int × ByteArray)} {p : Prg} (h : allLn s = L) (hc : L.length ≤ 1024) (hb : badL prg0 L = none) (hp : rds prg0 L = p) (hok : ∀ x ∈ p.st, okN p.D x = true) :
    buildR s = #[.string (tB (bsU p p.st.length)), .int .i64 0, .int .i64 0] := by
  unfold buildR
  have := cnt_le L
  rw [h, if_neg (by omega), hb]
  simp only
  rw [hp, bytesR_good (fun i hi => hok _ (by rw [List.getD_eq_getElem?_getD, List.getElem?_eq_getElem hi]; exact List.getElem_mem _))]
  rfl
end Go.Proofs.YtgldkmabhmlijaaGreatDoor
/- The reference's Build, line by line, and that it reads what Build of package isa reads: plain facts. -/
namespace Go.Proofs.YtgldkmabhmlijaaGreatDoor
open Go.RowKit Go.Sort Go.Shelf
/-- What the reference has read: steps, and places with their numbers. -/
structure RS where
  (st : List Ste) (PL : List (List UInt8 × Int))
def anyP (PL : List (List UInt8 × Int)) (l : List UInt8) : Bool := PL.any fun x => x.1 == l
def rstp (z : RS) (n : Int) (l : List UInt8) : Option RS :=
  if l = [] then some z
  else if l.getLast? = some 58 then (if anyP z.PL l.dropLast = true ∨ nameL l.dropLast = false then none else some { z with PL := z.PL ++ [(l.dropLast, (z.st.length : Int))] })
  else match rpar l with
    | none => none
    | some y => some { z with st := z.st ++ [⟨y.1, n, tB y.2⟩] }
/-- Both have read the same. -/
structure Sim (p : Prg) (z : RS) : Prop where
  st : p.st = z.st
  mp : Maps.IsMap p.D
  has : ∀ l, Maps.has p.D (keyS (tB l)) = anyP z.PL l
  at_ : ∀ x ∈ z.PL, atI p.D (tB x.1) = x.2
  rt : ∀ x ∈ z.st, rightC x.c = true ∧ (x.name.data.toList ≠ [] → sh x.c.op = 5 ∨ sh x.c.op = 6)
  pos : ∀ x ∈ z.PL, 0 ≤ x.2 ∧ x.2 ≤ z.st.length
  one : ∀ l, (z.PL.filter fun x => x.1 == l).length ≤ 1
theorem keyS_inj {a b : List UInt8} (h : keyS (tB a) = keyS (tB b)) : a = b := by
  unfold keyS at h
  rw [tB_list, tB_list] at h
  injection h
theorem keyL (l : List UInt8) : WideAt.IsKeyLit (keyS (tB l)) := by unfold keyS; trivial
theorem sim0 : Sim prg0 ⟨[], []⟩ :=
  ⟨rfl, Maps.isMap_empty, fun _ => rfl, fun _ h => by simp at h, fun _ h => by simp at h, fun _ h => by simp at h, fun _ => by simp⟩
theorem isPl_last (l : List UInt8) : isPl (tB l) = true ↔ l.getLast? = some 58 := by
  unfold isPl Lib.hasSuffix
  rw [tB_list]
  constructor
  · intro h
    obtain ⟨t, ht⟩ := List.isSuffixOf_iff_suffix.1 h
    rw [← ht, List.getLast?_concat]
  · intro h
    rw [List.isSuffixOf_iff_suffix]
    refine ⟨l.dropLast, ?_⟩
    have hne : l ≠ [] := fun e => by subst e; cases h
    have := List.dropLast_concat_getLast hne
    rw [List.getLast?_eq_some_getLast hne] at h
    rw [← Option.some.inj h]; exact this
theorem dropC_last {l : List UInt8} (h : l.getLast? = some 58) : dropC (tB l) = tB l.dropLast := by
  unfold dropC Lib.trimSuffix
  rw [tB_list, if_pos ((isPl_last l).2 h |> fun h' => by unfold isPl at h'; rwa [tB_list] at h')]
  rw [List.dropLast_eq_take]; rfl
theorem sim_step {p : Prg} {z : RS} (h : Sim p z) (n : Int) (l : List UInt8) : (readS p n (tB l)).1 = (rstp z n l).isSome ∧ ∀ z', rstp z n l = some z' → Sim (readS p n (tB l)).2 z' := by
  by_cases h0 : l = []
  · subst h0
    have e : (tB []).toList.isEmpty = true := by rw [ByteArray.toList_eq]; rfl
    unfold readS rstp
    rw [if_pos e, if_pos rfl]
    exact ⟨rfl, fun z' hz => by cases hz; exact h⟩
  have e0 : (tB l).toList.isEmpty = false := noEmpty (by cases l with | nil => exact absurd rfl h0 | cons x l => simp)
  by_cases h1 : l.getLast? = some 58
  · have e1 := (isPl_last l).2 h1
    have hok : plOk p.D (tB l.dropLast) = decide (¬ (anyP z.PL l.dropLast = true ∨ nameL l.dropLast = false)) := by
      unfold plOk
      rw [h.has, tB_list]
      cases anyP z.PL l.dropLast <;> cases nameL l.dropLast <;> simp
    unfold readS rstp
    rw [if_neg (by rw [e0]; decide), if_pos e1, if_neg h0, if_pos h1, dropC_last h1, hok]
    by_cases hb : anyP z.PL l.dropLast = true ∨ nameL l.dropLast = false
    · rw [if_pos hb]
      exact ⟨by simp [hb], fun z' hz => by cases hz⟩
    · rw [if_neg hb]
      refine ⟨by simp [hb], fun z' hz => ?_⟩
      cases hz
      have hp : plPut p.D (tB l.dropLast) p.st.length = p.D.put (keyS (tB l.dropLast)) (.lit (.int .i64 p.st.length)) := by
        unfold plPut; rw [hok, if_pos (by simp [hb])]
      rw [hp]
      have hna : anyP z.PL l.dropLast = false := by
        cases hq : anyP z.PL l.dropLast
        · rfl
        · exact absurd (.inl hq) hb
      refine ⟨h.st, h.mp.put _ _, fun l' => ?_, fun x hx => ?_, h.rt, fun x hx => ?_, fun l' => ?_⟩
      · by_cases e : l' = l.dropLast
        · subst e
          rw [Maps.has_put_same h.mp (keyL _)]
          simp [anyP]
        · rw [Maps.has_put_other (fun e' => e (keyS_inj e')), h.has]
          simp [anyP, Ne.symm e]
      · rcases List.mem_append.1 hx with hx | hx
        · have hne : x.1 ≠ l.dropLast := fun e => by
            have : anyP z.PL l.dropLast = true := List.any_eq_true.2 ⟨x, hx, by simp [e]⟩
            rw [hna] at this; cases this
          have := h.at_ x hx
          unfold atI at this ⊢
          rw [Maps.atKey_put_other (fun e' => hne (keyS_inj e'))]
          exact this
        · rw [List.mem_singleton.1 hx]
          unfold atI
          rw [Maps.atKey_put_same h.mp (keyL _), h.st]
      · rcases List.mem_append.1 hx with hx | hx
        · exact h.pos x hx
        · rw [List.mem_singleton.1 hx]; exact ⟨by simp, by simp⟩
      · rw [List.filter_append, List.length_append]
        by_cases e : l' = l.dropLast
        · subst e
          have : (z.PL.filter fun x => x.1 == l.dropLast) = [] := by
            rw [List.filter_eq_nil_iff]
            intro x hx hc
            have : anyP z.PL l.dropLast = true := List.any_eq_true.2 ⟨x, hx, hc⟩
            rw [hna] at this; cases this
          rw [this]
          have := List.length_filter_le (fun x : List UInt8 × Int => x.1 == l.dropLast) [(l.dropLast, (z.st.length : Int))]
          simp at this ⊢
        · have := h.one l'
          simp [Ne.symm e]; exact this
  · have e1 : isPl (tB l) = false := by
      rcases hq : isPl (tB l) with _ | _
      · rfl
      · exact absurd ((isPl_last l).1 hq) h1
    unfold readS rstp
    rw [if_neg (by rw [e0]; decide), if_neg (by rw [e1]; decide), if_neg h0, if_neg h1]
    rcases hr : rpar l with _ | ⟨c, nm⟩
    · refine ⟨?_, fun z' hz => by cases hz⟩
      rcases hq : (stpS (tB l)).ok with _ | _
      · rfl
      · exfalso
        have := (stp_rpar (tB l) (stpS (tB l)).c (stpS (tB l)).name.data.toList).2 ⟨hq, rfl, rfl⟩
        rw [tB_list, hr] at this; cases this
    · obtain ⟨s1, s2, s3⟩ := (stp_rpar (tB l) c nm).1 (by rw [tB_list]; exact hr)
      have s4 : (stpS (tB l)).name = tB nm := by rw [← s3, list_tB]
      refine ⟨s1, fun z' hz => ?_⟩
      cases hz
      rw [s2, s4]
      obtain ⟨r1, r2⟩ := rpar_some hr
      refine ⟨by rw [h.st], h.mp, h.has, h.at_, fun x hx => ?_, fun x hx => ?_, h.one⟩
      · rcases List.mem_append.1 hx with hx | hx
        · exact h.rt x hx
        · rw [List.mem_singleton.1 hx]
          refine ⟨r1, fun hn => ?_⟩
          rw [tB_list] at hn
          rcases r2 with ⟨e, _⟩ | ⟨_, e, _⟩
          · exact absurd e hn
          · exact e
      · have := h.pos x hx
        simp only [List.length_append, List.length_cons, List.length_nil]
        exact ⟨this.1, by omega⟩
/-- How the reference finds a step's number among the first places. -/
def fndJ (PL : List (List UInt8 × Int)) (i : Int) (x : Ste) : Nat → Bool × Cod
  | 0 => (x.name.toList.isEmpty, x.c)
  | j + 1 => if (fndJ PL i x j).1 = false ∧ (PL.getD j ([], 0)).1 = x.name.data.toList then (true, { (fndJ PL i x j).2 with n := (PL.getD j ([], 0)).2 - i - 1 }) else fndJ PL i x j
theorem fndJ_empty (PL : List (List UInt8 × Int)) (i : Int) (x : Ste) (h : x.name.toList.isEmpty = true) : ∀ j, fndJ PL i x j = (true, x.c)
  | 0 => by rw [fndJ, h]
  | j + 1 => by rw [fndJ, fndJ_empty PL i x h j, if_neg (by simp)]
theorem fndJ_none (PL : List (List UInt8 × Int)) (i : Int) (x : Ste) (h : x.name.toList.isEmpty = false) : ∀ j, j ≤ PL.length → anyP (PL.take j) x.name.data.toList = false → fndJ PL i x j = (false, x.c)
  | 0, _, _ => by rw [fndJ, h]
  | j + 1, hj, ha => by
    have hlt : j < PL.length := by omega
    rw [List.take_succ_eq_append_getElem hlt, anyP, List.any_append, Bool.or_eq_false_iff] at ha
    have hn : ¬ (PL.getD j ([], 0)).1 = x.name.data.toList := fun e => by
      have h2 := ha.2
      rw [List.getD_eq_getElem?_getD, List.getElem?_eq_getElem hlt] at e
      simp at h2
      exact h2 e
    rw [fndJ, fndJ_none PL i x h j (by omega) ha.1, if_neg (by rintro ⟨_, e⟩; exact hn e)]
theorem fndJ_some (PL : List (List UInt8 × Int)) (i : Int) (x : Ste) (h : x.name.toList.isEmpty = false) (hone : ∀ l, (PL.filter fun y => y.1 == l).length ≤ 1) :
    ∀ j, j ≤ PL.length → anyP (PL.take j) x.name.data.toList = true → ∃ v, (x.name.data.toList, v) ∈ PL ∧ fndJ PL i x j = (true, { x.c with n := v - i - 1 })
  | 0, _, ha => by simp [anyP] at ha
  | j + 1, hj, ha => by
    have hlt : j < PL.length := by omega
    have hg : PL.getD j ([], 0) = PL[j] := by rw [List.getD_eq_getElem?_getD, List.getElem?_eq_getElem hlt]; rfl
    by_cases ha' : anyP (PL.take j) x.name.data.toList = true
    · obtain ⟨v, hv, he⟩ := fndJ_some PL i x h hone j (by omega) ha'
      exact ⟨v, hv, by rw [fndJ, he, if_neg (by simp)]⟩
    · have ha'' : anyP (PL.take j) x.name.data.toList = false := by simpa using ha'
      have hn := fndJ_none PL i x h j (by omega) ha''
      rw [List.take_succ_eq_append_getElem hlt, anyP, List.any_append] at ha
      rw [anyP] at ha''
      rw [ha''] at ha
      have e : PL[j].1 = x.name.data.toList := by simpa using ha
      refine ⟨PL[j].2, by rw [← e]; exact List.getElem_mem hlt, ?_⟩
      rw [fndJ, hn, hg, if_pos ⟨rfl, e⟩]
theorem way_right {c : Cod} (h : rightC c = true) (hs : sh c.op = 5 ∨ sh c.op = 6) (n : Int) (h0 : -32768 ≤ n) (h1 : n ≤ 32767) : rightC { c with n := n } = true := by
  unfold rightC at h ⊢
  simp only [Bool.and_eq_true, decide_eq_true_eq] at h ⊢
  refine ⟨h.1, ?_⟩
  have h2 := h.2
  rcases hs with hs | hs <;> simp [hs, way] at h2 ⊢
  · exact ⟨h2.1, h0, h1⟩
  · exact ⟨h2.1, h0, h1⟩
/-- At the end the step is found just if isa finds it, with isa's number. -/
theorem fnd_isa {p : Prg} {z : RS} (h : Sim p z) (hz : z.st.length ≤ 10000) (i : Nat) (x : Ste) (hx : x ∈ z.st) (hi : i < z.st.length) :
    (fndJ z.PL i x z.PL.length).1 = okN p.D x ∧ (okN p.D x = true → (fndJ z.PL i x z.PL.length).2 = fixN p.D i x ∧ rightC (fixN p.D i x) = true) := by
  have hr := h.rt x hx
  by_cases he : x.name.toList.isEmpty = true
  · rw [fndJ_empty _ _ _ he]
    unfold okN fixN
    rw [he, if_pos rfl]
    exact ⟨rfl, fun _ => ⟨rfl, hr.1⟩⟩
  · have he' : x.name.toList.isEmpty = false := by simpa using he
    have hh := h.has x.name.data.toList
    rw [list_tB] at hh
    have hok : okN p.D x = anyP z.PL x.name.data.toList := by unfold okN; rw [he', Bool.false_or, hh]
    rw [hok]
    rcases hq : anyP z.PL x.name.data.toList with _ | _
    · rw [fndJ_none _ _ _ he' _ (Nat.le_refl _) (by rw [List.take_length]; exact hq)]
      exact ⟨rfl, fun h => by cases h⟩
    · obtain ⟨v, hv, hf⟩ := fndJ_some z.PL i x he' h.one _ (Nat.le_refl _) (by rw [List.take_length]; exact hq)
      have ha := h.at_ _ hv
      simp only at ha
      rw [list_tB] at ha
      have hp := h.pos _ hv
      simp only at hp
      have hw : wrap64 (v - ((i : Int) + 1)) = v - i - 1 := by rw [wrap64_id (by omega) (by omega)]; omega
      have hfx : fixN p.D i x = { x.c with n := v - i - 1 } := by
        unfold fixN; rw [if_neg he, ha, hw]
      have hne : x.name.data.toList ≠ [] := fun e => by rw [ByteArray.toList_eq, e] at he'; cases he'
      rw [hf, hfx]
      exact ⟨rfl, fun _ => ⟨rfl, way_right hr.1 (hr.2 hne) _ (by omega) (by omega)⟩⟩
/-- The lines of a text are the reference's words between line ends. -/
theorem lnE_wd : ∀ (m : Nat) (l : List UInt8) (f : Nat) (n : Int), l.length ≤ m → l.length < f → lnE f n l = nums n (wdA 10 [] l) := by
  intro m
  induction m with
  | zero =>
    intro l f n hm hf
    obtain rfl : l = [] := List.eq_nil_of_length_eq_zero (by omega)
    obtain ⟨f', rfl⟩ : ∃ f', f = f' + 1 := ⟨f - 1, by omega⟩
    rw [lnE, cutN_miss [] (by simp), if_neg (by simp)]; rfl
  | succ m ih =>
    intro l f n hm hf
    obtain ⟨f', rfl⟩ : ∃ f', f = f' + 1 := ⟨f - 1, by omega⟩
    by_cases h : (10 : UInt8) ∈ l
    · obtain ⟨a, b, rfl, ha⟩ := List.eq_append_cons_of_mem h
      rw [lnE, cutN_hit a b ha, if_pos rfl, wdA_hit 10 b a [] ha, nums]
      simp only
      rw [ih b f' (n + 1) (by simp at hm; omega) (by simp at hf; omega)]
      rfl
    · rw [lnE, cutN_miss l h, if_neg (by simp), wdA_miss 10 l [] h]; rfl
theorem allLn_wd (s : ByteArray) : allLn s = nums 1 (wdA 10 [] s.data.toList) := by
  unfold allLn
  have hl : s.data.toList.length = s.size := by simp
  exact lnE_wd _ _ _ _ (Nat.le_refl _) (by omega)
end Go.Proofs.YtgldkmabhmlijaaGreatDoor
/- Five rows that grow side by side: of instructions, of two kinds of texts, of two kinds of numbers. -/
namespace Go.Proofs.YtgldkmabhmlijaaGreatDoor
open Go.RowKit Go.Sort
def cdV (l : List Cod) : List Value := l.flatMap fun c => [.int .i64 c.op, .int .i64 c.a, .int .i64 c.b, .int .i64 c.c, .int .i64 c.n]
def ivZ (l : List Int) : List Value := l.map (Value.int .i64)
theorem codeInfo : (Tryz.prog.info? 24).map (fun i => (i.zero, i.size, i.bytes)) = some (some (.agg #[.int .i64 0, .int .i64 0, .int .i64 0, .int .i64 0, .int .i64 0]), 5, 40) := by kernel_rfl
theorem intInfo : (Tryz.prog.info? 3).map (fun i => (i.zero, i.size, i.bytes)) = some (some (.int .i64 0), 1, 8) := by kernel_rfl
section
variable {W : World} {ops : Array Oper} {rest : List Oper} {o : Oper} {a : Act} {Q : Exit → Act → World → Prop}
theorem app_s5 (hgd : o.guard = none) (s x : Operand)
    (ho : o.op = .call { callee := .builtin .append, args := #[s, x], argTypes := #[36, 36] }) (base : Nat) (v : Value) (xs : List ByteArray) (y : ByteArray) (hs : a.eval s = v) (hown : W.ownsRow base 9 1 v xs.length (sts xs)) (hb : base ≤ W.heap.size) (hn : xs.length < 1000000)
    (B : Nat) (hx : a.eval x = .slice (some ⟨B, 0, none⟩) 1 1) (hsrc : W.cell? ⟨B, 0, none⟩ = some (.string y))
    (h : ∀ v' w', w'.ownsRow base 9 1 v' (xs ++ [y]).length (sts (xs ++ [y])) → W.grownBy w' v.ownBlock → (v'.ownBlock = v.ownBlock ∨ v'.ownBlock = some W.heap.size) → wpList Tryz.prog ops Q rest (a.put o.dst v') w') : wpList Tryz.prog ops Q (o :: rest) a W := by
  obtain ⟨i0, hi, hz0, hz1, hz2⟩ := info_parts strInfo
  refine wpList_append_own_at _ hgd s x 36 ho base 9 i0 (.string ⟨#[]⟩) 1 16 Tryz.underlying36 hi hz0 hz1 hz2 rfl (by decide) v xs.length (sts xs) hs hown ⟨B, 0, none⟩ 1 1 [.string y] hx rfl (fun j u hu => ?_) (fun u hu => by simp at hu; subst hu; rfl) (by unfold maxLen; omega) (by omega) hb ?_
  · match j, hu with
    | 0, hu => simp at hu; subst hu; simpa [Addr.add] using hsrc
  · intro v' w' h1 h2 _ h4
    refine h v' w' ?_ h2 h4
    rw [List.length_append, show sts (xs ++ [y]) = sts xs ++ [.string y] from by simp [sts]]
    exact h1
theorem app_i5 (hgd : o.guard = none) (s x : Operand)
    (ho : o.op = .call { callee := .builtin .append, args := #[s, x], argTypes := #[60, 60] }) (base : Nat) (v : Value) (xs : List Int) (y : Int) (hs : a.eval s = v) (hown : W.ownsRow base 3 1 v xs.length (ivZ xs)) (hb : base ≤ W.heap.size) (hn : xs.length < 1000000)
    (B : Nat) (hx : a.eval x = .slice (some ⟨B, 0, none⟩) 1 1) (hsrc : W.cell? ⟨B, 0, none⟩ = some (.int .i64 y))
    (h : ∀ v' w', w'.ownsRow base 3 1 v' (xs ++ [y]).length (ivZ (xs ++ [y])) → W.grownBy w' v.ownBlock → (v'.ownBlock = v.ownBlock ∨ v'.ownBlock = some W.heap.size) → wpList Tryz.prog ops Q rest (a.put o.dst v') w') : wpList Tryz.prog ops Q (o :: rest) a W := by
  obtain ⟨i0, hi, hz0, hz1, hz2⟩ := info_parts intInfo
  refine wpList_append_own_at _ hgd s x 60 ho base 3 i0 (.int .i64 0) 1 8 Tryz.underlying60 hi hz0 hz1 hz2 rfl (by decide) v xs.length (ivZ xs) hs hown ⟨B, 0, none⟩ 1 1 [.int .i64 y] hx rfl (fun j u hu => ?_) (fun u hu => by simp at hu; subst hu; rfl) (by unfold maxLen; omega) (by omega) hb ?_
  · match j, hu with
    | 0, hu => simp at hu; subst hu; simpa [Addr.add] using hsrc
  · intro v' w' h1 h2 _ h4
    refine h v' w' ?_ h2 h4
    rw [List.length_append, show ivZ (xs ++ [y]) = ivZ xs ++ [.int .i64 y] from by simp [ivZ]]
    exact h1
theorem app_c5 (hgd : o.guard = none) (s x : Operand)
    (ho : o.op = .call { callee := .builtin .append, args := #[s, x], argTypes := #[59, 59] }) (base : Nat) (v : Value) (xs : List Cod) (y : Cod) (hs : a.eval s = v) (hown : W.ownsRow base 24 5 v xs.length (cdV xs)) (hb : base ≤ W.heap.size) (hn : xs.length < 1000000)
    (B : Nat) (hx : a.eval x = .slice (some ⟨B, 0, none⟩) 1 1) (hsrc : At5 W B y)
    (h : ∀ v' w', w'.ownsRow base 24 5 v' (xs ++ [y]).length (cdV (xs ++ [y])) → W.grownBy w' v.ownBlock → (v'.ownBlock = v.ownBlock ∨ v'.ownBlock = some W.heap.size) → wpList Tryz.prog ops Q rest (a.put o.dst v') w') : wpList Tryz.prog ops Q (o :: rest) a W := by
  obtain ⟨i0, hi, hz0, hz1, hz2⟩ := info_parts codeInfo
  obtain ⟨_, ⟨b0, b1, b2, b3, b4⟩, _⟩ := hsrc
  refine wpList_append_own_at _ hgd s x 59 ho base 24 i0 (.agg #[.int .i64 0, .int .i64 0, .int .i64 0, .int .i64 0, .int .i64 0]) 5 40 Tryz.underlying59 hi hz0 hz1 hz2 rfl (by decide) v xs.length (cdV xs) hs hown ⟨B, 0, none⟩ 1 1 [.int .i64 y.op, .int .i64 y.a, .int .i64 y.b, .int .i64 y.c, .int .i64 y.n] hx rfl (fun j u hu => ?_) (fun u hu => by simp at hu; rcases hu with rfl | rfl | rfl | rfl | rfl <;> rfl) (by unfold maxLen; omega) (by omega) hb ?_
  · match j, hu with
    | 0, hu => simp at hu; subst hu; simpa [Addr.add] using b0
    | 1, hu => simp at hu; subst hu; simpa [Addr.add] using b1
    | 2, hu => simp at hu; subst hu; simpa [Addr.add] using b2
    | 3, hu => simp at hu; subst hu; simpa [Addr.add] using b3
    | 4, hu => simp at hu; subst hu; simpa [Addr.add] using b4
  · intro v' w' h1 h2 _ h4
    refine h v' w' ?_ h2 h4
    rw [List.length_append, show cdV (xs ++ [y]) = cdV xs ++ [.int .i64 y.op, .int .i64 y.a, .int .i64 y.b, .int .i64 y.c, .int .i64 y.n] from by simp [cdV]]
    exact h1
end
def Ap (v u : Value) : Prop := v.ownBlock = u.ownBlock → v.ownBlock = none
theorem Ap.symm {v u : Value} (h : Ap v u) : Ap u v := fun e => by rw [e]; exact h e.symm
theorem ap_ty {w : World} {B B' e e' s s' n n' : Nat} {v v' : Value} {xs xs' : List Value} (h : w.ownsRow B e s v n xs) (h' : w.ownsRow B' e' s' v' n' xs') (hne : e ≠ e') : Ap v v' := fun q => by
  rcases h.2 with ⟨rfl, _⟩ | ⟨g, cap, cur, rfl, _, hgb, _⟩
  · rfl
  · rcases h'.2 with ⟨rfl, _⟩ | ⟨g', cap', cur', rfl, _, hgb', _⟩
    · simp [Value.ownBlock] at q
    · obtain rfl : g = g' := by simpa [Value.ownBlock] using q
      rw [hgb] at hgb'
      injection hgb' with hgb'
      injection hgb' with _ h2 _
      exact absurd h2 hne
theorem row_kept {W w' : World} {B e s n : Nat} {u v : Value} {xs : List Value} (hu : W.ownsRow B e s u n xs) (hg : W.grownBy w' v.ownBlock) (ha : Ap u v) : w'.ownsRow B e s u n xs :=
  hu.kept hg (by
    by_cases h : u.ownBlock = v.ownBlock
    · exact .inl (ha h)
    · exact .inr h)
theorem ap_new {W : World} {B e s n : Nat} {u v v' : Value} {xs : List Value} (hu : W.ownsRow B e s u n xs) (ha : Ap u v) (h : v'.ownBlock = v.ownBlock ∨ v'.ownBlock = some W.heap.size) : Ap u v' := fun q => by
  rcases h with h | h
  · exact ha (q.trans h)
  · have := (hu.lt _ (q.trans h)).2
    omega
/-- The five rows. -/
structure R5 (w : World) (B : Nat) (v1 v2 v3 v4 v5 : Value) (C : List Cod) (Nm Pl : List ByteArray) (At No : List Int) : Prop where
  r1 : w.ownsRow B 24 5 v1 C.length (cdV C)
  r2 : w.ownsRow B 9 1 v2 Nm.length (sts Nm)
  r3 : w.ownsRow B 9 1 v3 Pl.length (sts Pl)
  r4 : w.ownsRow B 3 1 v4 At.length (ivZ At)
  r5 : w.ownsRow B 3 1 v5 No.length (ivZ No)
  a23 : Ap v2 v3
  a45 : Ap v4 v5
theorem R5.below {w w' : World} {B : Nat} {v1 v2 v3 v4 v5 : Value} {C : List Cod} {Nm Pl : List ByteArray} {At No : List Int} (h : R5 w B v1 v2 v3 v4 v5 C Nm Pl At No) (hb : Below w.heap.size w w') : R5 w' B v1 v2 v3 v4 v5 C Nm Pl At No := by
  have hg : w.grownBy w' none := ⟨hb.os, hb.tape, hb.output, hb.size, fun k hk _ => hb.block k hk⟩
  have key : ∀ {e s n : Nat} {u : Value} {xs : List Value}, w.ownsRow B e s u n xs → w'.ownsRow B e s u n xs := fun hu => hu.kept hg (by
    rename_i u _
    cases hq : u.ownBlock <;> simp)
  exact ⟨key h.r1, key h.r2, key h.r3, key h.r4, key h.r5, h.a23, h.a45⟩
section
variable {W w' : World} {B : Nat} {v1 v2 v3 v4 v5 v' : Value} {C : List Cod} {Nm Pl : List ByteArray} {At No : List Int}
theorem ne_cs : 24 ≠ 9 := by decide
theorem ne_ci : 24 ≠ 3 := by decide
theorem ne_si : 9 ≠ 3 := by decide
theorem R5.add1 (h : R5 W B v1 v2 v3 v4 v5 C Nm Pl At No) {C' : List Cod} (ho : w'.ownsRow B 24 5 v' C'.length (cdV C')) (hg : W.grownBy w' v1.ownBlock) : R5 w' B v' v2 v3 v4 v5 C' Nm Pl At No :=
  ⟨ho, row_kept h.r2 hg (ap_ty h.r2 h.r1 ne_cs.symm), row_kept h.r3 hg (ap_ty h.r3 h.r1 ne_cs.symm), row_kept h.r4 hg (ap_ty h.r4 h.r1 ne_ci.symm), row_kept h.r5 hg (ap_ty h.r5 h.r1 ne_ci.symm), h.a23, h.a45⟩
theorem R5.add2 (h : R5 W B v1 v2 v3 v4 v5 C Nm Pl At No) {N' : List ByteArray} (ho : w'.ownsRow B 9 1 v' N'.length (sts N')) (hg : W.grownBy w' v2.ownBlock) (hn : v'.ownBlock = v2.ownBlock ∨ v'.ownBlock = some W.heap.size) : R5 w' B v1 v' v3 v4 v5 C N' Pl At No :=
  ⟨row_kept h.r1 hg (ap_ty h.r1 h.r2 ne_cs), ho, row_kept h.r3 hg h.a23.symm, row_kept h.r4 hg (ap_ty h.r4 h.r2 ne_si.symm), row_kept h.r5 hg (ap_ty h.r5 h.r2 ne_si.symm), (ap_new h.r3 h.a23.symm hn).symm, h.a45⟩
theorem R5.add3 (h : R5 W B v1 v2 v3 v4 v5 C Nm Pl At No) {N' : List ByteArray} (ho : w'.ownsRow B 9 1 v' N'.length (sts N')) (hg : W.grownBy w' v3.ownBlock) (hn : v'.ownBlock = v3.ownBlock ∨ v'.ownBlock = some W.heap.size) : R5 w' B v1 v2 v' v4 v5 C Nm N' At No :=
  ⟨row_kept h.r1 hg (ap_ty h.r1 h.r3 ne_cs), row_kept h.r2 hg h.a23, ho, row_kept h.r4 hg (ap_ty h.r4 h.r3 ne_si.symm), row_kept h.r5 hg (ap_ty h.r5 h.r3 ne_si.symm), ap_new h.r2 h.a23 hn, h.a45⟩
theorem R5.add4 (h : R5 W B v1 v2 v3 v4 v5 C Nm Pl At No) {N' : List Int} (ho : w'.ownsRow B 3 1 v' N'.length (ivZ N')) (hg : W.grownBy w' v4.ownBlock) (hn : v'.ownBlock = v4.ownBlock ∨ v'.ownBlock = some W.heap.size) : R5 w' B v1 v2 v3 v' v5 C Nm Pl N' No :=
  ⟨row_kept h.r1 hg (ap_ty h.r1 h.r4 ne_ci), row_kept h.r2 hg (ap_ty h.r2 h.r4 ne_si), row_kept h.r3 hg (ap_ty h.r3 h.r4 ne_si), ho, row_kept h.r5 hg h.a45.symm, h.a23, (ap_new h.r5 h.a45.symm hn).symm⟩
theorem R5.add5 (h : R5 W B v1 v2 v3 v4 v5 C Nm Pl At No) {N' : List Int} (ho : w'.ownsRow B 3 1 v' N'.length (ivZ N')) (hg : W.grownBy w' v5.ownBlock) (hn : v'.ownBlock = v5.ownBlock ∨ v'.ownBlock = some W.heap.size) : R5 w' B v1 v2 v3 v4 v' C Nm Pl At N' :=
  ⟨row_kept h.r1 hg (ap_ty h.r1 h.r5 ne_ci), row_kept h.r2 hg (ap_ty h.r2 h.r5 ne_si), row_kept h.r3 hg (ap_ty h.r3 h.r5 ne_si), row_kept h.r4 hg h.a45, ho, h.a23, ap_new h.r4 h.a45 hn⟩
theorem grown_b {e s n : Nat} {v : Value} {xs : List Value} (hr : W.ownsRow B e s v n xs) (hg : W.grownBy w' v.ownBlock) (hb : B ≤ W.heap.size) : Below B W w' :=
  Below.grown (Below.refl _ _) hg hb (fun j hj => (hr.lt j hj).1)
end
theorem R5.nil (w : World) (B : Nat) : R5 w B (.slice none 0 0) (.slice none 0 0) (.slice none 0 0) (.slice none 0 0) (.slice none 0 0) [] [] [] [] [] :=
  ⟨World.ownsRow_nil _ _ _ _, World.ownsRow_nil _ _ _ _, World.ownsRow_nil _ _ _ _, World.ownsRow_nil _ _ _ _, World.ownsRow_nil _ _ _ _, fun _ => rfl, fun _ => rfl⟩
end Go.Proofs.YtgldkmabhmlijaaGreatDoor
/- What Build of the reference answers. -/
namespace Go.Proofs.YtgldkmabhmlijaaGreatDoor
open Go.RowKit Go.Sort Go.Shelf
theorem last_byte (q : ByteArray) (h : 1 ≤ q.size) : q.data.toList.getLast? = some 58 ↔ byS q (q.size - 1) = 58 := by
  have hl : q.data.toList.length = q.size := by simp
  have hb : q[q.size - 1].toNat = byS q (q.size - 1) := byS_get q (q.size - 1) (by omega)
  have hg : q.data.toList[q.size - 1]'(by omega) = q[q.size - 1] := by simp [ByteArray.getElem_eq_getElem_data]
  rw [List.getLast?_eq_getElem?, hl, List.getElem?_eq_getElem (by omega), hg, ← hb]
  constructor
  · intro e; rw [Option.some.inj e]; rfl
  · intro e; congr 1; exact UInt8.toNat_inj.1 (by rw [e]; rfl)
theorem isE_iff (q : ByteArray) : q.toList.isEmpty = true ↔ q.size = 0 := by
  rw [ByteArray.toList_eq, List.isEmpty_iff]
  have hl : q.data.toList.length = q.size := by simp
  constructor
  · intro e; rw [← hl, e]; rfl
  · intro e; exact List.eq_nil_of_length_eq_zero (by omega)
theorem cnts_tB (n : Int) (q : ByteArray) : cnts (n, q) = (!q.toList.isEmpty && !isPl q) := rfl
theorem nums_take : ∀ (l : List (List UInt8)) (k : Nat) (n : Int) (h : k < l.length), nums n (l.take (k + 1)) = nums n (l.take k) ++ [(n + k, tB l[k])]
  | x :: l, 0, n, h => by simp [nums]
  | x :: l, k + 1, n, h => by
    rw [List.take_succ_cons, nums, nums_take l k (n + 1) (by simpa using h), List.take_succ_cons, nums, List.cons_append]
    simp; omega
theorem buildR_crowd {s : ByteArray} (h : 1024 < cnt (nums 1 (wdA 10 [] s.data.toList))) : buildR s = #[.string ⟨#[]⟩, .int .i64 0, .int .i64 7] := by
  unfold buildR; rw [allLn_wd, if_pos h]
theorem buildR_bad {s : ByteArray} (n : Int) (h : ¬ 1024 < cnt (nums 1 (wdA 10 [] s.data.toList))) (hb : badL prg0 (nums 1 (wdA 10 [] s.data.toList)) = some n) : buildR s = #[.string ⟨#[]⟩, .int .i64 n, .int .i64 2] := by
  unfold buildR; rw [allLn_wd, if_neg h, hb]
theorem buildR_ok {s : ByteArray} (h : ¬ 1024 < cnt (nums 1 (wdA 10 [] s.data.toList))) (hb : badL prg0 (nums 1 (wdA 10 [] s.data.toList)) = none) : buildR s = bytesR (rds prg0 (nums 1 (wdA 10 [] s.data.toList))) := by
  unfold buildR; rw [allLn_wd, if_neg h, hb]
theorem nums_prefix (l : List (List UInt8)) (k : Nat) (n : Int) : nums n (l.take k) <+: nums n l := by
  refine ⟨nums (n + (l.take k).length) (l.drop k), ?_⟩
  rw [← nums_append, List.take_append_drop]
theorem bsU_succ (p : Prg) (k : Nat) : bsU p (k + 1) = bsU p k ++ toU (q4l (bytesC (fixN p.D k (p.st.getD k ste0)))) := by
  unfold bsU; rw [List.range_succ, List.flatMap_append]; simp
theorem addr0 (g r : Nat) : (⟨g, 0, none⟩ : Addr).add r = ⟨g, r, none⟩ := by
  by_cases h : r = 0 <;> simp [Addr.add, h]
theorem lines_snoc {l : List Ste} {y : Ste} (h : ∀ x ∈ l, 1 ≤ x.line) (hy : 1 ≤ y.line) : ∀ x ∈ l ++ [y], 1 ≤ x.line := fun x hx => by
  rcases List.mem_append.1 hx with hx | hx
  · exact h x hx
  · rw [List.mem_singleton.1 hx]; exact hy
theorem cdV_at : ∀ (l : List Cod) (j r : Nat) (h : j < l.length), r < 5 → (cdV l)[j * 5 + r]? = [Value.int .i64 l[j].op, .int .i64 l[j].a, .int .i64 l[j].b, .int .i64 l[j].c, .int .i64 l[j].n][r]?
  | c :: l, 0, r, _, hr => by
    rw [Nat.zero_mul, Nat.zero_add, cdV, List.flatMap_cons, List.getElem?_append_left (by simpa using hr)]; rfl
  | c :: l, j + 1, r, h, hr => by
    have ih := cdV_at l j r (by simpa using h) hr
    rw [cdV, List.flatMap_cons, List.getElem?_append_right (by simp; omega)]
    simp only [List.length_cons, List.length_nil, List.getElem_cons_succ]
    rw [show (j + 1) * 5 + r - 5 = j * 5 + r from by omega]
    exact ih
theorem cd_cells {w : World} {base : Nat} {v : Value} {l : List Cod} (h : w.ownsRow base 24 5 v l.length (cdV l)) (h1 : 1 ≤ l.length) : ∃ g cap, v = .slice (some ⟨g, 0, none⟩) l.length cap ∧ g < w.heap.size ∧ ∀ j (hj : j < l.length), w.cell? ⟨g, j * 5, none⟩ = some (.int .i64 l[j].op) ∧ w.cell? ⟨g, j * 5 + 1, none⟩ = some (.int .i64 l[j].a) ∧ w.cell? ⟨g, j * 5 + 2, none⟩ = some (.int .i64 l[j].b) ∧ w.cell? ⟨g, j * 5 + 3, none⟩ = some (.int .i64 l[j].c) ∧ w.cell? ⟨g, j * 5 + 4, none⟩ = some (.int .i64 l[j].n) := by
  have hlt := h.lt
  rcases h.2 with ⟨_, h0⟩ | ⟨g, c, cur, hv, _, _⟩
  · omega
  · subst hv
    have hcl := h.cells (g := g) rfl
    refine ⟨g, c, rfl, (hlt g rfl).2, fun j hj => ?_⟩
    have key : ∀ r u, r < 5 → [Value.int .i64 l[j].op, .int .i64 l[j].a, .int .i64 l[j].b, .int .i64 l[j].c, .int .i64 l[j].n][r]? = some u → w.cell? ⟨g, j * 5 + r, none⟩ = some u := fun r u hr hu => by
      have := hcl (j * 5 + r) u (by rw [cdV_at l j r hj hr]; exact hu)
      rwa [show (⟨g, 0, none⟩ : Addr).add (j * 5 + r) = ⟨g, j * 5 + r, none⟩ from addr0 g _] at this
    exact ⟨key 0 _ (by omega) rfl, key 1 _ (by omega) rfl, key 2 _ (by omega) rfl, key 3 _ (by omega) rfl, key 4 _ (by omega) rfl⟩
theorem iv_cells {w : World} {base : Nat} {v : Value} {l : List Int} (h : w.ownsRow base 3 1 v l.length (ivZ l)) (h1 : 1 ≤ l.length) : ∃ g cap, v = .slice (some ⟨g, 0, none⟩) l.length cap ∧ g < w.heap.size ∧ ∀ j (hj : j < l.length), w.cell? ⟨g, j, none⟩ = some (.int .i64 l[j]) := by
  have hlt := h.lt
  rcases h.2 with ⟨_, h0⟩ | ⟨g, c, cur, hv, _, _⟩
  · omega
  · subst hv
    have hcl := h.cells (g := g) rfl
    refine ⟨g, c, rfl, (hlt g rfl).2, fun j hj => ?_⟩
    have := hcl j (.int .i64 l[j]) (by unfold ivZ; rw [List.getElem?_map, List.getElem?_eq_getElem hj]; rfl)
    rwa [show (⟨g, 0, none⟩ : Addr).add j = ⟨g, j, none⟩ from addr0 g _] at this
set_option maxRecDepth 100000 in
set_option maxHeartbeats 16000000 in
theorem rBuild_any (s : ByteArray) (w : World) (hs : s.size ≤ 4000) : Calls Tryz.prog 10 #[.string s] w fun e w' => e = .returned (.tuple (buildR s)) ∧ Below w.heap.size w w' := by
  have hl : s.data.toList.length = s.size := by simp
  have HWd := Lib.hid (fun W => Words_any s 10 W (by omega))
  have hws := wdA_len 10 s.data.toList []
  have hsz := wdA_sizes 10 s.data.toList []
  have HCr := Lib.hid (@buildR_crowd s)
  have HBa := Lib.hid (@buildR_bad s)
  have HOk := Lib.hid (@buildR_ok s)
  obtain ⟨R, hR⟩ : ∃ R, R = wdA 10 [] s.data.toList := ⟨_, rfl⟩
  rw [← hR] at hws hsz
  simp only [← hR] at HWd HCr HBa HOk
  have hbl : (bas R).length = R.length := by simp [bas]
  have HSz : Hid (∀ j (h : j < R.length), (tB R[j]).size ≤ 4000) := fun j h => by
    have := hsz _ (List.getElem_mem h)
    rw [tB_size]; simp at this; omega
  clear hR hsz
  go_enter Tryz.func10, Tryz.ntmps10
  go_wp2_with (go_at_call 18; refine (HWd.out _).mono ?_; rintro e w1 ⟨v, rfl, how, hb1⟩; refine Hid.out ?_)
  refine Lib.hid ?_
  obtain ⟨g, cap, rfl, hg1, hg2, hcell⟩ := sts_cells how (by rw [hbl]; exact hws.1)
  have HC : Hid (∀ j (h : j < R.length), w1.cell? ⟨g, j, none⟩ = some (.string (tB R[j]))) := fun j hj => by
    rw [hcell j (by omega)]; simp [bas, toB, tB]
  rw [hbl]
  have hR1 : R.length ≤ 4001 := by omega
  clear hcell how hbl HWd hws hl
  go_wp2_with fail
  go_loopw [6, 34] (fun nv iv wr => ∃ k : Nat, k ≤ R.length ∧ iv = .int .i64 k ∧ nv = .int .i64 (cnt (nums 1 (R.take k)) : Nat) ∧ wr = w1) (fun _ iv _ => R.length - (intOf iv).toNat)
  case atStart => exact ⟨0, by omega, rfl, rfl, rfl⟩
  case round =>
    obtain ⟨k, hk, rfl, rfl, rfl⟩ := hrel
    have hcl := cnt_le (nums 1 (R.take k))
    rw [nums_len, List.length_take] at hcl
    obtain ⟨N, hN⟩ : ∃ N, N = cnt (nums 1 (R.take k)) := ⟨_, rfl⟩
    rw [← hN] at hcl ⊢
    have HN := Lib.hid hN
    clear hN
    by_cases hlt : k < R.length
    · have hki : (k : Int) < (R.length : Int) := by omega
      have hc := HC.out k hlt
      have hqs := HSz.out k hlt
      have hsn := cnt_snoc (nums 1 (R.take k)) (1 + k, tB R[k])
      rw [← nums_take R k 1 hlt, cnts_tB, ← HN.out] at hsn
      generalize tB R[k] = q at hc hqs hsn
      by_cases he : q.size = 0
      · have he' := (isE_iff q).2 he
        have HS : Hid (cnt (nums 1 (R.take (k + 1))) = N) := by simp only [Hid]; rw [hsn, he']; rfl
        clear hsn he
        go_wp2
        go_roundw
        case rel => exact ⟨k + 1, by omega, by go_num, by rw [HS.out], trivial⟩
        case measure => simp [intOf]; omega
      · have he' : q.toList.isEmpty = false := by
          rcases hq : q.toList.isEmpty with _ | _
          · rfl
          · exact absurd ((isE_iff q).1 hq) he
        have hb : q[q.size - 1].toNat = byS q (q.size - 1) := byS_get q (q.size - 1) (by omega)
        have hb256 := byS_lt q (q.size - 1)
        have hlb := last_byte q (by omega)
        have hpl : isPl q = decide (byS q (q.size - 1) = 58) := by
          have := isPl_last q.data.toList
          rw [list_tB] at this
          rw [Bool.eq_iff_iff, this, hlb]; simp
        rw [he', hpl] at hsn
        have z1 : (0 : Int) ≤ (q.size : Int) - 1 := by omega
        have z2 : (q.size : Int) - 1 < (q.size : Int) := by omega
        have z3 : ((q.size : Int) - 1).toNat = q.size - 1 := by omega
        have z4 : q.size - 1 < q.size := by omega
        obtain ⟨b, hbb⟩ : ∃ b, b = byS q (q.size - 1) := ⟨_, rfl⟩
        rw [← hbb] at hb hb256 hsn
        clear hbb hlb hpl
        by_cases h58 : b = 58
        · have HS : Hid (cnt (nums 1 (R.take (k + 1))) = N) := by simp only [Hid]; rw [hsn, h58]; rfl
          have hbe : ((b : Int) == 58) = true := by rw [h58]; rfl
          clear hsn h58
          go_wp2
          go_roundw
          case rel => exact ⟨k + 1, by omega, by go_num, by rw [HS.out], trivial⟩
          case measure => simp [intOf]; omega
        · have HS : Hid (cnt (nums 1 (R.take (k + 1))) = N + 1) := by simp only [Hid]; rw [hsn]; simp [h58]
          have hbe : ((b : Int) == 58) = false := by simp only [beq_eq_false_iff_ne]; omega
          clear hsn h58
          go_wp2
          go_roundw
          case rel => exact ⟨k + 1, by omega, by go_num, by rw [HS.out]; go_num, trivial⟩
          case measure => simp [intOf]; omega
    · obtain rfl : k = R.length := by omega
      have hki : ¬ (R.length : Int) < (R.length : Int) := by omega
      have hN2 : N = cnt (nums 1 R) := by rw [HN.out, List.take_length]
      by_cases hcr : 1024 < N
      · have hci : (1024 : Int) < (N : Int) := by omega
        have HR := Lib.hid (HCr.out (by rw [← hN2]; exact hcr))
        clear hN2
        go_wp2
        go_ret3
        exact ⟨by rw [HR.out]; rfl, hb1⟩
      · have hci : ¬ (1024 : Int) < (N : Int) := by omega
        have HNC : Hid (¬ 1024 < cnt (nums 1 R)) := by rw [← hN2]; exact hcr
        clear hN2 hcr HN HCr
        obtain ⟨w1, rfl⟩ : ∃ w1, w1 = wr := ⟨_, rfl⟩
        go_wp2_with fail
        go_loopw [9, 10, 11, 12, 13, 55] (fun v1 v2 v3 v4 v5 iv wr => ∃ (k : Nat) (z : RS), k ≤ R.length ∧ iv = .int .i64 k ∧ (badL prg0 (nums 1 (R.take k)) = none ∧ Sim (rds prg0 (nums 1 (R.take k))) z ∧ z.st.length ≤ k ∧ z.PL.length ≤ k ∧ ∀ x ∈ z.st, 1 ≤ x.line) ∧ R5 wr w1.heap.size v1 v2 v3 v4 v5 (z.st.map (·.c)) (z.st.map (·.name)) (z.PL.map fun x => tB x.1) (z.PL.map (·.2)) (z.st.map (·.line)) ∧ Below w1.heap.size w1 wr) (fun _ _ _ _ _ iv _ => R.length - (intOf iv).toNat)
        case atStart => exact ⟨0, ⟨[], []⟩, by omega, rfl, ⟨rfl, sim0, by simp, by simp, fun x hx => by simp at hx⟩, R5.nil _ _, Below.refl _ _⟩
        case round =>
          obtain ⟨k, z, hk, rfl, hS, h5, hB⟩ := hrel
          have HS := Lib.hid hS
          have hzs := And.intro hS.2.2.1 hS.2.2.2.1
          have hzB := hB.size
          obtain ⟨wo, rfl⟩ : ∃ wo, wo = wr := ⟨_, rfl⟩
          clear hS
          by_cases hlt : k < R.length
          · have hki : (k : Int) < (R.length : Int) := by omega
            have hc := (hB.cell (p := ⟨g, k, none⟩) hg1).trans (HC.out k hlt)
            have hqs := HSz.out k hlt
            have hnt := nums_take R k 1 hlt
            obtain ⟨l, hl⟩ : ∃ l, l = R[k] := ⟨_, rfl⟩
            rw [← hl] at hc hqs hnt
            have hst := sim_step HS.out.2.1 (1 + k) l
            have HGo : Hid (∀ z', rstp z (1 + k) l = some z' → badL prg0 (nums 1 (R.take (k + 1))) = none ∧ Sim (rds prg0 (nums 1 (R.take (k + 1)))) z') := fun z' hz' => by
              have h1 := hst.1
              rw [hz'] at h1
              rw [hnt]
              exact ⟨badL_snoc_ok HS.out.1 h1, by rw [rds_snoc]; exact hst.2 z' hz'⟩
            have HFail : Hid (rstp z (1 + k) l = none → buildR s = #[.string ⟨#[]⟩, .int .i64 ((k : Int) + 1), .int .i64 2]) := fun hz' => by
              have h1 := hst.1
              rw [hz'] at h1
              have hp := nums_prefix R (k + 1) 1
              rw [hnt] at hp
              have := HBa.out (1 + k) HNC.out (badL_snoc_bad HS.out.1 h1 hp)
              rw [this, show (1 : Int) + k = k + 1 from by omega]
            clear hst hnt hl
            have hB' : Below w.heap.size w wo := hb1.trans (hB.mono hb1.size)
            have hll : l.length = (tB l).size := rfl
            by_cases he : l = []
            · have HZ : Hid (rstp z (1 + k) l = some z) := by simp only [Hid]; unfold rstp; rw [if_pos he]
              have he' : (tB l).toList.isEmpty = true := (isE_iff _).2 (by rw [tB_size, he]; rfl)
              generalize tB l = q at hc hqs he'
              have H5 := Lib.hid h5
              have HB := Lib.hid hB
              clear he hll h5 hB
              go_wp2
              go_roundw
              case rel => exact ⟨k + 1, z, by omega, by go_num, ⟨(HGo.out z HZ.out).1, (HGo.out z HZ.out).2, by omega, by omega, HS.out.2.2.2.2⟩, H5.out, HB.out⟩
              case measure => simp [intOf]; omega
            · obtain ⟨q, hqe⟩ : ∃ q, q = tB l := ⟨_, rfl⟩
              have hpos : 1 ≤ q.size := by rw [hqe, tB_size]; cases l with | nil => exact absurd rfl he | cons x l => simp
              have hlb := last_byte q hpos
              rw [hqe, tB_list, ← hqe] at hlb
              rw [← hqe] at hc hqs hll
              have HQ := Lib.hid hqe
              clear hqe
              have he' : q.toList.isEmpty = false := by
                rcases hq : q.toList.isEmpty with _ | _
                · rfl
                · have := (isE_iff _).1 hq; omega
              have z4 : q.size - 1 < q.size := by omega
              have hb : q[q.size - 1].toNat = byS q (q.size - 1) := byS_get _ _ z4
              have hb256 := byS_lt q (q.size - 1)
              have z1 : (0 : Int) ≤ (q.size : Int) - 1 := by omega
              have z2 : (q.size : Int) - 1 < (q.size : Int) := by omega
              have z3 : ((q.size : Int) - 1).toNat = q.size - 1 := by omega
              have z5 : (q.size : Int) - 1 ≤ (q.size : Int) := by omega
              by_cases h58 : l.getLast? = some 58
              · have hbe : ((byS q (q.size - 1) : Int) == 58) = true := by rw [hlb.1 h58]; rfl
                have hpq : q.extract 0 (q.size - 1) = tB l.dropLast := by
                  rw [HQ.out]
                  apply ByteArray.ext; apply Array.toList_inj.1
                  rw [ByteArray.data_extract, Array.toList_extract, tB_list, tB_list, List.dropLast_eq_take]
                  simp [tB_size]
                have HNd := Lib.hid (fun V => rNamed_any (tB l.dropLast) V (by rw [tB_size, List.length_dropLast, hll]; omega))
                rw [tB_list] at HNd
                have HBad : Hid (anyP z.PL l.dropLast = true ∨ nameL l.dropLast = false → rstp z (1 + k) l = none) := fun hx => by
                  unfold rstp; rw [if_neg he, if_pos h58, if_pos hx]
                have HGood : Hid (anyP z.PL l.dropLast = false → nameL l.dropLast = true → rstp z (1 + k) l = some { z with PL := z.PL ++ [(l.dropLast, (z.st.length : Int))] }) := fun hx hy => by
                  unfold rstp; rw [if_neg he, if_pos h58, if_neg (by rw [hx, hy]; simp)]
                have hcmp : ∀ x : List UInt8, ((tB x).toList == (tB l.dropLast).toList) = (x == l.dropLast) := fun x => by
                  rw [toL_beq, tB_list, tB_list]; cases h : (x == l.dropLast) <;> simp at h ⊢ <;> exact h
                have HCmp := Lib.hid hcmp
                obtain ⟨ld, hld⟩ : ∃ ld, ld = l.dropLast := ⟨_, rfl⟩
                rw [← hld] at hpq HNd HBad HGood HCmp
                clear hld hcmp hlb
                obtain ⟨pq, hpqe⟩ : ∃ pq, pq = tB ld := ⟨_, rfl⟩
                rw [← hpqe] at hpq HNd HCmp
                have HPQ := Lib.hid hpqe
                clear hpqe
                clear HQ
                generalize hbb : byS q (q.size - 1) = b at hb hb256 hbe
                clear hbb h58 he hll
                obtain ⟨sp3, cap3, rfl⟩ := row_form (by have := h5.r3; rwa [List.length_map] at this)
                have HP3 : Hid (∀ j (h : j < z.PL.length), ∃ g3, sp3 = some ⟨g3, 0, none⟩ ∧ wo.cell? ⟨g3, j, none⟩ = some (.string (tB z.PL[j].1))) := fun j hj => by
                  obtain ⟨g3, c3, hv3, _, _, hc3⟩ := sts_cells h5.r3 (by rw [List.length_map]; omega)
                  injection hv3 with e1 e2 e3
                  refine ⟨g3, e1, ?_⟩
                  have := hc3 j (by rw [List.length_map]; exact hj)
                  simpa using this
                have H5 := Lib.hid h5
                have HB := Lib.hid hB
                clear h5 hB
                go_wp2_with fail
                go_loopw [17, 75] (fun tv jv wq => ∃ j : Nat, j ≤ z.PL.length ∧ jv = .int .i64 j ∧ tv = .bool (anyP (z.PL.take j) ld) ∧ wq = wo) (fun _ jv _ => z.PL.length - (intOf jv).toNat)
                case atStart => exact ⟨0, by omega, rfl, rfl, rfl⟩
                case round =>
                  obtain ⟨j, hj, rfl, rfl, rfl⟩ := hrel
                  by_cases hjl : j < z.PL.length
                  · have hji : (j : Int) < (z.PL.length : Int) := by omega
                    obtain ⟨g3, rfl, hcj⟩ := HP3.out j hjl
                    have HAn : Hid (anyP (z.PL.take (j + 1)) ld = (anyP (z.PL.take j) ld || (z.PL[j].1 == ld))) := by
                      simp only [Hid]; rw [List.take_succ_eq_append_getElem hjl, anyP, List.any_append]; simp [anyP]
                    have hce := HCmp.out z.PL[j].1
                    obtain ⟨bb, hbb⟩ : ∃ bb, bb = (z.PL[j].1 == ld) := ⟨_, rfl⟩
                    rw [← hbb] at HAn hce
                    generalize tB z.PL[j].1 = xq at hcj hce
                    generalize anyP (z.PL.take j) ld = tw at HAn
                    clear hbb
                    cases tw with
                    | true =>
                      go_wp2
                      go_roundw
                      case rel => exact ⟨j + 1, by omega, by go_num, by rw [HAn.out]; rfl, trivial⟩
                      case measure => simp [intOf]; omega
                    | false =>
                      go_wp2
                      go_roundw
                      case rel => exact ⟨j + 1, by omega, by go_num, by rw [HAn.out]; rfl, trivial⟩
                      case measure => simp [intOf]; omega
                  · obtain rfl : j = z.PL.length := by omega
                    have hji : ¬ (z.PL.length : Int) < (z.PL.length : Int) := by omega
                    rw [List.take_length]
                    rcases htw : anyP z.PL ld with _ | _
                    · rcases hnm : nameL ld with _ | _
                      · have HR := Lib.hid (HFail.out (HBad.out (.inr hnm)))
                        rw [hnm] at HNd
                        clear htw hnm
                        go_wp2_with (first | (go_at_call 23; refine (HNd.out _).mono ?_; rintro e w2 ⟨rfl, hb2⟩))
                        go_ret3
                        exact ⟨by rw [HR.out]; rfl, hB'.trans (hb2.mono hB'.size)⟩
                      · have HZ := Lib.hid (HGood.out htw hnm)
                        rw [hnm] at HNd
                        clear htw hnm
                        go_wp2_with (first | (go_at_call 23; refine (HNd.out _).mono ?_; rintro e w2 ⟨rfl, hb2⟩; refine Hid.out ?_))
                        refine Lib.hid ?_
                        have hB2 : Below w1.heap.size w1 w2 := HB.out.trans (hb2.mono hzB)
                        have h5 := H5.out.below hb2
                        obtain ⟨sp1, cap1, rfl⟩ := row_form (by have := h5.r1; rwa [List.length_map] at this)
                        have hz2 := hB2.size
                        have hbA : Below w2.heap.size w2 (w2.alloc (.cells #[.string pq] 9)) := (Below.refl _ _).alloc (Nat.le_refl _) _
                        have H5A := Lib.hid (h5.below hbA)
                        have hzA : w1.heap.size ≤ (w2.alloc (.cells #[.string pq] 9)).heap.size := by simp; omega
                        have HBA := Lib.hid (hB2.trans (hbA.mono hz2))
                        have hlP : (z.PL.map fun x => tB x.1).length = z.PL.length := List.length_map ..
                        have hlA : (z.PL.map (·.2)).length = z.PL.length := List.length_map ..
                        clear h5 hB2 hbA hb2 HP3 H5 HB
                        go_wp2_with (at_builtin; refine app_s5 rfl _ _ rfl w1.heap.size (.slice sp3 z.PL.length cap3) (z.PL.map fun x => tB x.1) pq rfl H5A.out.r3 hzA (by omega) w2.heap.size rfl (by simp [go_sem]) ?_; intro v3' w4 ho4 hg4 hn4; refine Hid.out ?_)
                        refine Lib.hid ?_
                        have h54 := H5A.out.add3 ho4 hg4 hn4
                        have hB4 : Below w1.heap.size w1 w4 := HBA.out.trans (grown_b H5A.out.r3 hg4 hzA)
                        have hz4 := hB4.size
                        have hbC : Below w4.heap.size w4 (w4.alloc (.cells #[.int .i64 (z.st.length : Int)] 3)) := (Below.refl _ _).alloc (Nat.le_refl _) _
                        have H5C := Lib.hid (h54.below hbC)
                        have hzC : w1.heap.size ≤ (w4.alloc (.cells #[.int .i64 (z.st.length : Int)] 3)).heap.size := by simp; omega
                        have HBC := Lib.hid (hB4.trans (hbC.mono hz4))
                        clear h54 hB4 hbC ho4 hg4 hn4 H5A HBA
                        go_wp2_with (at_builtin; refine app_i5 rfl _ _ rfl w1.heap.size u12 (z.PL.map (·.2)) (z.st.length : Int) rfl H5C.out.r4 hzC (by omega) w4.heap.size rfl (by simp [go_sem]) ?_; intro v4' w5 ho5 hg5 hn5; have H5E := Lib.hid (H5C.out.add4 ho5 hg5 hn5); have HB5 := Lib.hid (HBC.out.trans (grown_b H5C.out.r4 hg5 hzC)); clear ho5 hg5 hn5)
                        go_roundw
                        case rel =>
                          refine ⟨k + 1, { z with PL := z.PL ++ [(ld, (z.st.length : Int))] }, by omega, by go_num, ⟨(HGo.out _ HZ.out).1, (HGo.out _ HZ.out).2, by simp; omega, by simp; omega, HS.out.2.2.2.2⟩, ?_, HB5.out⟩
                          have e := H5E.out
                          rw [HPQ.out] at e
                          simpa using e
                        case measure => simp [intOf]; omega
                    · have HR := Lib.hid (HFail.out (HBad.out (.inl htw)))
                      clear htw
                      go_wp2
                      go_ret3
                      exact ⟨by rw [HR.out]; rfl, hB'⟩
              · have hbe : ((byS q (q.size - 1) : Int) == 58) = false := by
                  simp only [beq_eq_false_iff_ne]; intro e; exact h58 (hlb.2 (by omega))
                have HPs := Lib.hid (fun V => rParse_any q V (by omega))
                have HNo : Hid (rpar l = none → rstp z (1 + k) l = none) := fun hx => by unfold rstp; rw [if_neg he, if_neg h58, hx]
                have HYes : Hid (∀ c nm, rpar l = some (c, nm) → rstp z (1 + k) l = some { z with st := z.st ++ [⟨c, 1 + k, tB nm⟩] }) := fun c nm hx => by unfold rstp; rw [if_neg he, if_neg h58, hx]
                generalize hbb : byS q (q.size - 1) = b at hb hb256 hbe
                clear hbb h58 he hll hlb
                have H5 := Lib.hid h5
                have HB := Lib.hid hB
                clear h5 hB
                go_wp2_with (first | (go_at_call 7; refine (HPs.out _).mono ?_; rintro e w2 ⟨⟨c', nm, ok, rfl, hrp⟩, hb2⟩; refine Hid.out ?_))
                refine Lib.hid ?_
                rw [HQ.out, tB_list] at hrp
                have hB2 : Below w1.heap.size w1 w2 := HB.out.trans (hb2.mono hzB)
                have hz2 := hB2.size
                have HB2' : Hid (Below w.heap.size w w2) := hB'.trans (hb2.mono hB'.size)
                unfold Cod.v
                cases ok with
                | false =>
                  have HR := Lib.hid (HFail.out (HNo.out (by simpa using hrp)))
                  clear hrp hb2 hB2
                  go_wp2
                  go_ret3
                  exact ⟨by rw [HR.out]; rfl, HB2'.out.alloc HB2'.out.size _⟩
                | true =>
                  have HZ := Lib.hid (HYes.out c' nm.data.toList (by simpa using hrp))
                  rw [list_tB] at HZ
                  have h5 := H5.out.below hb2
                  have hbA : Below w2.heap.size w2 (w2.alloc (.cells #[.int .i64 c'.op, .int .i64 c'.a, .int .i64 c'.b, .int .i64 c'.c, .int .i64 c'.n] 24)) := (Below.refl _ _).alloc (Nat.le_refl _) _
                  have hA3 := At5.new w2 c' 24
                  have h53 := h5.below hbA
                  have hB3 := hB2.trans (hbA.mono hz2)
                  have hw3 : w2.heap.size < (w2.alloc (.cells #[.int .i64 c'.op, .int .i64 c'.a, .int .i64 c'.b, .int .i64 c'.c, .int .i64 c'.n] 24)).heap.size := by simp
                  clear hrp hb2 hB2 h5 hbA H5 HB
                  go_upto_region 33 with fail
                  generalize w2.alloc (.cells #[.int .i64 c'.op, .int .i64 c'.a, .int .i64 c'.b, .int .i64 c'.c, .int .i64 c'.n] 24) = w3 at hA3 h53 hB3 hw3 ⊢
                  obtain ⟨_, ⟨y0, y1, y2, y3, y4⟩, _⟩ := hA3
                  have hz3 := hB3.size
                  have hbC : Below w3.heap.size w3 (w3.alloc (.cells #[.int .i64 c'.op, .int .i64 c'.a, .int .i64 c'.b, .int .i64 c'.c, .int .i64 c'.n] 24)) := (Below.refl _ _).alloc (Nat.le_refl _) _
                  have H5C := Lib.hid (h53.below hbC)
                  have hA4 := At5.new w3 c' 24
                  have HA4 := Lib.hid hA4
                  have hzC : w1.heap.size ≤ (w3.alloc (.cells #[.int .i64 c'.op, .int .i64 c'.a, .int .i64 c'.b, .int .i64 c'.c, .int .i64 c'.n] 24)).heap.size := by simp; omega
                  have HBC := Lib.hid (hB3.trans (hbC.mono hz3))
                  have hl1 : (z.st.map (·.c)).length = z.st.length := List.length_map ..
                  have hl2 : (z.st.map (·.name)).length = z.st.length := List.length_map ..
                  have hl3 : (z.st.map (·.line)).length = z.st.length := List.length_map ..
                  clear h53 hB3 hbC hA4
                  go_wp2_with (at_builtin; refine app_c5 rfl _ _ rfl w1.heap.size u9 (z.st.map (·.c)) c' rfl H5C.out.r1 hzC (by omega) w3.heap.size rfl HA4.out ?_; intro v1' w4 ho4 hg4 hn4; refine Hid.out ?_)
                  refine Lib.hid ?_
                  have h54 := H5C.out.add1 ho4 hg4
                  have hB4 : Below w1.heap.size w1 w4 := HBC.out.trans (grown_b H5C.out.r1 hg4 hzC)
                  have hz4 := hB4.size
                  have hbD : Below w4.heap.size w4 (w4.alloc (.cells #[.string nm] 9)) := (Below.refl _ _).alloc (Nat.le_refl _) _
                  have H5D := Lib.hid (h54.below hbD)
                  have hzD : w1.heap.size ≤ (w4.alloc (.cells #[.string nm] 9)).heap.size := by simp; omega
                  have HBD := Lib.hid (hB4.trans (hbD.mono hz4))
                  clear h54 hB4 hbD ho4 hg4 hn4 H5C HBC y0 y1 y2 y3 y4
                  go_wp2_with (at_builtin; refine app_s5 rfl _ _ rfl w1.heap.size u10 (z.st.map (·.name)) nm rfl H5D.out.r2 hzD (by omega) w4.heap.size rfl (by simp [go_sem]) ?_; intro v2' w5 ho5 hg5 hn5; refine Hid.out ?_)
                  refine Lib.hid ?_
                  have h55 := H5D.out.add2 ho5 hg5 hn5
                  have hB5 : Below w1.heap.size w1 w5 := HBD.out.trans (grown_b H5D.out.r2 hg5 hzD)
                  have hz5 := hB5.size
                  have hkw : IntKind.i64.wrap ((k : Int) + 1) = (k : Int) + 1 := IntWalk.i64_in _ (by omega)
                  have hbE : Below w5.heap.size w5 (w5.alloc (.cells #[.int .i64 ((k : Int) + 1)] 3)) := (Below.refl _ _).alloc (Nat.le_refl _) _
                  have H5E := Lib.hid (h55.below hbE)
                  have hzE : w1.heap.size ≤ (w5.alloc (.cells #[.int .i64 ((k : Int) + 1)] 3)).heap.size := by simp; omega
                  have HBE := Lib.hid (hB5.trans (hbE.mono hz5))
                  clear h55 hB5 hbE ho5 hg5 hn5 H5D HBD
                  go_wp2_with (at_builtin; refine app_i5 rfl _ _ rfl w1.heap.size u13 (z.st.map (·.line)) ((k : Int) + 1) rfl H5E.out.r5 hzE (by omega) w5.heap.size rfl (by simp [go_sem]) ?_; intro v5' w6 ho6 hg6 hn6; have H5F := Lib.hid (H5E.out.add5 ho6 hg6 hn6); have HB6 := Lib.hid (HBE.out.trans (grown_b H5E.out.r5 hg6 hzE)); clear ho6 hg6 hn6)
                  go_roundw
                  case rel =>
                    refine ⟨k + 1, { z with st := z.st ++ [⟨c', 1 + k, nm⟩] }, by omega, by go_num, ⟨(HGo.out _ HZ.out).1, (HGo.out _ HZ.out).2, by simp; omega, by simp; omega, lines_snoc HS.out.2.2.2.2 (by show 1 ≤ 1 + (k : Int); omega)⟩, ?_, HB6.out⟩
                    have e := H5F.out
                    rw [show (k : Int) + 1 = 1 + k from by omega] at e
                    simpa using e
                  case measure => simp [intOf]; omega
          · obtain rfl : k = R.length := by omega
            have hki : ¬ (R.length : Int) < (R.length : Int) := by omega
            have hSS := HS.out
            rw [List.take_length] at hSS
            obtain ⟨hbn, hsim, hlz, hlp, hln⟩ := hSS
            have HBu := Lib.hid (HOk.out HNC.out hbn)
            obtain ⟨p, hp⟩ : ∃ p, p = rds prg0 (nums 1 R) := ⟨_, rfl⟩
            rw [← hp] at hsim HBu
            have hst := hsim.st
            have HSim := Lib.hid hsim
            have HLn := Lib.hid hln
            clear hp hbn hsim hln HS HOk HBa HNC HSz
            have hB' : Below w.heap.size w wo := hb1.trans (hB.mono hb1.size)
            obtain ⟨sp1, cap1, rfl⟩ := row_form (by have := h5.r1; rwa [List.length_map] at this)
            obtain ⟨sp2, cap2, rfl⟩ := row_form (by have := h5.r2; rwa [List.length_map] at this)
            obtain ⟨sp3, cap3, rfl⟩ := row_form (by have := h5.r3; rwa [List.length_map] at this)
            obtain ⟨sp4, cap4, rfl⟩ := row_form (by have := h5.r4; rwa [List.length_map] at this)
            obtain ⟨sp5, cap5, rfl⟩ := row_form (by have := h5.r5; rwa [List.length_map] at this)
            have HP1 : Hid (∀ j (h : j < z.st.length), ∃ g1, sp1 = some ⟨g1, 0, none⟩ ∧ g1 < wo.heap.size ∧ wo.cell? ⟨g1, j * 5, none⟩ = some (.int .i64 z.st[j].c.op) ∧ wo.cell? ⟨g1, j * 5 + 1, none⟩ = some (.int .i64 z.st[j].c.a) ∧ wo.cell? ⟨g1, j * 5 + 2, none⟩ = some (.int .i64 z.st[j].c.b) ∧ wo.cell? ⟨g1, j * 5 + 3, none⟩ = some (.int .i64 z.st[j].c.c) ∧ wo.cell? ⟨g1, j * 5 + 4, none⟩ = some (.int .i64 z.st[j].c.n)) := fun j hj => by
              obtain ⟨g1, c1, hv1, hl1, hc1⟩ := cd_cells h5.r1 (by rw [List.length_map]; omega)
              injection hv1 with e1 e2 e3
              have := hc1 j (by rw [List.length_map]; exact hj)
              simp only [List.getElem_map] at this
              exact ⟨g1, e1, hl1, this⟩
            have HP2 : Hid (∀ j (h : j < z.st.length), ∃ g2, sp2 = some ⟨g2, 0, none⟩ ∧ g2 < wo.heap.size ∧ wo.cell? ⟨g2, j, none⟩ = some (.string z.st[j].name)) := fun j hj => by
              obtain ⟨g3, c3, hv3, hl3, _, hc3⟩ := sts_cells h5.r2 (by rw [List.length_map]; omega)
              injection hv3 with e1 e2 e3
              refine ⟨g3, e1, hl3, ?_⟩
              have := hc3 j (by rw [List.length_map]; exact hj)
              simpa using this
            have HP3 : Hid (∀ j (h : j < z.PL.length), ∃ g3, sp3 = some ⟨g3, 0, none⟩ ∧ g3 < wo.heap.size ∧ wo.cell? ⟨g3, j, none⟩ = some (.string (tB z.PL[j].1))) := fun j hj => by
              obtain ⟨g3, c3, hv3, hl3, _, hc3⟩ := sts_cells h5.r3 (by rw [List.length_map]; omega)
              injection hv3 with e1 e2 e3
              refine ⟨g3, e1, hl3, ?_⟩
              have := hc3 j (by rw [List.length_map]; exact hj)
              simpa using this
            have HP4 : Hid (∀ j (h : j < z.PL.length), ∃ g4, sp4 = some ⟨g4, 0, none⟩ ∧ g4 < wo.heap.size ∧ wo.cell? ⟨g4, j, none⟩ = some (.int .i64 z.PL[j].2)) := fun j hj => by
              obtain ⟨g4, c4, hv4, hl4, hc4⟩ := iv_cells h5.r4 (by rw [List.length_map]; omega)
              injection hv4 with e1 e2 e3
              refine ⟨g4, e1, hl4, ?_⟩
              have := hc4 j (by rw [List.length_map]; exact hj)
              simpa using this
            have HP5 : Hid (∀ j (h : j < z.st.length), ∃ g5, sp5 = some ⟨g5, 0, none⟩ ∧ g5 < wo.heap.size ∧ wo.cell? ⟨g5, j, none⟩ = some (.int .i64 z.st[j].line)) := fun j hj => by
              obtain ⟨g4, c4, hv4, hl4, hc4⟩ := iv_cells h5.r5 (by rw [List.length_map]; omega)
              injection hv4 with e1 e2 e3
              refine ⟨g4, e1, hl4, ?_⟩
              have := hc4 j (by rw [List.length_map]; exact hj)
              simpa using this
            have HZL : Hid (p.st = z.st) := hst
            clear h5 hB hst
            go_wp2_with fail
            go_loopw [23, 24, 129] (fun ov bv iv wr => ∃ (i : Nat) (u : ByteArray) (bd : Int), i ≤ z.st.length ∧ iv = .int .i64 i ∧ ov = .string u ∧ bv = .int .i64 bd ∧ ((bd = 0 ∧ (∀ j, j < i → okN p.D (p.st.getD j ste0) = true) ∧ u = tB (bsU p i)) ∨ (0 < bd ∧ ∃ j, j < i ∧ (∀ j', j' < j → okN p.D (p.st.getD j' ste0) = true) ∧ okN p.D (p.st.getD j ste0) = false ∧ bd = (p.st.getD j ste0).line)) ∧ Below wo.heap.size wo wr) (fun _ _ iv _ => z.st.length - (intOf iv).toNat)
            case atStart => exact ⟨0, ⟨#[]⟩, 0, by omega, rfl, rfl, rfl, .inl ⟨rfl, fun j hj => by omega, by unfold bsU; rfl⟩, Below.refl _ _⟩
            case round =>
              obtain ⟨i, u, bd, hi, rfl, rfl, rfl, hbd, hBr⟩ := hrel
              have HBd := Lib.hid hbd
              have hzr := hBr.size
              clear hbd
              by_cases hil : i < z.st.length
              · have hii : (i : Int) < (z.st.length : Int) := by omega
                obtain ⟨g1, rfl, hg1l, y0, y1, y2, y3, y4⟩ := HP1.out i hil
                obtain ⟨g2, rfl, hg2l, yn⟩ := HP2.out i hil
                obtain ⟨g5, rfl, hg5l, yl⟩ := HP5.out i hil
                replace y0 := (hBr.cell (p := ⟨g1, i * 5, none⟩) hg1l).trans y0
                replace y1 := (hBr.cell (p := ⟨g1, i * 5 + 1, none⟩) hg1l).trans y1
                replace y2 := (hBr.cell (p := ⟨g1, i * 5 + 2, none⟩) hg1l).trans y2
                replace y3 := (hBr.cell (p := ⟨g1, i * 5 + 3, none⟩) hg1l).trans y3
                replace y4 := (hBr.cell (p := ⟨g1, i * 5 + 4, none⟩) hg1l).trans y4
                have hxm : z.st[i] ∈ z.st := List.getElem_mem hil
                have hgd : p.st.getD i ste0 = z.st[i] := by rw [HZL.out, List.getD_eq_getElem?_getD, List.getElem?_eq_getElem hil]; rfl
                have hfi := fnd_isa HSim.out (by omega) i z.st[i] hxm hil
                have hln := HLn.out z.st[i] hxm
                obtain ⟨x, hx⟩ : ∃ x, x = z.st[i] := ⟨_, rfl⟩
                rw [← hx] at y0 y1 y2 y3 y4 yn yl hgd hfi hln
                have HGd := Lib.hid hgd
                have HFi := Lib.hid hfi
                clear hx hxm hgd hfi
                obtain ⟨wo2, rfl⟩ : ∃ wo2, wo2 = wr := ⟨_, rfl⟩
                have hbA : Below wo2.heap.size wo2 (wo2.alloc (.cells #[.int .i64 x.c.op, .int .i64 x.c.a, .int .i64 x.c.b, .int .i64 x.c.c, .int .i64 x.c.n] 24)) := (Below.refl _ _).alloc (Nat.le_refl _) _
                have hA0 := At5.new wo2 x.c 24
                have yn2 := (hbA.cell (p := ⟨g2, i, none⟩) (by show g2 < wo2.heap.size; omega)).trans ((hBr.cell (p := ⟨g2, i, none⟩) hg2l).trans yn)
                have HBr := Lib.hid hBr
                clear hBr
                go_upto_region 42 with fail
                generalize hWA : wo2.alloc (.cells #[.int .i64 x.c.op, .int .i64 x.c.a, .int .i64 x.c.b, .int .i64 x.c.c, .int .i64 x.c.n] 24) = WA at hbA hA0 yn2 ⊢
                clear hWA y0 y1 y2 y3 y4
                go_wp2_with fail
                go_loopw [27, 141] (fun fv jv wq => ∃ j : Nat, j ≤ z.PL.length ∧ jv = .int .i64 j ∧ fv = .bool (fndJ z.PL i x j).1 ∧ At5 wq wo2.heap.size (fndJ z.PL i x j).2 ∧ Below wo2.heap.size wo2 wq) (fun _ jv _ => z.PL.length - (intOf jv).toNat)
                case atStart => exact ⟨0, by omega, rfl, rfl, hA0, hbA⟩
                case round =>
                  clear hA0 hbA yn2
                  obtain ⟨j, hj, rfl, rfl, hAq, hBq⟩ := hrel
                  have hzq := hBq.size
                  have ynq := (hBq.cell (p := ⟨g2, i, none⟩) (by show g2 < wo2.heap.size; omega)).trans ((HBr.out.cell (p := ⟨g2, i, none⟩) hg2l).trans yn)
                  by_cases hjl : j < z.PL.length
                  · have hji : (j : Int) < (z.PL.length : Int) := by omega
                    obtain ⟨g3, rfl, hg3l, yp⟩ := HP3.out j hjl
                    obtain ⟨g4, rfl, hg4l, yv⟩ := HP4.out j hjl
                    have ypq := (hBq.cell (p := ⟨g3, j, none⟩) (by show g3 < wo2.heap.size; omega)).trans ((HBr.out.cell (p := ⟨g3, j, none⟩) hg3l).trans yp)
                    have yvq := (hBq.cell (p := ⟨g4, j, none⟩) (by show g4 < wo2.heap.size; omega)).trans ((HBr.out.cell (p := ⟨g4, j, none⟩) hg4l).trans yv)
                    have hpos := HSim.out.pos z.PL[j] (List.getElem_mem hjl)
                    have hgj : z.PL.getD j ([], 0) = z.PL[j] := by rw [List.getD_eq_getElem?_getD, List.getElem?_eq_getElem hjl]; rfl
                    have HNx : Hid (fndJ z.PL i x (j + 1) = if (fndJ z.PL i x j).1 = false ∧ z.PL[j].1 = x.name.data.toList then (true, { (fndJ z.PL i x j).2 with n := z.PL[j].2 - i - 1 }) else fndJ z.PL i x j) := by
                      simp only [Hid]; rw [fndJ, hgj]
                    have hcm : ((tB z.PL[j].1).toList == x.name.toList) = decide (z.PL[j].1 = x.name.data.toList) := by rw [toL_beq, tB_list]
                    clear hgj yp yv
                    generalize z.PL[j].2 = v at yvq hpos HNx
                    generalize hpj : z.PL[j].1 = pj at ypq hcm HNx
                    clear hpj
                    rcases hfj : fndJ z.PL i x j with ⟨fb, fc⟩
                    rw [hfj] at hAq HNx
                    dsimp only at hAq HNx ⊢
                    clear hfj
                    generalize tB pj = xq at ypq hcm
                    cases fb with
                    | true =>
                      have HN2 : Hid (fndJ z.PL i x (j + 1) = (true, fc)) := by simp only [Hid]; rw [HNx.out]; simp
                      have HAq := Lib.hid hAq
                      have HBq := Lib.hid hBq
                      clear hAq hBq HNx hcm
                      go_wp2
                      go_roundw
                      case rel => exact ⟨j + 1, by omega, by go_num, by rw [HN2.out], by rw [HN2.out]; exact HAq.out, HBq.out⟩
                      case measure => simp [intOf]; omega
                    | false =>
                      by_cases hpe : pj = x.name.data.toList
                      · have HN2 : Hid (fndJ z.PL i x (j + 1) = (true, { fc with n := v - i - 1 })) := by simp only [Hid]; rw [HNx.out, if_pos ⟨rfl, hpe⟩]
                        rw [decide_eq_true hpe] at hcm
                        have hf4 := hAq.2.2 4
                        have hd4 := hAq.2.1.2.2.2.2
                        have HAq := Lib.hid hAq
                        have HBq := Lib.hid hBq
                        clear hAq hBq HNx hpe
                        go_wp2
                        go_roundw
                        case rel => exact ⟨j + 1, by omega, by go_num, by rw [HN2.out], by rw [HN2.out]; exact HAq.out.put4 _, HBq.out.setCell (p := ⟨wo2.heap.size, 4, none⟩) (Nat.le_refl _) _⟩
                        case measure => simp [intOf]; omega
                      · have HN2 : Hid (fndJ z.PL i x (j + 1) = (false, fc)) := by simp only [Hid]; rw [HNx.out, if_neg (fun h => hpe h.2)]
                        rw [decide_eq_false hpe] at hcm
                        have HAq := Lib.hid hAq
                        have HBq := Lib.hid hBq
                        clear hAq hBq HNx hpe
                        go_wp2
                        go_roundw
                        case rel => exact ⟨j + 1, by omega, by go_num, by rw [HN2.out], by rw [HN2.out]; exact HAq.out, HBq.out⟩
                        case measure => simp [intOf]; omega
                  · obtain rfl : j = z.PL.length := by omega
                    have hji : ¬ (z.PL.length : Int) < (z.PL.length : Int) := by omega
                    rw [HFi.out.1]
                    have ylq := (hBq.cell (p := ⟨g5, i, none⟩) (by show g5 < wo2.heap.size; omega)).trans ((HBr.out.cell (p := ⟨g5, i, none⟩) hg5l).trans yl)
                    have HBw : Hid (Below wo.heap.size wo wr) := HBr.out.trans (hBq.mono hzr)
                    rcases hok : okN p.D x with _ | _
                    · rcases HBd.out with ⟨rfl, hall, hu⟩ | ⟨hb0, j', hj', hall, hbad, hline⟩
                      · have HNew : Hid ((0 < x.line ∧ ∃ j, j < i + 1 ∧ (∀ j', j' < j → okN p.D (p.st.getD j' ste0) = true) ∧ okN p.D (p.st.getD j ste0) = false ∧ x.line = (p.st.getD j ste0).line)) := ⟨by omega, i, by omega, hall, by rw [HGd.out]; exact hok, by rw [HGd.out]⟩
                        have hl0 : (x.line == 0) = false := by simp only [beq_eq_false_iff_ne]; omega
                        clear hall hu hok hAq hBq
                        go_wp2
                        go_roundw
                        case rel => exact ⟨i + 1, u, x.line, by omega, by go_num, rfl, rfl, .inr HNew.out, HBw.out⟩
                        case measure => simp [intOf]; omega
                      · have HNew : Hid ((0 < bd ∧ ∃ j, j < i + 1 ∧ (∀ j', j' < j → okN p.D (p.st.getD j' ste0) = true) ∧ okN p.D (p.st.getD j ste0) = false ∧ bd = (p.st.getD j ste0).line)) := ⟨hb0, j', by omega, hall, hbad, hline⟩
                        have hl0 : (bd == 0) = false := by simp only [beq_eq_false_iff_ne]; omega
                        clear hall hbad hline hok hAq hBq hb0 hj'
                        go_wp2
                        go_roundw
                        case rel => exact ⟨i + 1, u, bd, by omega, by go_num, rfl, rfl, .inr HNew.out, HBw.out⟩
                        case measure => simp [intOf]; omega
                    · rcases HBd.out with ⟨rfl, hall, hu⟩ | ⟨hb0, j', hj', hall, hbad, hline⟩
                      · obtain ⟨hfx, hrx⟩ := HFi.out.2 hok
                        rw [hfx] at hAq
                        have HEn : Hid (∀ V, Calls Tryz.prog 31 #[(fixN p.D i x).v] V fun e w' => e = .returned (.string (q4s (bytesC (fixN p.D i x)))) ∧ Below V.heap.size V w') := fun V => rEncode_any _ V hrx
                        have HNu : Hid (u ++ q4s (bytesC (fixN p.D i x)) = tB (bsU p (i + 1))) := by
                          simp only [Hid]
                          rw [hu, bsU_succ, HGd.out, show q4s (bytesC (fixN p.D i x)) = tB (toU (q4l (bytesC (fixN p.D i x)))) from rfl, tB_app]
                        have HNew : Hid (∀ j, j < i + 1 → okN p.D (p.st.getD j ste0) = true) := fun j hj => by
                          by_cases e : j = i
                          · subst e; rw [HGd.out]; exact hok
                          · exact hall j (by omega)
                        have hus : u.size ≤ 40000 := by rw [hu, tB_size, bsU_len]; omega
                        unfold Cod.v at HEn
                        obtain ⟨_, ⟨d0, d1, d2, d3, d4⟩, _⟩ := hAq
                        generalize fixN p.D i x = cf at HEn HNu d0 d1 d2 d3 d4
                        have hq4 : (q4s (bytesC cf)).size = 4 := by show (toU (q4l (bytesC cf))).length = 4; simp [toU, q4l]
                        generalize q4s (bytesC cf) = eq4 at HEn HNu hq4
                        have hju : u.size + eq4.size ≤ 9223372036854775807 := by omega
                        clear hall hu hok hfx hrx
                        go_wp2_with (first | (go_at_call 31; refine (HEn.out _).mono ?_; rintro e w7 ⟨rfl, hb7⟩))
                        go_roundw
                        case rel => exact ⟨i + 1, u ++ eq4, 0, by omega, by go_num, rfl, rfl, .inl ⟨rfl, HNew.out, HNu.out⟩, HBw.out.trans (hb7.mono (by have := HBw.out.size; omega))⟩
                        case measure => simp [intOf]; omega
                      · have HNew : Hid ((0 < bd ∧ ∃ j, j < i + 1 ∧ (∀ j', j' < j → okN p.D (p.st.getD j' ste0) = true) ∧ okN p.D (p.st.getD j ste0) = false ∧ bd = (p.st.getD j ste0).line)) := ⟨hb0, j', by omega, hall, hbad, hline⟩
                        have hl0 : (bd == 0) = false := by simp only [beq_eq_false_iff_ne]; omega
                        clear hall hbad hline hok hAq hBq hb0 hj'
                        go_wp2
                        go_roundw
                        case rel => exact ⟨i + 1, u, bd, by omega, by go_num, rfl, rfl, .inr HNew.out, HBw.out⟩
                        case measure => simp [intOf]; omega
              · obtain rfl : i = z.st.length := by omega
                have hii : ¬ (z.st.length : Int) < (z.st.length : Int) := by omega
                have HX : Hid (Below w.heap.size w wr) := hB'.trans (hBr.mono hB'.size)
                rcases HBd.out with ⟨rfl, hall, hu⟩ | ⟨hb0, j', hj', hall, hbad, hline⟩
                · have HR : Hid (buildR s = #[.string u, .int .i64 0, .int .i64 0]) := by
                    simp only [Hid]
                    rw [HBu.out, bytesR_good (fun i hi => hall i (by rw [← HZL.out]; exact hi)), hu, HZL.out]; rfl
                  clear hall hu hBr
                  go_wp2
                  go_ret3
                  exact ⟨by rw [HR.out]; rfl, HX.out⟩
                · have HR : Hid (buildR s = #[.string ⟨#[]⟩, .int .i64 bd, .int .i64 4]) := by
                    simp only [Hid]
                    rw [HBu.out, bytesR_bad (by rw [HZL.out]; exact hj') hall hbad, hline]
                  clear hall hbad hline hBr
                  go_wp2
                  go_ret3
                  exact ⟨by rw [HR.out]; rfl, HX.out⟩
end Go.Proofs.YtgldkmabhmlijaaGreatDoor
/- IsaBuilds walks. -/
namespace Go.Proofs.YtgldkmabhmlijaaGreatDoor
open Go.RowKit Go.Sort
theorem buildR_three (s : ByteArray) : ∃ a b c, buildR s = #[.string a, .int .i64 b, .int .i64 c] := by
  unfold buildR
  split
  · exact ⟨_, _, _, rfl⟩
  · split
    · exact ⟨_, _, _, rfl⟩
    · exact bytesR_three _
set_option maxRecDepth 100000 in
set_option maxHeartbeats 4000000 in
theorem IsaBuilds_long (hL : Lives) (s : ByteArray) (w : World) (hE : Env w) (hs : 4000 < s.size) : Calls Tryz.prog 4 #[.string s] w fun e w' => e = .returned (.bool true) ∧ Below w.heap.size w w' := by
  have HL := Lib.hid hL
  have hsi : (4000 : Int) < (s.size : Int) := by omega
  clear hL hs
  go_enter Tryz.func4, Tryz.ntmps4
  go_wp2_with (first | (go_at_call 5; refine (HL.out _ hE).mono ?_; rintro e w1 ⟨rfl, hb1⟩))
  go_ret
  exact ⟨rfl, hb1⟩
set_option maxRecDepth 100000 in
set_option maxHeartbeats 4000000 in
theorem IsaBuilds_short (hL : Lives) (s : ByteArray) (w : World) (hE : Env w) (hs : s.size ≤ 4000) : Calls Tryz.prog 4 #[.string s] w fun e w' => e = .returned (.bool true) ∧ Below w.heap.size w w' := by
  have HL := Lib.hid hL
  have hsi : ¬ (4000 : Int) < (s.size : Int) := by omega
  have H1 := Lib.hid (fun W hW => Build_any s W hW (by omega))
  have H2 := Lib.hid (fun W => rBuild_any s W hs)
  obtain ⟨a, b, c, hab⟩ := buildR_three s
  rw [hab] at H1 H2
  have haa : (a.toList == a.toList) = true := by simp
  clear hL hs hab
  go_enter Tryz.func4, Tryz.ntmps4
  go_wp2_with (first | (go_at_call 5; refine (HL.out _ hE).mono ?_; rintro e w1 ⟨rfl, hb1⟩; have hE1 := hE.below hb1) | (go_at_call 9; refine (H1.out _ hE1).mono ?_; rintro e w2 ⟨rfl, hb2⟩) | (go_at_call 10; refine (H2.out _).mono ?_; rintro e w3 ⟨rfl, hb3⟩))
  go_ret
  have q2 := hb1.trans (hb2.mono hb1.size)
  exact ⟨rfl, q2.trans (hb3.mono q2.size)⟩
theorem IsaBuilds_any (hL : Lives) (s : ByteArray) (w : World) (hE : Env w) : Calls Tryz.prog 4 #[.string s] w fun e w' => e = .returned (.bool true) ∧ Below w.heap.size w w' := by
  by_cases hs : 4000 < s.size
  · exact IsaBuilds_long hL s w hE hs
  · exact IsaBuilds_short hL s w hE (by omega)
end Go.Proofs.YtgldkmabhmlijaaGreatDoor
namespace Go.Proofs.YtgldkmabhmlijaaGreatDoor.isaBuilds
open Go.ChangeShapes Go.WideShapes Go.ChangeAt Go.RowKit

set_option maxRecDepth 100000 in
theorem contract (H : Type) (enc : TypeId × Value → H) (W : World) (base : Nat) (args : Array Value) (ds gs : List (DataW H)) (before : List MemPlace)
    (hval : ∀ (j : Nat) t v, Tryz.f4.params[j]? = some t → args[j]? = some v → Value.okWide Tryz.prog W .any base t v)
    (hW : DataW.Whole enc Tryz.prog Tryz.f4.params.toList Rows.isaBuildsSpec.vars false W args.toList ds gs before) (hE : Env W) :
    Calls Tryz.prog 4 args W fun e W' => ∃ v, e = .returned v ∧ Rows.isaBuildsSpec.post enc Tryz.prog Tryz.f4 false true false false W args v W' := by
  have hW' := hW
  obtain ⟨p, q, hA0, hV, rfl, hfz, hnd⟩ := hW
  have hA : DataW.TrodAll enc Tryz.prog W 0 (fun _ => true) true Tryz.f4.params.toList args.toList ds p := hA0
  obtain ⟨rfl, rfl⟩ := trodVars_none hV
  rw [Tryz.params4] at hA hval
  obtain ⟨v0, vs0, d0, ds0, p0, q0, hargs, rfl, rfl, h0, r0⟩ := trodAll_cons hA
  obtain ⟨rfl, rfl, rfl⟩ := trodAll_nil r0
  obtain rfl : args = #[v0] := by cases args; simp_all
  obtain ⟨x0, rfl, rfl, rfl, hm0⟩ := Go.ChangeMaps.open_string Tryz.underlying9 (hval 0 9 v0 rfl rfl) h0
  refine (IsaBuilds_any lives_any x0 W hE).mono fun e W' ⟨he, hb⟩ => ?_
  subst he
  exact ⟨_, rfl, law_post (by kernel_rfl) (by rw [Tryz.params4]; intro t ht; simp at ht; subst ht; exact ⟨by kernel_rfl, of_decide_eq_true (by kernel_rfl)⟩) rfl hW' rfl rfl rfl hb⟩

theorem laid_same : Rows.isaBuildsRow.laid = laidI := rfl
theorem reads (os : Os) {H : Type} (enc : TypeId × Value → H) : ∃ places, DataW.whole enc Tryz.prog ((wit os).forCall (fun _ _ => 0) ⟨#[], #[.string ⟨#[]⟩], []⟩).memory Tryz.f4.params.toList Rows.isaBuildsSpec.vars false #[Value.string ⟨#[]⟩].toList 8 = some ([.lit (.string [])], [], places) :=
  ⟨[], by kernel_rfl⟩

set_option maxRecDepth 100000 in
theorem lifted (os : Os) (started : os.Started) (H : Type) (enc : TypeId × Value → H) (F : Stop.Interp) :
    ReturnsInHanded {} Tryz.checked os 4 .any ((OpenSpec.ofChange Rows.isaBuildsSpec).preRow enc Tryz.prog Tryz.f4 Rows.isaBuildsRow.domain false Rows.isaBuildsRow.laid) (((OpenSpec.ofChange Rows.isaBuildsSpec).at F).post enc Tryz.prog Tryz.f4 false true false false) := by
  obtain ⟨places, hx⟩ := reads os enc
  refine returnsInHanded_of_row (C := Tryz.checked) (s := OpenSpec.ofChange Rows.isaBuildsSpec) own started (by kernel_rfl) Tryz.func4
    (witness_row_atRef (enc := enc) (C := Tryz.checked) false (wit os) #[.string ⟨#[]⟩] rfl (by kernel_rfl) (by kernel_rfl) (by kernel_rfl)
      (OpenSpec.preRow_of_cond 8 hx (by kernel_rfl) (fun k hk => by cases hk) (by kernel_rfl) (wit_met os _))) ?_
  intro W base args ds gs before hval hW _ _ _ hL hS _
  exact contract H enc W base args ds gs before hval hW (env_of hL hS)

theorem said : Rows.IsaBuildsSaid :=
  OpenClaim.holds_of_cond 4 Tryz.f4 rfl rfl rfl rfl rfl rfl rfl ⟨rfl, rfl, rfl, rfl, rfl⟩ rfl rfl rfl rfl rfl (by kernel_rfl) Tryz.func4 (by kernel_rfl)
    (of_decide_eq_true (by kernel_rfl)) (by unfold Func.isWrapper; first | (rw [if_pos (by decide +kernel)]; kernel_rfl) | (rw [if_neg (by decide +kernel)]; exact ⟨rfl, rfl⟩))
    (fun os started H enc _ F => by rw [OpenClaim.pre_eq_preRow]; exact lifted os started H enc F)

theorem plain (f : FuncId) (fn : Func) (hf : Tryz.pinned.checked.prog.funcNamed Rows.isaBuildsRow.func = some f) (hfn : Tryz.pinned.checked.prog.funcs[f]? = some fn) :
    true = Tryz.pinned.checked.prog.looks [] ∧ ∀ (j : Nat) t, fn.params[j]? = some t → Tryz.pinned.checked.prog.wantsStandIn t = false := by
  obtain rfl : f = 4 := Option.some.inj ((show Tryz.prog.funcNamed Rows.isaBuildsRow.func = some 4 by kernel_rfl).symm.trans hf) |>.symm
  obtain rfl : fn = Tryz.f4 := (Option.some.inj (Tryz.func4.symm.trans hfn)).symm
  refine ⟨by kernel_rfl, fun j t ht => ?_⟩
  rw [Tryz.params4] at ht
  have hm := Array.mem_of_getElem? ht
  simp at hm
  subst hm
  exact (show Tryz.prog.wantsStandIn 9 = false by kernel_rfl)

theorem card : Rows.IsaBuildsCardSaid :=
  Claim7.holds_tied_plain_at .later [] _ _ _ _ said (fun _ h => by cases h) (by kernel_rfl) (fun _ h => by cases h) isaBuilds_row_tie rfl ⟨rfl, rfl⟩ (by kernel_rfl) rfl plain (by kernel_rfl)
end Go.Proofs.YtgldkmabhmlijaaGreatDoor.isaBuilds

namespace Go.Proofs.YtgldkmabhmlijaaGreatDoor
theorem isaBuilds_holds : Rows.IsaBuildsCardSaid := isaBuilds.card
end Go.Proofs.YtgldkmabhmlijaaGreatDoor
