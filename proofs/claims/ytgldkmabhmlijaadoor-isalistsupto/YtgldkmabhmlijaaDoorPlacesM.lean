/- What Build of package isa makes of the text of IsaPlaces, as plain facts. -/
import Derived.Test.YtgldkmabhmlijaaDoorJoins
import Derived.Test.YtgldkmabhmlijaaDoorBackLaw
namespace Go.Proofs.YtgldkmabhmlijaaDoor
open Go.RowKit Go.Sort Go.Shelf
def herL : List UInt8 := [104, 101, 114, 101]
def goL : List UInt8 := [103, 111, 32, 104, 101, 114, 101]
def zeroL : List UInt8 := [122, 101, 114, 111, 32, 114, 51, 32, 104, 101, 114, 101]
def plaL : List UInt8 := [104, 101, 114, 101, 58]
theorem go_par : rpar goL = some (⟨22, 0, 0, 0, 0⟩, herL) := rpar_named ⟨22, 0, 0, 0, 0⟩ (by decide) (.inl (by decide)) rfl herL (by decide)
theorem itoa3 : Lib.itoa 3 = [51] := by decide +kernel
theorem zero_par : rpar zeroL = some (⟨23, 3, 0, 0, 0⟩, herL) := by
  have h := rpar_named ⟨23, 3, 0, 0, 0⟩ (by decide) (.inr (by decide)) rfl herL (by decide)
  rwa [show txV ⟨23, 3, 0, 0, 0⟩ herL = zeroL from by unfold txV; simp only [show sh 23 = 6 from by decide, itoa3]; decide] at h
theorem emptyB : (⟨#[]⟩ : ByteArray).toList.isEmpty = true := by rw [ByteArray.toList_eq]; rfl
theorem hereB : (tB herL).toList.isEmpty = false := noEmpty (by decide)
theorem hereK : WideAt.IsKeyLit (keyS (tB herL)) := by unfold keyS; trivial
theorem read_blanks : ∀ (b : Nat) (p : Prg) (n : Int), badL p (nums n (List.replicate b [])) = none ∧ rds p (nums n (List.replicate b [])) = p
  | 0, p, n => ⟨rfl, rfl⟩
  | b + 1, p, n => by
    have hq : readS p n (tB []) = (true, p) := by unfold readS; rw [if_pos (show (tB []).toList.isEmpty = true from emptyB)]
    rw [List.replicate_succ, nums, badL, rds_cons, hq]
    exact read_blanks b p (n + 1)
theorem read_place1 (st : List Ste) (n : Int) : readS ⟨st, .map []⟩ n (tB plaL) = (true, ⟨st, (DataW.map []).put (keyS (tB herL)) (.lit (.int .i64 st.length))⟩) := by
  have h1 : (tB plaL).toList.isEmpty = false := noEmpty (by decide)
  have h2 : isPl (tB plaL) = true := by decide
  have h3 : dropC (tB plaL) = tB herL := by decide
  have h4 : plOk (.map []) (tB herL) = true := by decide
  unfold readS
  rw [if_neg (by rw [h1]; decide), if_pos h2, h3, h4]
  unfold plPut
  rw [if_pos h4]
theorem badL_seq {p : Prg} {a b : List (Int × ByteArray)} (h1 : badL p a = none) (h2 : badL (rds p a) b = none) : badL p (a ++ b) = none := by rw [badL_append, h1]; exact h2
theorem unl_blank : ∀ b, unl (List.replicate b []) = List.replicate b 10
  | 0 => rfl
  | b + 1 => by rw [List.replicate_succ, unl_cons, unl_blank b]; rfl
def linesP (B H : List Cod) (b : Nat) : List (List UInt8) := [goL] ++ (B.map textC ++ (List.replicate b [] ++ ([plaL] ++ H.map textC)))
def textP (B H : List Cod) (b : Nat) : List UInt8 := unl (linesP B H b) ++ zeroL
def stP (B H : List Cod) (b : Nat) : List Ste := [⟨⟨22, 0, 0, 0, 0⟩, 1, tB herL⟩] ++ (stes 2 B ++ (stes (2 + B.length + b + 1) H ++ [⟨⟨23, 3, 0, 0, 0⟩, 2 + B.length + b + 1 + H.length, tB herL⟩]))
def dP (B : List Cod) : DataW Unit := (DataW.map []).put (keyS (tB herL)) (.lit (.int .i64 ((1 + B.length : Nat) : Int)))
theorem textP_eq (B H : List Cod) (b : Nat) : textP B H b = goL ++ 10 :: (unl (B.map textC) ++ (List.replicate b 10 ++ (plaL ++ 10 :: unl (H.map textC)))) ++ zeroL := by
  unfold textP linesP
  rw [unl_append, unl_append, unl_append, unl_append, unl_blank]
  simp [unl]
theorem linesP_ok (B H : List Cod) (b : Nat) (hB : ∀ c ∈ B, rightC c = true) (hH : ∀ c ∈ H, rightC c = true) : ∀ l ∈ linesP B H b, (10 : UInt8) ∉ l := by
  intro l hl h10
  unfold linesP at hl
  rcases List.mem_append.1 hl with hl | hl
  · rw [List.mem_singleton.1 hl] at h10; exact absurd h10 (by decide)
  rcases List.mem_append.1 hl with hl | hl
  · obtain ⟨c, hc, rfl⟩ := List.mem_map.1 hl; exact (text_bytes c (hB c hc) 10 h10).2 rfl
  rcases List.mem_append.1 hl with hl | hl
  · rw [(List.mem_replicate.1 hl).2] at h10; exact absurd h10 (by decide)
  rcases List.mem_append.1 hl with hl | hl
  · rw [List.mem_singleton.1 hl] at h10; exact absurd h10 (by decide)
  · obtain ⟨c, hc, rfl⟩ := List.mem_map.1 hl; exact (text_bytes c (hH c hc) 10 h10).2 rfl
theorem readP (B H : List Cod) (b : Nat) (hB : ∀ c ∈ B, rightC c = true) (hH : ∀ c ∈ H, rightC c = true) :
    badL prg0 (nums 1 (linesP B H b ++ [zeroL])) = none ∧ rds prg0 (nums 1 (linesP B H b ++ [zeroL])) = ⟨stP B H b, dP B⟩ := by
  have g1 := read_line prg0 1 goL _ _ go_par (by decide) (by decide)
  have hp1 : (readS prg0 1 (tB goL)).2 = ⟨[⟨⟨22, 0, 0, 0, 0⟩, 1, tB herL⟩], .map []⟩ := by rw [g1]; rfl
  have g2 := read_codes B ⟨[⟨⟨22, 0, 0, 0, 0⟩, 1, tB herL⟩], .map []⟩ 2 hB
  have g3 := read_blanks b ⟨[⟨⟨22, 0, 0, 0, 0⟩, 1, tB herL⟩] ++ stes 2 B, .map []⟩ (2 + B.length)
  have g4 := read_place1 ([⟨⟨22, 0, 0, 0, 0⟩, 1, tB herL⟩] ++ stes 2 B) (2 + B.length + b)
  have hl4 : ([⟨⟨22, 0, 0, 0, 0⟩, 1, tB herL⟩] ++ stes 2 B : List Ste).length = 1 + B.length := by rw [List.length_append, stes_len]; rfl
  rw [hl4, show (DataW.map []).put (keyS (tB herL)) (.lit (.int .i64 ((1 + B.length : Nat) : Int))) = dP B from rfl] at g4
  have g5 := read_codes H ⟨[⟨⟨22, 0, 0, 0, 0⟩, 1, tB herL⟩] ++ stes 2 B, dP B⟩ (2 + B.length + b + 1) hH
  have g6 := read_line ⟨[⟨⟨22, 0, 0, 0, 0⟩, 1, tB herL⟩] ++ stes 2 B ++ stes (2 + B.length + b + 1) H, dP B⟩ (2 + B.length + b + 1 + H.length) zeroL _ _ zero_par (by decide) (by decide)
  have e0 : nums 1 (linesP B H b ++ [zeroL]) = (1, tB goL) :: (nums 2 (B.map textC) ++ (nums (2 + B.length) (List.replicate b []) ++ ((((2 : Int) + B.length + b, tB plaL) : Int × ByteArray) :: (nums (2 + B.length + b + 1) (H.map textC) ++ [(((2 : Int) + B.length + b + 1 + H.length, tB zeroL) : Int × ByteArray)])))) := by
    unfold linesP
    rw [List.append_assoc, List.append_assoc, List.append_assoc, List.append_assoc, List.singleton_append, nums, nums_append, nums_append, List.singleton_append, nums, nums_append, List.length_map, List.length_replicate, List.length_map]
    rfl
  rw [e0]
  constructor
  · rw [badL, g1]
    simp only [if_true]
    rw [show ({ prg0 with st := prg0.st ++ [⟨⟨22, 0, 0, 0, 0⟩, 1, tB herL⟩] } : Prg) = ⟨[⟨⟨22, 0, 0, 0, 0⟩, 1, tB herL⟩], .map []⟩ from rfl]
    refine badL_seq g2.1 ?_
    rw [g2.2]
    refine badL_seq g3.1 ?_
    rw [g3.2, badL, g4]
    simp only [if_true]
    refine badL_seq g5.1 ?_
    rw [g5.2, badL, g6]
    simp [badL]
  · rw [rds_cons, hp1, rds_append, g2.2, rds_append, g3.2, rds_cons, g4]
    rw [rds_append, g5.2, rds_cons, g6]
    unfold stP
    simp [rds]
theorem dP_has (B : List Cod) : Maps.has (dP B) (keyS (tB herL)) = true := Maps.has_put_same Maps.isMap_empty hereK _
theorem dP_at (B : List Cod) : atI (dP B) (tB herL) = ((1 + B.length : Nat) : Int) := by
  unfold atI dP
  rw [Maps.atKey_put_same Maps.isMap_empty hereK]
theorem stP_ok (B H : List Cod) (b : Nat) : ∀ x ∈ stP B H b, okN (dP B) x = true := by
  intro x hx
  unfold stP at hx
  have key : ∀ y : Ste, y.name = tB herL → okN (dP B) y = true := fun y hy => by unfold okN; rw [hy, dP_has]; simp
  have key2 : ∀ y : Ste, y.name = ⟨#[]⟩ → okN (dP B) y = true := fun y hy => by unfold okN; rw [hy, emptyB]; rfl
  rcases List.mem_append.1 hx with hx | hx
  · rw [List.mem_singleton.1 hx]; exact key _ rfl
  rcases List.mem_append.1 hx with hx | hx
  · exact key2 _ (stes_mem _ _ _ hx).1
  rcases List.mem_append.1 hx with hx | hx
  · exact key2 _ (stes_mem _ _ _ hx).1
  · rw [List.mem_singleton.1 hx]; exact key _ rfl
def encL4 (c : Cod) : List UInt8 := (q4s (bytesC c)).data.toList
theorem encL4_len (c : Cod) : (encL4 c).length = 4 := by simp [encL4, q4s, toU, q4l]
theorem flat_len (f : Nat → Cod) : ∀ l : List Nat, (l.flatMap fun i => encL4 (f i)).length = 4 * l.length
  | [] => rfl
  | x :: l => by rw [List.flatMap_cons, List.length_append, encL4_len, flat_len f l, List.length_cons]; omega
/-- THE FACT: what the text of IsaPlaces becomes. -/
theorem places_built (B H : List Cod) (b : Nat) (hB : ∀ c ∈ B, rightC c = true) (hH : ∀ c ∈ H, rightC c = true) (h1 : B.length ≤ 100) (h2 : H.length ≤ 100) (hb : b ≤ 4) :
    ∃ mid : List UInt8, mid.length = 4 * (B.length + H.length) ∧ buildR (tB (textP B H b)) = #[.string (tB (encL4 ⟨22, 0, 0, 0, B.length⟩ ++ (mid ++ encL4 ⟨23, 3, 0, 0, -(H.length : Int) - 1⟩))), .int .i64 0, .int .i64 0] := by
  obtain ⟨r1, r2⟩ := readP B H b hB hH
  have ha := allLn_lines (linesP B H b) zeroL (linesP_ok B H b hB hH) (by decide)
  have hlen : (nums 1 (linesP B H b ++ [zeroL])).length ≤ 1024 := by
    rw [nums_len]; unfold linesP; simp; omega
  have hs : (stP B H b).length = (B.length + H.length) + 1 + 1 := by unfold stP; simp [stes_len]; omega
  have hbu := build_of (s := tB (textP B H b)) ha hlen r1 r2 (stP_ok B H b)
  simp only at hbu
  rw [hs, bsU_range, List.range_succ, List.flatMap_append, List.range_succ_eq_map, List.flatMap_cons, List.flatMap_map] at hbu
  simp only [List.flatMap_cons, List.flatMap_nil, List.append_nil] at hbu
  refine ⟨(List.range (B.length + H.length)).flatMap fun i => encL4 (fixN (dP B) (i + 1) ((stP B H b).getD (i + 1) ste0)), by rw [flat_len]; simp, ?_⟩
  rw [hbu]
  have w1 : wrap64 ((1 + B.length : Nat) - (((0 : Nat) : Int) + 1)) = B.length := by rw [wrap64_id (by omega) (by omega)]; omega
  have w2 : wrap64 ((1 + B.length : Nat) - (((B.length + H.length + 1 : Nat) : Int) + 1)) = -(H.length : Int) - 1 := by rw [wrap64_id (by omega) (by omega)]; omega
  have f0 : fixN (dP B) 0 ((stP B H b).getD 0 ste0) = ⟨22, 0, 0, 0, B.length⟩ := by
    have : (stP B H b).getD 0 ste0 = ⟨⟨22, 0, 0, 0, 0⟩, 1, tB herL⟩ := by unfold stP; rfl
    rw [this]; unfold fixN
    rw [if_neg (show ¬ (tB herL).toList.isEmpty = true by rw [hereB]; decide)]
    simp only
    rw [dP_at, w1]
  have f1 : fixN (dP B) (B.length + H.length + 1) ((stP B H b).getD (B.length + H.length + 1) ste0) = ⟨23, 3, 0, 0, -(H.length : Int) - 1⟩ := by
    have : (stP B H b).getD (B.length + H.length + 1) ste0 = ⟨⟨23, 3, 0, 0, 0⟩, 2 + B.length + b + 1 + H.length, tB herL⟩ := by
      unfold stP
      rw [← List.append_assoc, ← List.append_assoc, List.getD_eq_getElem?_getD, List.getElem?_append_right (by simp [stes_len])]
      simp [stes_len]
    rw [this]; unfold fixN
    rw [if_neg (show ¬ (tB herL).toList.isEmpty = true by rw [hereB]; decide)]
    simp only
    rw [dP_at, w2]
  rw [f0, f1]
  rw [List.append_assoc]
  rfl
end Go.Proofs.YtgldkmabhmlijaaDoor
