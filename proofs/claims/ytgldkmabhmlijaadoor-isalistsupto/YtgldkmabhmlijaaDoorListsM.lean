/- Instructions' bytes, their texts, and the program of these texts: plain facts. -/
import Derived.Test.YtgldkmabhmlijaaDoorListC
import Derived.Test.YtgldkmabhmlijaaDoorPlacesM
import Derived.Test.YtgldkmabhmlijaaDoorCodeRow
import Derived.Test.YtgldkmabhmlijaaDoorDecodesLaw
namespace Go.Proofs.YtgldkmabhmlijaaDoor
open Go.RowKit Go.Sort Go.Shelf
/-- The first two hundred right ones among the first k. -/
def pi2 (l : List Cod) (k : Nat) : List Cod := ((l.take k).filter fun c => rightC c).take 200
theorem pi2_right (l : List Cod) (k : Nat) : ∀ c ∈ pi2 l k, rightC c = true := fun _ h => (List.mem_filter.1 (List.mem_of_mem_take h)).2
theorem pi2_len (l : List Cod) (k : Nat) : (pi2 l k).length ≤ 200 := List.length_take_le 200 _
theorem pi2_yes (l : List Cod) (k : Nat) (h : k < l.length) (hr : rightC l[k] = true) (hn : (pi2 l k).length < 200) : pi2 l (k + 1) = pi2 l k ++ [l[k]] := by
  unfold pi2 at hn ⊢
  rw [List.length_take] at hn
  rw [List.take_succ_eq_append_getElem h, List.filter_append]
  simp only [List.filter_cons, hr, if_true, List.filter_nil]
  rw [List.take_of_length_le (l := (l.take k).filter fun c => rightC c) (by omega), List.take_of_length_le (by simp; omega)]
theorem pi2_no (l : List Cod) (k : Nat) (h : k < l.length) (hr : rightC l[k] = false ∨ 200 ≤ (pi2 l k).length) : pi2 l (k + 1) = pi2 l k := by
  rcases hr with hr | hr
  · unfold pi2
    rw [List.take_succ_eq_append_getElem h, List.filter_append]
    simp [hr]
  · unfold pi2 at hr ⊢
    rw [List.length_take] at hr
    rw [List.take_succ_eq_append_getElem h, List.filter_append, List.take_append_of_le_length (by omega)]
def encs (P : List Cod) : List UInt8 := P.flatMap encL4
theorem encs_snoc (P : List Cod) (c : Cod) : encs (P ++ [c]) = encs P ++ encL4 c := by simp [encs]
theorem encs_len : ∀ P : List Cod, (encs P).length = 4 * P.length
  | [] => rfl
  | c :: P => by
    have := encs_len P
    unfold encs at this ⊢
    rw [List.flatMap_cons, List.length_append, encL4_len, this, List.length_cons]; omega
/-- Texts with line ends between. -/
def jnL (ls : List (List UInt8)) : List UInt8 := unl ls.dropLast ++ ls.getLastD []
theorem jnL_snoc (ls : List (List UInt8)) (y : List UInt8) : jnL (ls ++ [y]) = unl ls ++ y := by
  unfold jnL; rw [List.dropLast_concat]; simp [List.getLastD_eq_getLast?]
theorem jnL_unl (ls : List (List UInt8)) (h : ls ≠ []) : unl ls = jnL ls ++ [10] := by
  obtain ⟨a, b, e⟩ : ∃ a b, ls = a ++ [b] := ⟨_, _, (List.dropLast_concat_getLast h).symm⟩
  subst e
  rw [jnL_snoc, unl_append]; simp [unl]
theorem jnL_one (y : List UInt8) : jnL [y] = y := by simp [jnL, unl]
theorem jnL_next (ls : List (List UInt8)) (h : ls ≠ []) (y : List UInt8) : jnL (ls ++ [y]) = jnL ls ++ ([10] ++ y) := by
  rw [jnL_snoc, jnL_unl ls h, List.append_assoc]
theorem lisN_app : ∀ (P : List Cod) (t : List UInt8) (m : Nat), (∀ c ∈ P, rightC c = true) → lisN (encs P ++ t) (P.length + m) = (lisN t m).map (P ++ ·)
  | [], t, m, _ => by
    rw [show encs [] ++ t = t from rfl, List.length_nil, Nat.zero_add]
    cases lisN t m <;> simp
  | c :: P, t, m, h => by
    have hc := h c (by simp)
    have e1 : encs (c :: P) ++ t = encL4 c ++ (encs P ++ t) := by simp [encs]
    rw [e1, List.length_cons, show P.length + 1 + m = (P.length + m) + 1 from by omega, lisN]
    rw [List.take_append_of_le_length (by rw [encL4_len]; omega), List.take_of_length_le (by rw [encL4_len]; omega)]
    rw [show tB (encL4 c) = q4s (bytesC c) from list_tB _, enc_dec c hc]
    simp only
    rw [List.drop_append_of_le_length (by rw [encL4_len]; omega), List.drop_of_length_le (by rw [encL4_len]; omega), List.nil_append, lisN_app P t m (fun x hx => h x (by simp [hx]))]
    cases lisN t m <;> simp
theorem lisN_all (P : List Cod) (h : ∀ c ∈ P, rightC c = true) : lisN (encs P) P.length = some P := by
  have := lisN_app P [] 0 h
  rw [List.append_nil, Nat.add_zero] at this
  rw [this, lisN]; simp
theorem bsU_stes (cs : List Cod) : ∀ k, k ≤ cs.length → bsU ⟨stes 1 cs, .map []⟩ k = encs (cs.take k)
  | 0, _ => by simp [bsU, encs]
  | k + 1, h => by
    have hlt : k < cs.length := by omega
    have ih := bsU_stes cs k (by omega)
    have e : bsU ⟨stes 1 cs, .map []⟩ (k + 1) = bsU ⟨stes 1 cs, .map []⟩ k ++ toU (q4l (bytesC (fixN (.map []) k ((stes 1 cs).getD k ste0)))) := by
      unfold bsU; rw [List.range_succ, List.flatMap_append]; simp
    have hg : ∀ (cs : List Cod) (n : Int) (k : Nat) (h : k < cs.length), (stes n cs).getD k ste0 = ⟨cs[k], n + k, ⟨#[]⟩⟩ := by
      intro cs
      induction cs with
      | nil => intro n k h; simp at h
      | cons c cs ih =>
        intro n k h
        cases k with
        | zero => simp [stes]
        | succ k =>
          have := ih (n + 1) k (by simpa using h)
          simp only [stes, List.getD_cons_succ, List.getElem_cons_succ]
          rw [this]
          congr 1
          omega
    rw [e, ih, hg cs 1 k hlt, List.take_succ_eq_append_getElem hlt, encs_snoc]
    unfold fixN
    rw [if_pos emptyB]
    simp [encL4, q4s]
theorem lists_built (P : List Cod) (h : ∀ c ∈ P, rightC c = true) (hl : P.length ≤ 200) : buildR (tB (jnL (P.map textC))) = #[.string (tB (encs P)), .int .i64 0, .int .i64 0] := by
  by_cases h0 : P = []
  · subst h0
    have ha := allLn_lines [] [] (fun _ h => by simp at h) (by simp)
    have hr := read_blanks 1 prg0 1
    have := build_of (s := tB (jnL ([].map textC))) ha (by simp [nums]) hr.1 hr.2 (fun x hx => by simp [prg0] at hx)
    rw [this]; rfl
  · have hne : P.map textC ≠ [] := by simpa using h0
    obtain ⟨a, b, e⟩ : ∃ a b, P.map textC = a ++ [b] := ⟨_, _, (List.dropLast_concat_getLast hne).symm⟩
    have h10 : ∀ l ∈ P.map textC, (10 : UInt8) ∉ l := fun l hx hm => by
      obtain ⟨c, hc, rfl⟩ := List.mem_map.1 hx
      exact (text_bytes c (h c hc) 10 hm).2 rfl
    have ha := allLn_lines a b (fun l hx => h10 l (by rw [e]; simp [hx])) (h10 b (by rw [e]; simp))
    rw [← e] at ha
    have hr := read_codes P prg0 1 h
    have hs : (⟨stes 1 P, .map []⟩ : Prg).st.length = P.length := stes_len P 1
    have hb := build_of (s := tB (unl a ++ b)) ha (by rw [nums_len, List.length_map]; omega) hr.1 (show rds prg0 (nums 1 (P.map textC)) = ⟨stes 1 P, .map []⟩ from hr.2.trans (by simp [prg0])) (fun x hx => by
      unfold okN; rw [(stes_mem P 1 x hx).1, emptyB]; rfl)
    rw [e, jnL_snoc, hb, hs, bsU_stes P P.length (Nat.le_refl _), List.take_length]
end Go.Proofs.YtgldkmabhmlijaaDoor
