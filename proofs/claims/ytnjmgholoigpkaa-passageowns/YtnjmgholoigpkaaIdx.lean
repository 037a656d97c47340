/- Contains, ContainsFunc, Concat over rows of numbers; allow. -/
import Derived.Test.YtnjmgholoigpkaaNam
import Derived.Test.YtnjmgholoigpkaaClo
namespace Go.Proofs.Ytnjmgholoigpkaa
open Go.RowKit Go.Sort
theorem iv_cell {cs : List Int} {W : World} {p : Option Addr} {n cap : Nat} (h : IV cs (.slice p n cap) W) (k : Nat) (hk : k < cs.length) : ∃ g, p = some ⟨g, 0, none⟩ ∧ g < W.heap.size ∧ W.cell? ⟨g, k, none⟩ = some (.int .i64 cs[k]) := by
  obtain ⟨base, h⟩ := h
  rcases h.2 with ⟨h', h0⟩ | ⟨g', cap', cur, h', _⟩
  · omega
  · cases h'
    exact ⟨g', rfl, (h.lt g' rfl).2, (h.cellAt k (by omega)).trans (by unfold icells; simp [hk])⟩
/-- Where a row first has what is asked for; -1: nowhere. -/
def idxP (P : Int → Bool) : List Int → Nat → Int
  | [], _ => -1
  | y :: l, k => if P y = true then (k : Int) else idxP P l (k + 1)
theorem idxP_step (P : Int → Bool) (l : List Int) (k : Nat) (h : k < l.length) : idxP P (l.drop k) k = if P l[k] = true then (k : Int) else idxP P (l.drop (k + 1)) (k + 1) := by
  rw [List.drop_eq_getElem_cons h]; rfl
theorem idxP_any (P : Int → Bool) (l : List Int) (k : Nat) : decide (0 ≤ idxP P l k) = l.any P := by
  induction l generalizing k with
  | nil => simp [idxP]
  | cons y l ih =>
    by_cases h : P y = true
    · simp [idxP, h]
    · have h' : P y = false := by simpa using h
      simp only [idxP, h', Bool.false_eq_true, if_false, ih (k + 1), List.any_cons, Bool.false_or]
/-- A question of a number, as a value. -/
def PrdV (P : Int → Bool) (v : Value) (W : World) : Prop := ∃ f cap, v = .func (.func f) #[] cap ∧ Enters f ∧ ∀ W', Below W.heap.size W W' → ∀ c, Calls Try.prog f (#[.int .i64 c] ++ cap) W' fun e W'' => e = .returned (.bool (P c)) ∧ Below W'.heap.size W' W''
theorem PrdV.below {P : Int → Bool} {v : Value} {W W' : World} (h : PrdV P v W) (hb : Below W.heap.size W W') : PrdV P v W' := by
  obtain ⟨f, cap, h1, h2, h3⟩ := h
  exact ⟨f, cap, h1, h2, fun W'' hb' c => h3 W'' (hb.trans (hb'.mono hb.size)) c⟩
set_option maxRecDepth 100000 in
set_option maxHeartbeats 1000000 in
theorem IndexFunc_c {P : Int → Bool} {cs : List Int} {v u : Value} {w : World} (h : IV cs v w) (hP : PrdV P u w) (hn : cs.length < 1000000) :
    Calls Try.prog 94 #[v, u] w fun e w' => e = .returned (.int .i64 (idxP P cs 0)) ∧ Below w.heap.size w w' := by
  obtain ⟨p, cap, rfl⟩ := h.form
  obtain ⟨f, cp, rfl, he, hF⟩ := hP
  have he' := fun args W => he args W
  have HF := Lib.hid hF
  have HI := Lib.hid h
  clear h hF he
  go_enter Try.func94, Try.ntmps94
  go_wp2_with fail
  go_loopw [8] (fun y wr => ∃ k : Nat, y = .int .i64 k ∧ k ≤ cs.length ∧ idxP P cs 0 = idxP P (cs.drop k) k ∧ Below w.heap.size w wr) (fun y _ => (cs.length - (RowKit.intOf y).toNat))
  case atStart => exact ⟨0, rfl, Nat.zero_le _, by simp, Below.refl _ _⟩
  case round =>
    obtain ⟨k, rfl, hk, hx, hb⟩ := hrel
    have HX := Lib.hid hx
    clear hx
    by_cases hlt : k < cs.length
    · have hki : (k : Int) < (cs.length : Int) := by omega
      obtain ⟨g, rfl, hg, c0w⟩ := iv_cell HI.out k hlt
      have c0 := (hb.cell (p := ⟨g, k, none⟩) hg).trans c0w
      have HC := Lib.hid (HF.out wr hb cs[k])
      have HST := Lib.hid (idxP_step P cs k hlt)
      obtain ⟨x, hx⟩ : ∃ x, P cs[k] = x := ⟨_, rfl⟩
      rw [hx] at HC HST
      clear c0w hx
      cases x with
      | true =>
        go_wp2_with fail
        refine HC.out.mono ?_
        rintro e w1 ⟨rfl, hb1⟩
        go_wp2
        go_ret
        exact ⟨by rw [HX.out, HST.out]; rfl, hb.trans (hb1.mono hb.size)⟩
      | false =>
        go_wp2_with fail
        refine HC.out.mono ?_
        rintro e w1 ⟨rfl, hb1⟩
        go_wp2
        go_roundw
        case rel => exact ⟨k + 1, by go_num, by omega, by rw [HX.out, HST.out]; rfl, hb.trans (hb1.mono hb.size)⟩
        case measure => simp [RowKit.intOf]; omega
    · obtain rfl : k = cs.length := by omega
      have hkk : ¬ (cs.length : Int) < (cs.length : Int) := by omega
      go_wp2
      go_ret
      exact ⟨by rw [HX.out, List.drop_length]; rfl, hb⟩
theorem ContainsFunc_c {P : Int → Bool} {cs : List Int} {v u : Value} {w : World} (h : IV cs v w) (hP : PrdV P u w) (hn : cs.length < 1000000) :
    Calls Try.prog 80 #[v, u] w fun e w' => e = .returned (.bool (cs.any P)) ∧ Below w.heap.size w w' := by
  have H := Lib.hid (IndexFunc_c h hP hn)
  obtain ⟨p, cap, rfl⟩ := h.form
  obtain ⟨f, cp, rfl, he, hF⟩ := hP
  have hd := Lib.hid (idxP_any P cs 0)
  clear h hF he
  go_enter Try.func80, Try.ntmps80
  go_wp2_with (go_at_call 94; refine H.out.mono ?_; rintro e w1 ⟨rfl, hb1⟩)
  go_ret
  exact ⟨by show Ending.returned (Value.bool (decide _)) = _; rw [hd.out], hb1⟩
theorem Concat_c {a b : List Int} {v : Value} {w : World} (h : RsV a b v w) (hn : a.length + b.length < 1000000) :
    Calls Try.prog 60 #[v] w fun e w' => ∃ v', e = .returned v' ∧ Below w.heap.size w w' ∧ IV (a ++ b) v' w' := by
  obtain ⟨g, x, y, rfl, hg, c0, c1, ⟨bx, hx⟩, ⟨by', hy⟩⟩ := h
  have hcat : cat [(x, a), (y, b)] = a ++ b := by simp [cat]
  have H := Concat_any g 2 [(x, a), (y, b)] w (by rw [hcat, List.length_append]; exact hn) (by simp) hg (fun k hk => by
    have hk2 : k < 2 := by simpa using hk
    rcases Nat.lt_or_ge k 1 with h0 | h0
    · obtain rfl : k = 0 := by omega
      exact c0
    · obtain rfl : k = 1 := by omega
      exact c1) (fun z hz => by
    simp only [List.mem_cons, List.not_mem_nil, or_false] at hz
    rcases hz with rfl | rfl
    · exact (own_src hx).2
    · exact (own_src hy).2)
  rw [hcat] at H
  refine H.mono ?_
  rintro e w' ⟨v, rfl, hown, hb⟩
  exact ⟨v, rfl, hb, _, hown⟩
/- allow -/
def idxB : List Bool → Nat → Int
  | [], _ => -1
  | y :: l, k => if y = false then (k : Int) else idxB l (k + 1)
theorem idxB_step (l : List Bool) (k : Nat) (h : k < l.length) : idxB (l.drop k) k = if l[k] = false then (k : Int) else idxB (l.drop (k + 1)) (k + 1) := by
  rw [List.drop_eq_getElem_cons h]; rfl
theorem idxB_any (l : List Bool) (k : Nat) : decide (0 ≤ idxB l k) = !(l.all id) := by
  induction l generalizing k with
  | nil => simp [idxB]
  | cons y l ih =>
    cases y with
    | false => simp [idxB]
    | true =>
      simp only [idxB, Bool.true_eq_false, if_false, ih (k + 1), List.all_cons, id, Bool.true_and]
set_option maxRecDepth 100000 in
set_option maxHeartbeats 1000000 in
theorem IndexB_c {bs : List Bool} {v : Value} {w : World} (h : BsV bs v w) (hn : bs.length < 1000) :
    Calls Try.prog 83 #[v, .bool false] w fun e w' => e = .returned (.int .i64 (idxB bs 0)) ∧ w' = w := by
  obtain ⟨g, rfl, hg, hc⟩ := h
  go_enter Try.func83, Try.ntmps83
  go_wp2_with fail
  go_loopw [8] (fun y wr => ∃ k : Nat, y = .int .i64 k ∧ k ≤ bs.length ∧ idxB bs 0 = idxB (bs.drop k) k ∧ w = wr) (fun y _ => (bs.length - (RowKit.intOf y).toNat))
  case atStart => exact ⟨0, rfl, Nat.zero_le _, by simp, rfl⟩
  case round =>
    obtain ⟨k, rfl, hk, hx, rfl⟩ := hrel
    have HX := Lib.hid hx
    clear hx
    by_cases hlt : k < bs.length
    · have hki : (k : Int) < (bs.length : Int) := by omega
      have c0 := hc k hlt
      have HST := Lib.hid (idxB_step bs k hlt)
      obtain ⟨x, hx⟩ : ∃ x, bs[k] = x := ⟨_, rfl⟩
      rw [hx] at c0 HST
      clear hc hx
      cases x with
      | false =>
        go_wp2
        go_ret
        exact ⟨by rw [HX.out, HST.out]; rfl, rfl⟩
      | true =>
        go_wp2
        go_roundw
        case rel => exact ⟨k + 1, by go_num, by omega, by rw [HX.out, HST.out]; rfl, trivial⟩
        case measure => simp [RowKit.intOf]; omega
    · obtain rfl : k = bs.length := by omega
      have hkk : ¬ (bs.length : Int) < (bs.length : Int) := by omega
      go_wp2
      go_ret
      exact ⟨by rw [HX.out, List.drop_length]; rfl, rfl⟩
theorem ContainsB_c {bs : List Bool} {v : Value} {w : World} (h : BsV bs v w) (hn : bs.length < 1000) :
    Calls Try.prog 57 #[v, .bool false] w fun e w' => e = .returned (.bool (!(bs.all id))) ∧ w' = w := by
  have H := Lib.hid (IndexB_c h hn)
  obtain ⟨g, rfl, hg, hc⟩ := h
  have hd := Lib.hid (idxB_any bs 0)
  clear hc
  go_enter Try.func57, Try.ntmps57
  go_wp2_with (go_at_call 83; refine H.out.mono ?_; rintro e w1 ⟨rfl, hw1⟩; rw [hw1]; clear hw1 w1)
  go_ret
  exact ⟨by show Ending.returned (Value.bool (decide _)) = _; rw [hd.out], rfl⟩
def allowI (bs : List Bool) : Int := if bs.all id = true then 0 else 3
theorem allow_c {bs : List Bool} {v : Value} {w : World} (h : BsV bs v w) (hn : bs.length < 1000) :
    Calls Try.prog 31 #[v] w fun e w' => ∃ v', e = .returned v' ∧ Below w.heap.size w w' ∧ v' = .int .i64 (allowI bs) := by
  have H := Lib.hid (ContainsB_c h hn)
  obtain ⟨g, rfl, hg, hc⟩ := h
  obtain ⟨x, hx⟩ : ∃ x, bs.all id = x := ⟨_, rfl⟩
  have HX := Lib.hid hx
  rw [hx] at H
  clear hc hx
  cases x with
  | true =>
    go_enter Try.func31, Try.ntmps31
    go_wp2_with (go_at_call 57; refine H.out.mono ?_; rintro e w1 ⟨rfl, hw1⟩; rw [hw1]; clear hw1 w1)
    go_ret
    exact ⟨_, rfl, Below.refl _ _, by unfold allowI; rw [HX.out]; rfl⟩
  | false =>
    go_enter Try.func31, Try.ntmps31
    go_wp2_with (go_at_call 57; refine H.out.mono ?_; rintro e w1 ⟨rfl, hw1⟩; rw [hw1]; clear hw1 w1)
    go_ret
    exact ⟨_, rfl, Below.refl _ _, by unfold allowI; rw [HX.out]; rfl⟩
end Go.Proofs.Ytnjmgholoigpkaa
