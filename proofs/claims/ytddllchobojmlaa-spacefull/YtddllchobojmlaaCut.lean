/- What Cut of package space answers. -/
import Derived.Test.YtddllchobojmlaaSpan
import Derived.Test.YtddllchobojmlaaTail
namespace Go.Proofs.Ytddllchobojmlaa
open Go.RowKit Go.Sort
theorem cut1_any (B : Nat) (x : Int) (m : Mp) (w : World) (hB : B < w.heap.size) (hl : w.cell? ⟨B, 0, none⟩ = some (.int .i64 x)) :
    Calls Try.prog 27 #[.agg #[.int .i64 m.at_, .int .i64 m.pg, .int .i64 m.inn, .int .i64 m.id, .int .i64 m.fr, .bool m.wr, .bool m.rn], .pointer (some ⟨B, 0, none⟩)] w fun e w' => e = .returned (.bool (m.at_ == x)) ∧ Below w.heap.size w w' := by
  go_enter Try.func27, Try.ntmps27
  go_wp2
  go_ret
  exact ⟨rfl, by go_grown⟩
def idxJ (x : Int) : List Mp → Nat → Option Nat
  | [], _ => none
  | y :: l, k => if (y.at_ == x) = true then some k else idxJ x l (k + 1)
def idxV : Option Nat → Int
  | some k => (k : Int)
  | none => -1
theorem idxJ_step (x : Int) (l : List Mp) (k : Nat) (h : k < l.length) : idxJ x (l.drop k) k = if (l[k].at_ == x) = true then some k else idxJ x (l.drop (k + 1)) (k + 1) := by
  rw [List.drop_eq_getElem_cons h]; rfl
theorem idxJ_lt (x : Int) : ∀ (l : List Mp) (k i : Nat), idxJ x l k = some i → k ≤ i ∧ ∃ h : i - k < l.length, l[i - k].at_ = x
  | [], k, i, h => by simp [idxJ] at h
  | y :: l, k, i, h => by
    simp only [idxJ] at h
    split at h
    · rename_i he
      simp at h
      subst h
      exact ⟨Nat.le_refl _, by simp, by simpa using he⟩
    · obtain ⟨h1, h2, h3⟩ := idxJ_lt x l (k + 1) i h
      refine ⟨by omega, by simp; omega, ?_⟩
      have : i - k = (i - (k + 1)) + 1 := by omega
      simp only [this, List.getElem_cons_succ]; exact h3
set_option maxRecDepth 100000 in
set_option maxHeartbeats 1000000 in
theorem IndexFunc_any (B cap : Nat) (p : Option Addr) (l : List Mp) (x : Int) (w : World) (hn : l.length < 1000000) (hc : MsAt w p l) (hB : B < w.heap.size) (hl : w.cell? ⟨B, 0, none⟩ = some (.int .i64 x)) :
    Calls Try.prog 26 #[.slice p l.length cap, .func (.func 27) #[] #[.pointer (some ⟨B, 0, none⟩)]] w fun e w' => e = .returned (.int .i64 (idxV (idxJ x l 0))) ∧ Below w.heap.size w w' := by
  go_enter Try.func26, Try.ntmps26
  go_wp2_with fail
  go_loopw [8] (fun y wr => ∃ k : Nat, y = .int .i64 k ∧ k ≤ l.length ∧ idxJ x l 0 = idxJ x (l.drop k) k ∧ Below w.heap.size w wr) (fun y _ => (l.length - (RowKit.intOf y).toNat))
  case atStart => exact ⟨0, rfl, Nat.zero_le _, by simp, Below.refl _ _⟩
  case round =>
    obtain ⟨k, rfl, hk, hx, hb⟩ := hrel
    have HX := Lib.hid hx
    clear hx
    by_cases hlt : k < l.length
    · have hki : (k : Int) < (l.length : Int) := by omega
      have HST := Lib.hid (idxJ_step x l k hlt)
      obtain ⟨b, off, rfl, hbl, hq⟩ := hc k hlt
      obtain ⟨c0, c1, c2, c3, c4, c5, c6⟩ := hq.below hb hbl
      have hbs := hb.size
      have hbr : b < wr.heap.size := by omega
      have hlr : wr.cell? ⟨B, 0, none⟩ = some (.int .i64 x) := (hb.cell (p := ⟨B, 0, none⟩) hB).trans hl
      have HC := Lib.hid (cut1_any B x l[k] wr (by omega) hlr)
      clear hc hq
      by_cases he : (l[k].at_ == x) = true
      · rw [he] at HC
        go_wp2_with (go_at_call 27; refine HC.out.mono ?_; rintro e w1 ⟨rfl, hb1⟩)
        go_ret
        exact ⟨by rw [HX.out, HST.out, if_pos he]; rfl, hb.trans (hb1.mono hbs)⟩
      · have he' : (l[k].at_ == x) = false := by simpa using he
        rw [he'] at HC
        go_wp2_with (go_at_call 27; refine HC.out.mono ?_; rintro e w1 ⟨rfl, hb1⟩)
        go_roundw
        case rel => exact ⟨k + 1, by go_num, by omega, by rw [HX.out, HST.out, if_neg he], hb.trans (hb1.mono hbs)⟩
        case measure => simp [RowKit.intOf]; omega
    · obtain rfl : k = l.length := by omega
      have hkk : ¬ (l.length : Int) < (l.length : Int) := by omega
      go_wp2
      go_ret
      exact ⟨by rw [HX.out, List.drop_length]; rfl, hb⟩
theorem quiet_exec {P : Program} {C : World → Prop} {o : Oper} {a : Act} {K : Act → Prop} (v : Value) (hl : ∀ w, C w → (execOp a.eval o).run P w = .ok (.value v) w) (h : K (a.put o.dst v)) : o.quiet P a C K := by
  refine ⟨v, fun w hw => ?_, h⟩
  unfold Oper.quietAt
  rw [hl w hw]
  exact ⟨rfl, rfl⟩
def cutE (l : List Mp) (x : Int) : Int := if rightS l = false then 1 else if idxJ x l 0 = none then 4 else 0
def cutL (l : List Mp) (x : Int) : List Mp := if rightS l = false then [] else match idxJ x l 0 with | none => [] | some i => l.take i ++ l.drop (i + 1)
set_option maxRecDepth 100000 in
set_option maxHeartbeats 2000000 in
theorem Cut_any (p : Option Addr) (cap : Nat) (l : List Mp) (x : Int) (w : World) (hR : RAt w p cap l) :
    Calls Try.prog 12 #[.slice p l.length cap, .int .i64 x] w fun e w' => ∃ v, e = .returned (.tuple #[v, .int .i64 (cutE l x)]) ∧ w'.ownsRow w.heap.size 24 7 v (cutL l x).length (flat (cutL l x)) ∧ Below w.heap.size w w' := by
  have hm : l.length ≤ maxLen := Nat.le_trans hR.len hR.top
  have hB1 : Below w.heap.size w (w.alloc (.cells #[.int .i64 x] 3)) := (Below.refl _ _).alloc (Nat.le_refl _) _
  have HRT := Lib.hid (Right_any p cap l (w.alloc (.cells #[.int .i64 x] 3)) hm (hR.below hB1).row)
  by_cases hr : rightS l = true
  · rw [hr] at HRT
    have h16 : l.length ≤ 16 := by unfold rightS at hr; simp only [Bool.and_eq_true, decide_eq_true_eq] at hr; exact hr.1
    have hIX : ∀ w1, Below (w.alloc (.cells #[.int .i64 x] 3)).heap.size (w.alloc (.cells #[.int .i64 x] 3)) w1 → Calls Try.prog 26 #[.slice p l.length cap, .func (.func 27) #[] #[.pointer (some ⟨w.heap.size, 0, none⟩)]] w1 fun e w' => e = .returned (.int .i64 (idxV (idxJ x l 0))) ∧ Below w1.heap.size w1 w' := fun w1 hw1 =>
      IndexFunc_any w.heap.size cap p l x w1 (by omega) ((hR.below hB1).below hw1).row (by have := hw1.size; simp at this; omega) ((hw1.cell (p := ⟨w.heap.size, 0, none⟩) (by simp)).trans (by simp [go_sem]))
    cases hj : idxJ x l 0 with
    | none =>
      rw [hj] at hIX
      have HIX := Lib.hid hIX
      clear hIX
      have hE : cutE l x = 4 := by unfold cutE; simp [hr, hj]
      have hL : cutL l x = [] := by unfold cutL; simp [hr, hj]
      have hi1 : idxV none = -1 := rfl
      rw [hi1] at HIX
      go_enter Try.func12, Try.ntmps12
      go_wp2_with (first
        | (go_at_call 14; refine HRT.out.mono ?_; rintro e w1 ⟨rfl, hb1⟩)
        | (go_at_call 26; refine (HIX.out _ hb1).mono ?_; rintro e w2 ⟨rfl, hb2⟩))
      go_ret2
      exact ⟨_, ret_two rfl hE.symm, by rw [hL]; exact World.ownsRow_nil _ _ _ _, (hB1.trans (hb1.mono (by simp))).trans (hb2.mono (by have := hb1.size; simp at this; omega))⟩
    | some i =>
      rw [hj] at hIX
      have HIX := Lib.hid hIX
      clear hIX
      obtain ⟨_, hil, _⟩ := idxJ_lt x l 0 i hj
      rw [Nat.sub_zero] at hil
      have hE : cutE l x = 0 := by unfold cutE; simp [hr, hj]
      have hL : cutL l x = l.take i ++ l.drop (i + 1) := by unfold cutL; simp [hr, hj]
      have hi1 : idxV (some i) = (i : Int) := rfl
      rw [hi1] at HIX
      have hi0 : ¬ ((i : Int) < 0) := by omega
      go_enter Try.func12, Try.ntmps12
      go_wp2_with (first
        | (go_at_call 14; refine HRT.out.mono ?_; rintro e w1 ⟨rfl, hb1⟩)
        | (go_at_call 26; refine (HIX.out _ hb1).mono ?_; rintro e w2 ⟨rfl, hb2⟩; refine Hid.out ?_))
      refine Lib.hid ?_
      have hbw : Below w.heap.size w w2 := (hB1.trans (hb1.mono (by simp))).trans (hb2.mono (by have := hb1.size; simp at this; omega))
      clear hb1 hb2 HRT HIX
      go_wp2_with fail
      obtain ⟨b, off, rfl, -⟩ := hR.row i hil
      have hlc := hR.len
      have hcm := hR.top
      unfold maxLen at hcm
      have hbs := hbw.size
      have hRr := hR.below hbw
      have hic : (i : Int) ≤ (cap : Int) := by omega
      have hil1 : (i : Int) + 1 ≤ (l.length : Int) := by omega
      have HC1 := Lib.hid (fun W (hW : Below w2.heap.size w2 W) => (hRr.below hW).src_take (k := i) (by omega))
      have HC2 := Lib.hid (fun W (hW : Below w2.heap.size w2 W) => (hRr.below hW).src_drop (k := i + 1) (by omega))
      have HCC : Hid (∀ (W : World) (s1 s2 : Value), Src W s1 (l.take i) → Src W s2 (l.drop (i + 1)) → Calls Try.prog 23 #[.slice (some ⟨W.heap.size, 0, none⟩) 2 2] (W.alloc (.cells #[s1, s2] 22)) fun e w' => ∃ v, e = .returned v ∧ w'.ownsRow W.heap.size 24 7 v (cutL l x).length (flat (cutL l x)) ∧ Below W.heap.size W w') := fun W s1 s2 h1 h2 => by
        have hbW : Below W.heap.size W (W.alloc (.cells #[s1, s2] 22)) := (Below.refl _ _).alloc (Nat.le_refl _) _
        have hcat : cat [(s1, l.take i), (s2, l.drop (i + 1))] = cutL l x := by rw [hL]; simp [cat]
        have h := Concat_any W.heap.size 2 [(s1, l.take i), (s2, l.drop (i + 1))] (W.alloc (.cells #[s1, s2] 22)) (by rw [hcat, hL]; simp; omega) (by simp) (by simp) (fun k hk => by
          have hk2 : k < 2 := hk
          obtain rfl | rfl : k = 0 ∨ k = 1 := by omega
          · simp [go_sem]
          · simp [go_sem]) (fun y hy => by
          simp only [List.mem_cons, List.not_mem_nil, or_false] at hy
          rcases hy with rfl | rfl
          · exact h1.below hbW
          · exact h2.below hbW)
        rw [hcat] at h
        refine h.mono ?_
        rintro e w' ⟨v, rfl, ho, hb⟩
        exact ⟨v, rfl, row_mono ho (by simp), hbW.trans (hb.mono (by simp))⟩
      clear hR hRr hj hi0
      have hwi : IntKind.i64.wrap ((i : Int) + 1) = ((i + 1 : Nat) : Int) := by rw [IntKind.wrap_i64]; omega
      have hicN : i ≤ cap := by omega
      have HI1 := Lib.hid hicN
      have HI2 := Lib.hid hil
      clear hicN hil hic hil1 hlc hcm
      refine wp_region_tail_d 7 (by kernel_rfl) (by kernel_rfl) ?_
      simp only [List.take_succ_cons, List.take_zero, List.drop_succ_cons, List.drop_zero]
      repeat (go_big_quiet_step (fail))
      go_big_quiet_want
      refine quiet_exec _ (fun w _ => exec_slice_hi (p := some ⟨b, off, none⟩) (cap := cap) (k := i) rfl rfl rfl HI1.out w) ?_
      go_simp
      go_big_quiet_on
      repeat (go_big_quiet_step (fail))
      simp only [dropP, Option.map_some, addr_plus] at HC2
      refine wpQuiet_nil ?_
      intro _ hw'
      obtain ⟨nq, hw''⟩ := hw'
      subst hw''
      have hbq : Below w2.heap.size w2 (w2.drewN nq) := bdn (Below.refl _ _) _
      have HCW := Lib.hid (HCC.out (w2.drewN nq) _ _ (HC1.out _ hbq) (HC2.out _ hbq))
      have HEE := Lib.hid hE
      clear HCC HC1 HC2 hE hL
      go_wp2_with (go_at_call 23; refine HCW.out.mono ?_; rintro e w3 ⟨v, rfl, ho3, hb3⟩)
      all_goals (go_ret2; exact ⟨_, ret_two rfl HEE.out.symm, row_mono ho3 (Nat.le_trans hbs hbq.size), (hbw.trans (hbq.mono hbs)).trans (hb3.mono (Nat.le_trans hbs hbq.size))⟩)
  · have hr' : rightS l = false := by simpa using hr
    rw [hr'] at HRT
    go_enter Try.func12, Try.ntmps12
    go_wp2_with (first | (go_at_call 14; refine HRT.out.mono ?_; rintro e w1 ⟨rfl, hb1⟩))
    go_ret2
    have hE : cutE l x = 1 := by unfold cutE; simp [hr']
    have hL : cutL l x = [] := by unfold cutL; simp [hr']
    exact ⟨_, ret_two rfl hE.symm, by rw [hL]; exact World.ownsRow_nil _ _ _ _, hB1.trans (hb1.mono (by simp))⟩
end Go.Proofs.Ytddllchobojmlaa
