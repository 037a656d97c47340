/- What Span and Find of package space answer. -/
import Derived.Test.YtddllchobojmlaaMapOf
namespace Go.Proofs.Ytddllchobojmlaa
open Go.RowKit Go.Sort
/-- A piece. -/
structure Pc where
  (inn id off n : Int)
deriving DecidableEq
def pcC (x : Pc) : List Value := [.int .i64 x.inn, .int .i64 x.id, .int .i64 x.off, .int .i64 x.n]
def pcV (x : Pc) : Value := .agg #[.int .i64 x.inn, .int .i64 x.id, .int .i64 x.off, .int .i64 x.n]
def srv (m : Mp) (need : Int) : Bool := if need = 1 then m.wr else if need = 2 then m.rn else true
theorem serves_any (m : Mp) (need : Int) (w : World) : Calls Try.prog 29 #[mpV m, .int .i64 need] w fun e w' => e = .returned (.bool (srv m need)) ∧ Below w.heap.size w w' := by
  unfold mpV
  by_cases h1 : need = 1
  · subst h1
    go_enter Try.func29, Try.ntmps29
    go_wp2
    go_ret
    exact ⟨rfl, by go_grown⟩
  · by_cases h2 : need = 2
    · subst h2
      go_enter Try.func29, Try.ntmps29
      go_wp2
      go_ret
      exact ⟨rfl, by go_grown⟩
    · have h1' : (need == 1) = false := by simpa using h1
      have h2' : (need == 2) = false := by simpa using h2
      go_enter Try.func29, Try.ntmps29
      go_wp2
      go_ret
      exact ⟨by simp [srv, h1, h2], by go_grown⟩
def pcOf (m : Mp) (a n : Int) : Pc := ⟨m.inn, m.id, m.fr * 64 + (a - m.at_ * 64), min n (m.pg * 64 - (a - m.at_ * 64))⟩
set_option maxRecDepth 100000 in
set_option maxHeartbeats 1000000 in
theorem pieceOf_any (m : Mp) (a n : Int) (w : World) (hg : goodM m = true) (hi : inM (a / 64) m = true) (ha : 0 ≤ a) (_hn : 0 ≤ n) (_hn2 : n ≤ 4096) : Calls Try.prog 30 #[mpV m, .int .u64 a, .int .i64 n] w fun e w' => e = .returned (pcV (pcOf m a n)) ∧ Below w.heap.size w w' := by
  have hgm := ((goodM_iff _).1 hg).1
  simp only [inM, Bool.and_eq_true, decide_eq_true_eq] at hi
  have hw1 : IntKind.i64.wrap a = a := by rw [IntKind.wrap_i64]; omega
  have hw2 : wrap64 (m.at_ * 64) = m.at_ * 64 := by unfold wrap64; omega
  unfold mpV
  go_enter Try.func30, Try.ntmps30
  go_wp2
  all_goals refine bodyPost_ret (v := pcV (pcOf m a n)) (by simp [results, Try.results30, go_sem, pcV, pcOf]; omega) rfl ⟨rfl, by go_grown⟩
theorem goods {t : Int} {l : List Mp} (h : rOk t l = true) : ∀ x ∈ l, goodM x = true := by
  induction l generalizing t with
  | nil => intro x hx; cases hx
  | cons y l ih =>
    simp only [rOk, Bool.and_eq_true] at h
    intro x hx
    rcases List.mem_cons.1 hx with rfl | hx
    · exact h.1.1
    · exact ih h.2 x hx
def spans (l : List Mp) (need : Int) : Nat → Int → Int → Option (List Pc)
  | 0, _, _ => some []
  | f + 1, a, n => if n ≤ 0 then some [] else
    match findM l (a / 64) with
    | none => none
    | some m => if srv m need = true then (spans l need f (a + (pcOf m a n).n) (n - (pcOf m a n).n)).map (pcOf m a n :: ·) else none
def argOk (l : List Mp) (n need : Int) : Bool := rightS l && decide (1 ≤ n) && decide (n ≤ 4096) && decide (0 ≤ need) && decide (need ≤ 2)
def spanO (l : List Mp) (a n need : Int) : Option (List Pc) := spans l need 4097 a n
def spanE (l : List Mp) (a n need : Int) : Int := if argOk l n need = false then 1 else match spanO l a n need with | none => 9 | some _ => 0
def spanL (l : List Mp) (a n need : Int) : List Pc := if argOk l n need = false then [] else (spanO l a n need).getD []
def flatP (l : List Pc) : List Value := l.flatMap pcC
theorem flatP_length (l : List Pc) : (flatP l).length = l.length * 4 := by
  induction l with
  | nil => rfl
  | cons x l ih => unfold flatP at ih ⊢; rw [List.flatMap_cons, List.length_append, ih]; simp [pcC]; omega
theorem flatP_append (a b : List Pc) : flatP (a ++ b) = flatP a ++ flatP b := by unfold flatP; rw [List.flatMap_append]
theorem pieceInfo : (Try.prog.info? 41).map (fun i => (i.zero, i.size, i.bytes)) = some (some (.agg #[.int .i64 0, .int .i64 0, .int .i64 0, .int .i64 0]), 4, 32) := by kernel_rfl
theorem findM_in {l : List Mp} {g : Int} {m : Mp} (h : findM l g = some m) : m ∈ l ∧ inM g m = true := ⟨List.mem_of_find?_eq_some h, List.find?_some h⟩
theorem row_below {w w' : World} {b e size n : Nat} {v : Value} {xs : List Value} (h : w.ownsRow b e size v n xs) (hb : Below w.heap.size w w') : w'.ownsRow b e size v n xs :=
  row_same h fun k hk => hb.block k (h.lt k hk).2
theorem pcOf_n {m : Mp} {a n : Int} (hg : goodM m = true) (hi : inM (a / 64) m = true) (hn : 1 ≤ n) : 1 ≤ (pcOf m a n).n ∧ (pcOf m a n).n ≤ n ∧ 0 ≤ (pcOf m a n).off ∧ (pcOf m a n).off + (pcOf m a n).n ≤ 4096 ∧ a + (pcOf m a n).n ≤ 4294967296 := by
  have hgm := ((goodM_iff _).1 hg).1
  simp only [inM, Bool.and_eq_true, decide_eq_true_eq] at hi
  simp only [pcOf]
  omega
theorem spans_step {l : List Mp} {need a n : Int} {f : Nat} {m : Mp} (hn : 1 ≤ n) (hf : findM l (a / 64) = some m) (hs : srv m need = true) : spans l need (f + 1) a n = (spans l need f (a + (pcOf m a n).n) (n - (pcOf m a n).n)).map (pcOf m a n :: ·) := by
  simp only [spans, hf, hs, if_true, if_neg (by omega : ¬ n ≤ 0)]
theorem spans_none {l : List Mp} {need a n : Int} {f : Nat} (hn : 1 ≤ n) (hf : findM l (a / 64) = none) : spans l need (f + 1) a n = none := by
  simp only [spans, hf, if_neg (by omega : ¬ n ≤ 0)]
theorem spans_not {l : List Mp} {need a n : Int} {f : Nat} {m : Mp} (hn : 1 ≤ n) (hf : findM l (a / 64) = some m) (hs : srv m need = false) : spans l need (f + 1) a n = none := by
  simp only [spans, hf, hs, if_neg (by omega : ¬ n ≤ 0), Bool.false_eq_true, if_false]
theorem spans_zero (l : List Mp) (need a n : Int) (f : Nat) (hn : n ≤ 0) : spans l need f a n = some [] := by
  cases f with
  | zero => rfl
  | succ f => simp only [spans, if_pos hn]
theorem ret_two {v v' : Value} {a b : Int} (hv : v = v') (h : a = b) : Ending.returned (.tuple #[v, .int .i64 a]) = .returned (.tuple #[v', .int .i64 b]) := by rw [hv, h]
theorem pc_one (q : Pc) : ∀ u ∈ pcC q, u.oneCell' = true := by
  intro u hu
  simp only [pcC, List.mem_cons, List.not_mem_nil, or_false] at hu
  rcases hu with rfl | rfl | rfl | rfl <;> rfl
theorem pc_new (W : World) (q : Pc) (B : Nat) (hB : B = W.heap.size) : ∀ j u, (pcC q)[j]? = some u → (W.alloc (.cells #[.int .i64 q.inn, .int .i64 q.id, .int .i64 q.off, .int .i64 q.n] 41)).cell? ((⟨B, 0, none⟩ : Addr).add j) = some u := fun j u hu => by
  subst hB
  rw [addr_plus, Nat.zero_add]
  match j, hu with
  | 0, hu => simp [pcC] at hu; subst hu; simp [go_sem]
  | 1, hu => simp [pcC] at hu; subst hu; simp [go_sem]
  | 2, hu => simp [pcC] at hu; subst hu; simp [go_sem]
  | 3, hu => simp [pcC] at hu; subst hu; simp [go_sem]
  | k + 4, hu => simp [pcC] at hu
def pcB (x : Pc) : Obj := .cells #[.int .i64 x.inn, .int .i64 x.id, .int .i64 x.off, .int .i64 x.n] 41
set_option maxRecDepth 100000 in
set_option maxHeartbeats 4000000 in
theorem Span_any (p : Option Addr) (cap : Nat) (l : List Mp) (a n need : Int) (w : World) (ha : 0 ≤ a) (ha2 : a < 18446744073709551616) (hR : RAt w p cap l) :
    Calls Try.prog 17 #[.slice p l.length cap, .int .u64 a, .int .i64 n, .int .i64 need] w fun e w' => ∃ v, e = .returned (.tuple #[v, .int .i64 (spanE l a n need)]) ∧ w'.ownsRow w.heap.size 41 4 v (spanL l a n need).length (flatP (spanL l a n need)) ∧ Below w.heap.size w w' := by
  obtain ⟨i0, hi, hz0, hz1, hz2⟩ := info_parts' pieceInfo
  have hm : l.length ≤ maxLen := Nat.le_trans hR.len hR.top
  have HRT := Lib.hid (Right_any p cap l w hm hR.row)
  by_cases hr : rightS l = true
  · rw [hr] at HRT
    by_cases h1 : 1 ≤ n
    · by_cases h2 : n ≤ 4096
      · by_cases h3 : 0 ≤ need
        · by_cases h4 : need ≤ 2
          · have hA : argOk l n need = true := by simp [argOk, hr]; omega
            have h16 : l.length ≤ 16 := by unfold rightS at hr; simp only [Bool.and_eq_true, decide_eq_true_eq] at hr; exact hr.1
            have hgd : ∀ x ∈ l, goodM x = true := by unfold rightS at hr; simp only [Bool.and_eq_true] at hr; exact goods hr.2
            go_enter Try.func17, Try.ntmps17
            go_wp2_with (first
              | (go_at_call 14; refine HRT.out.mono ?_; rintro e w1 ⟨rfl, hb1⟩))
            go_loopw [1, 2, 10] (fun x y v wr => ∃ (c d : Int) (ps : List Pc) (f : Nat), x = .int .u64 c ∧ y = .int .i64 d ∧ 0 ≤ c ∧ c < 18446744073709551616 ∧ 0 ≤ d ∧ d ≤ f ∧ f ≤ 4096 ∧ ps.length + f ≤ 4096 ∧ spanO l a n need = (spans l need (f + 1) c d).map (ps ++ ·) ∧ wr.ownsRow w.heap.size 41 4 v ps.length (flatP ps) ∧ Below w.heap.size w wr) (fun _ y _ _ => (intOf y).toNat)
            case atStart => exact ⟨a, n, [], 4096, rfl, rfl, ha, ha2, by omega, h2, Nat.le_refl _, by simp, by simp [spanO], World.ownsRow_nil _ _ _ _, hb1⟩
            case round =>
              obtain ⟨c, d, ps, f, rfl, rfl, hc1, hc2, hd1, hd2, hf1, hf2, hx, hown, hbr⟩ := hrel
              have HX := Lib.hid hx
              clear hx
              by_cases hd : 1 ≤ d
              · have hd0 : (0 : Int) < d := by omega
                obtain ⟨g, rfl⟩ : ∃ g, f = g + 1 := ⟨f - 1, by omega⟩
                have hMO := mapOf_any p cap l c wr h16 hgd hc1 hc2 (hR.below hbr).row
                have hbs := hbr.size
                cases hfm : findM l (c / 64) with
                | none =>
                  rw [hfm] at hMO
                  simp only [foundV, mpV, mp0] at hMO
                  have HMO := Lib.hid hMO
                  have HSP := spans_none (need := need) (f := g + 1) hd hfm
                  clear hMO hR
                  go_wp2_with (first
                    | (go_at_call 28; refine HMO.out.mono ?_; rintro e w2 ⟨rfl, hb2⟩))
                  go_ret2
                  have hO : spanO l a n need = none := by rw [HX.out, HSP]; rfl
                  have hE : spanE l a n need = 9 := by unfold spanE; rw [if_neg (by simp [hA]), hO]
                  have hL : spanL l a n need = [] := by unfold spanL; rw [if_neg (by simp [hA]), hO]; rfl
                  exact ⟨_, ret_two rfl hE.symm, by rw [hL]; exact World.ownsRow_nil _ _ _ _, (hbr.trans (hb2.mono hbs)).alloc (by have := hb2.size; omega) _⟩
                | some m =>
                  rw [hfm] at hMO
                  simp only [foundV, mpV] at hMO
                  have HMO := Lib.hid hMO
                  obtain ⟨hmem, hin⟩ := findM_in hfm
                  have hgm := hgd m hmem
                  obtain ⟨k1, k2, k3, k4, k5⟩ := pcOf_n hgm hin hd
                  clear hMO hR
                  cases hsv : srv m need with
                  | false =>
                    have HSP := spans_not (f := g + 1) hd hfm hsv
                    have HSV := Lib.hid (fun W => serves_any m need W)
                    rw [hsv] at HSV
                    go_wp2_with (first
                      | (go_at_call 28; refine HMO.out.mono ?_; rintro e w2 ⟨rfl, hb2⟩)
                      | (go_at_call 29; refine (HSV.out _).mono ?_; rintro e w3 ⟨rfl, hb3⟩))
                    go_ret2
                    have hO : spanO l a n need = none := by rw [HX.out, HSP]; rfl
                    have hE : spanE l a n need = 9 := by unfold spanE; rw [if_neg (by simp [hA]), hO]
                    have hL : spanL l a n need = [] := by unfold spanL; rw [if_neg (by simp [hA]), hO]; rfl
                    exact ⟨_, ret_two rfl hE.symm, by rw [hL]; exact World.ownsRow_nil _ _ _ _, ((hbr.trans (hb2.mono hbs)).alloc (by have := hb2.size; omega) _).trans (hb3.mono (by have := hb2.size; simp; omega))⟩
                  | true =>
                    have HSP := Lib.hid (spans_step (f := g + 1) hd hfm hsv)
                    have HSV := Lib.hid (fun W => serves_any m need W)
                    rw [hsv] at HSV
                    have HPO : Hid (∀ W, Calls Try.prog 30 #[.agg #[.int .i64 m.at_, .int .i64 m.pg, .int .i64 m.inn, .int .i64 m.id, .int .i64 m.fr, .bool m.wr, .bool m.rn], .int .u64 c, .int .i64 d] W fun e w' => e = .returned (pcV (pcOf m c d)) ∧ Below W.heap.size W w') := fun W => pieceOf_any m c d W hgm hin hc1 (by omega) (by omega)
                    obtain ⟨q, hq⟩ : ∃ q, pcOf m c d = q := ⟨_, rfl⟩
                    rw [hq] at HSP HPO k1 k2 k3 k4 k5
                    unfold pcV at HPO
                    have hw1 : IntKind.u64.wrap q.n = q.n := by rw [IntKind.wrap_u64]; omega
                    have hw2 : IntKind.u64.wrap (c + q.n) = c + q.n := by rw [IntKind.wrap_u64]; omega
                    go_wp2_with (first
                      | (go_at_call 28; refine HMO.out.mono ?_; rintro e w2 ⟨rfl, hb2⟩)
                      | (go_at_call 29; refine (HSV.out _).mono ?_; rintro e w3 ⟨rfl, hb3⟩; obtain ⟨z0, z1, z2, z3, z4, z5, z6⟩ := (mpB_at w2 m).below hb3 (by simp))
                      | (go_at_call 30; refine (HPO.out _).mono ?_; rintro e w4 ⟨rfl, hb4⟩; refine Hid.out ?_))
                    refine Lib.hid ?_
                    have hb24 : Below wr.heap.size wr w4 := ((hb2.alloc hb2.size _).trans (hb3.mono (by simp; have := hb2.size; omega))).trans (hb4.mono (by have h1 := hb3.size; have h2 := hb2.size; simp at h1; omega))
                    clear z0 z1 z2 z3 z4 z5 z6 hb2 hb3 hb4 HMO HSV HPO
                    have hz4 := hb24.size
                    have hOwn := ((row_below hown hb24).alloc (.cells #[.int .i64 q.inn, .int .i64 q.id, .int .i64 q.off, .int .i64 q.n] 41)).alloc (.cells #[.int .i64 q.inn, .int .i64 q.id, .int .i64 q.off, .int .i64 q.n] 41)
                    have HN : Hid (∀ j u, (pcC q)[j]? = some u → ((w4.alloc (.cells #[.int .i64 q.inn, .int .i64 q.id, .int .i64 q.off, .int .i64 q.n] 41)).alloc (.cells #[.int .i64 q.inn, .int .i64 q.id, .int .i64 q.off, .int .i64 q.n] 41)).cell? ((⟨w4.heap.size + 1, 0, none⟩ : Addr).add j) = some u) := pc_new (w4.alloc (.cells #[.int .i64 q.inn, .int .i64 q.id, .int .i64 q.off, .int .i64 q.n] 41)) q (w4.heap.size + 1) (by simp)
                    have h63 : ps.length + 1 ≤ maxLen := by unfold maxLen; omega
                    have hby : (ps.length + 1) * 32 ≤ 140737488355328 := by omega
                    have hbW : w.heap.size ≤ ((w4.alloc (.cells #[.int .i64 q.inn, .int .i64 q.id, .int .i64 q.off, .int .i64 q.n] 41)).alloc (.cells #[.int .i64 q.inn, .int .i64 q.id, .int .i64 q.off, .int .i64 q.n] 41)).heap.size := by simp; omega
                    have hbX : Below w.heap.size w ((w4.alloc (.cells #[.int .i64 q.inn, .int .i64 q.id, .int .i64 q.off, .int .i64 q.n] 41)).alloc (.cells #[.int .i64 q.inn, .int .i64 q.id, .int .i64 q.off, .int .i64 q.n] 41)) := ((hbr.trans (hb24.mono hbs)).alloc (by omega) _).alloc (by simp; omega) _
                    have y3 : (w4.alloc (.cells #[.int .i64 q.inn, .int .i64 q.id, .int .i64 q.off, .int .i64 q.n] 41)).cell? ⟨w4.heap.size, 3, none⟩ = some (.int .i64 q.n) := by simp [go_sem]
                    have hX1 : w4.heap.size < w4.heap.size + 1 := by omega
                    have HOW := Lib.hid hown
                    clear hown
                    go_wp2_with (at_builtin; refine wpList_append_own _ rfl _ _ 34 rfl w.heap.size 41 i0 (.agg #[.int .i64 0, .int .i64 0, .int .i64 0, .int .i64 0]) 4 32 Try.underlying34 hi hz0 hz1 hz2 rfl (by decide) _ _ _ rfl hOwn ⟨w4.heap.size + 1, 0, none⟩ 1 1 (pcC q) rfl rfl HN.out (pc_one q) h63 hby hbW ?_; intro v' w5 hown' hgrow5 hnil5; refine Hid.out ?_)
                    refine Lib.hid ?_
                    have hb5 : Below w.heap.size w w5 := Below.grown hbX hgrow5 hbW (fun j hj => (hOwn.lt j hj).1)
                    have y5 : w5.cell? ⟨w4.heap.size, 3, none⟩ = some (.int .i64 q.n) := by
                      refine (World.cell?_of_block (hgrow5.block _ (by simp; omega) (fun e => ?_))).trans (((Below.refl (w4.heap.size + 1) _).alloc (by simp) _ |>.cell (p := ⟨w4.heap.size, 3, none⟩) (by simp)).trans y3)
                      have := ((row_below HOW.out hb24).lt _ e.symm).2
                      simp at this
                    have HO := Lib.hid hown'
                    have HBB := Lib.hid hb5
                    clear hown' hgrow5 hnil5 hOwn HN hbX y3 hb5
                    go_wp2
                    go_roundw
                    case rel =>
                      refine ⟨c + q.n, d - q.n, ps ++ [q], g, rfl, rfl, by omega, by omega, by omega, by omega, by omega, by simp; omega, ?_, ?_, HBB.out⟩
                      · rw [HX.out, HSP.out, Option.map_map]; congr 1; funext z; simp
                      · rw [flatP_append, List.length_append]; exact HO.out
                    case measure => simp [intOf]; omega
              · have hd0 : ¬ (0 : Int) < d := by omega
                have hO : spanO l a n need = some ps := by rw [HX.out, spans_zero _ _ _ _ _ (by omega)]; simp
                go_wp2
                go_ret2
                have hE : spanE l a n need = 0 := by unfold spanE; rw [if_neg (by simp [hA]), hO]
                have hL : spanL l a n need = ps := by unfold spanL; rw [if_neg (by simp [hA]), hO]; rfl
                exact ⟨_, ret_two rfl hE.symm, by rw [hL]; exact hown, hbr⟩
          · go_enter Try.func17, Try.ntmps17
            go_wp2_with (first | (go_at_call 14; refine HRT.out.mono ?_; rintro e w1 ⟨rfl, hb1⟩))
            go_ret2
            have hA : argOk l n need = false := by simp [argOk, hr]; omega
            have hE : spanE l a n need = 1 := by unfold spanE; rw [if_pos hA]
            have hL : spanL l a n need = [] := by unfold spanL; rw [if_pos hA]
            exact ⟨_, ret_two rfl hE.symm, by rw [hL]; exact World.ownsRow_nil _ _ _ _, hb1⟩
        · go_enter Try.func17, Try.ntmps17
          go_wp2_with (first | (go_at_call 14; refine HRT.out.mono ?_; rintro e w1 ⟨rfl, hb1⟩))
          go_ret2
          have hA : argOk l n need = false := by simp [argOk, hr]; omega
          have hE : spanE l a n need = 1 := by unfold spanE; rw [if_pos hA]
          have hL : spanL l a n need = [] := by unfold spanL; rw [if_pos hA]
          exact ⟨_, ret_two rfl hE.symm, by rw [hL]; exact World.ownsRow_nil _ _ _ _, hb1⟩
      · go_enter Try.func17, Try.ntmps17
        go_wp2_with (first | (go_at_call 14; refine HRT.out.mono ?_; rintro e w1 ⟨rfl, hb1⟩))
        go_ret2
        have hA : argOk l n need = false := by simp [argOk, hr]; omega
        have hE : spanE l a n need = 1 := by unfold spanE; rw [if_pos hA]
        have hL : spanL l a n need = [] := by unfold spanL; rw [if_pos hA]
        exact ⟨_, ret_two rfl hE.symm, by rw [hL]; exact World.ownsRow_nil _ _ _ _, hb1⟩
    · go_enter Try.func17, Try.ntmps17
      go_wp2_with (first | (go_at_call 14; refine HRT.out.mono ?_; rintro e w1 ⟨rfl, hb1⟩))
      go_ret2
      have hA : argOk l n need = false := by simp [argOk, hr]; omega
      have hE : spanE l a n need = 1 := by unfold spanE; rw [if_pos hA]
      have hL : spanL l a n need = [] := by unfold spanL; rw [if_pos hA]
      exact ⟨_, ret_two rfl hE.symm, by rw [hL]; exact World.ownsRow_nil _ _ _ _, hb1⟩
  · have hr' : rightS l = false := by simpa using hr
    rw [hr'] at HRT
    go_enter Try.func17, Try.ntmps17
    go_wp2_with (first | (go_at_call 14; refine HRT.out.mono ?_; rintro e w1 ⟨rfl, hb1⟩))
    go_ret2
    have hA : argOk l n need = false := by simp [argOk, hr']
    have hE : spanE l a n need = 1 := by unfold spanE; rw [if_pos hA]
    have hL : spanL l a n need = [] := by unfold spanL; rw [if_pos hA]
    exact ⟨_, ret_two rfl hE.symm, by rw [hL]; exact World.ownsRow_nil _ _ _ _, hb1⟩
end Go.Proofs.Ytddllchobojmlaa
