/- A mapping that is appended to a row of the call's own; what Cut of the reference answers. -/
import Derived.Test.YtddllchobojmlaaRefR
namespace Go.Proofs.Ytddllchobojmlaa
open Go.RowKit Go.Sort
theorem app_mp {W : World} {ops : Array Oper} {rest : List Oper} {o : Oper} {a : Act} {Q : Exit → Act → World → Prop} (hgd : o.guard = none) (s x : Operand)
    (ho : o.op = .call { callee := .builtin .append, args := #[s, x], argTypes := #[22, 22] }) (base n : Nat) (v : Value) (xs : List Mp) (y : Mp) (hs : a.eval s = v) (hown : W.ownsRow base 24 7 v n (flat xs)) (hb : base ≤ W.heap.size) (hn : n * 48 ≤ 140737488351232)
    (g : Nat) (hg : g = W.heap.size) (hx : a.eval x = .slice (some ⟨g, 0, none⟩) 1 1)
    (h : ∀ v' w', w'.ownsRow base 24 7 v' (n + 1) (flat (xs ++ [y])) → Below base W w' → (∀ k, k < W.heap.size → some k ≠ v.ownBlock → w'.heap[k]? = W.heap[k]?) → wpList Try.prog ops Q rest (a.put o.dst v') w') : wpList Try.prog ops Q (o :: rest) a (W.alloc (.cells #[.int .i64 y.at_, .int .i64 y.pg, .int .i64 y.inn, .int .i64 y.id, .int .i64 y.fr, .bool y.wr, .bool y.rn] 24)) := by
  subst hg
  obtain ⟨i0, hi, hz0, hz1, hz2⟩ := info_parts' mapInfo
  have hN : ∀ j u, (mpC y)[j]? = some u → (W.alloc (.cells #[.int .i64 y.at_, .int .i64 y.pg, .int .i64 y.inn, .int .i64 y.id, .int .i64 y.fr, .bool y.wr, .bool y.rn] 24)).cell? ((⟨W.heap.size, 0, none⟩ : Addr).add j) = some u := fun j u hu => by
    rw [addr_plus]
    exact (mpB_at W y).nth j u hu
  have hbW : Below base W (W.alloc (.cells #[.int .i64 y.at_, .int .i64 y.pg, .int .i64 y.inn, .int .i64 y.id, .int .i64 y.fr, .bool y.wr, .bool y.rn] 24)) := (Below.refl _ _).alloc hb _
  refine wpList_append_own _ hgd s x 22 ho base 24 i0 (.agg #[.int .i64 0, .int .i64 0, .int .i64 0, .int .i64 0, .int .i64 0, .bool false, .bool false]) 7 48 Try.underlying22 hi hz0 hz1 hz2 rfl (by decide) v n (flat xs) hs (hown.alloc _) ⟨W.heap.size, 0, none⟩ 1 1 (mpC y) hx rfl hN (fun u hu => flat_one [y] u (by simpa [flat] using hu)) (by unfold maxLen; omega) (by omega) (by simp; omega) ?_
  intro v' w' h1 h2 _
  refine h v' w' ?_ (Below.grown hbW h2 (by simp; omega) (fun j hj => (hown.lt j hj).1)) (fun k hk hne => (h2.block k (by simp; omega) hne).trans (Below.block ((Below.refl W.heap.size W).alloc (Nat.le_refl _) _) k hk))
  rw [flat_append, show flat [y] = mpC y from by simp [flat]]
  exact h1
def flt (x : Int) (l : List Mp) : List Mp := l.filter fun m => !(m.at_ == x)
theorem flt_take (x : Int) (l : List Mp) (k : Nat) (h : k < l.length) : flt x (l.take (k + 1)) = flt x (l.take k) ++ (if (l[k].at_ == x) = true then [] else [l[k]]) := by
  unfold flt
  rw [List.take_succ_eq_append_getElem h, List.filter_append, List.filter_cons, List.filter_nil]
  by_cases hh : (l[k].at_ == x) = true
  · simp [hh]
  · have hh' : (l[k].at_ == x) = false := by simpa using hh
    simp [hh']
theorem flt_len (x : Int) (l : List Mp) : (flt x l).length ≤ l.length := List.length_filter_le _ _
theorem idx_flt (x : Int) : ∀ (l : List Mp) (k : Nat), (∀ y ∈ l, goodM y = true) → l.Pairwise bef → match idxJ x l k with
    | none => flt x l = l
    | some i => (flt x l).length < l.length ∧ flt x l = l.take (i - k) ++ l.drop (i - k + 1)
  | [], k, _, _ => by simp [idxJ, flt]
  | y :: l, k, hg, hp => by
    rw [List.pairwise_cons] at hp
    have hgl : ∀ z ∈ l, goodM z = true := fun z hz => hg z (List.mem_cons_of_mem _ hz)
    by_cases he : (y.at_ == x) = true
    · have hf : flt x l = l := by
        unfold flt
        rw [List.filter_eq_self]
        intro z hz
        have h1 := hp.1 z hz
        have h2 := ((goodM_iff _).1 (hg y (List.mem_cons_self ..))).1
        unfold bef at h1
        simp at he ⊢; omega
      have hf2 : flt x (y :: l) = l := by
        have : flt x (y :: l) = flt x l := by unfold flt; simp [he]
        rw [this, hf]
      simp only [idxJ, he, if_true]
      rw [hf2]
      exact ⟨by simp, by simp⟩
    · have he' : (y.at_ == x) = false := by simpa using he
      have hf2 : flt x (y :: l) = y :: flt x l := by unfold flt; simp [he']
      have ih := idx_flt x l (k + 1) hgl hp.2
      simp only [idxJ, he', Bool.false_eq_true, if_false]
      rw [hf2]
      cases hj : idxJ x l (k + 1) with
      | none => rw [hj] at ih; simp only at ih ⊢; rw [ih]
      | some i =>
        rw [hj] at ih
        obtain ⟨h1, _⟩ := idxJ_lt x l (k + 1) i hj
        simp only at ih ⊢
        refine ⟨by simp; exact ih.1, ?_⟩
        rw [ih.2, show i - k = (i - (k + 1)) + 1 from by omega]
        simp
theorem cut_flt {l : List Mp} (x : Int) (hr : rightS l = true) : cutE l x = (if (flt x l).length = l.length then 4 else 0) ∧ cutL l x = (if (flt x l).length = l.length then [] else flt x l) := by
  obtain ⟨_, hg, hp⟩ := (rightS_iff l).1 hr
  have h := idx_flt x l 0 hg hp
  unfold cutE cutL
  cases hj : idxJ x l 0 with
  | none =>
    rw [hj] at h
    simp only at h
    simp [hr, h]
  | some i =>
    rw [hj] at h
    simp only [Nat.sub_zero] at h
    have hne : ¬ (flt x l).length = l.length := by omega
    rw [if_neg hne, if_neg hne, h.2]
    simp [hr]
set_option maxRecDepth 100000 in
set_option maxHeartbeats 2000000 in
theorem refCut_any (p : Option Addr) (cap : Nat) (l : List Mp) (x : Int) (w : World) (hR : RAt w p cap l) :
    Calls Try.prog 13 #[.slice p l.length cap, .int .i64 x] w fun e w' => ∃ v, e = .returned (.tuple #[v, .int .i64 (cutE l x)]) ∧ w'.ownsRow w.heap.size 24 7 v (cutL l x).length (flat (cutL l x)) ∧ Below w.heap.size w w' := by
  have hm : l.length ≤ maxLen := Nat.le_trans hR.len hR.top
  have HRT := Lib.hid (refRight_any p cap l w hm hR.row)
  by_cases hr : rightS l = true
  · rw [hr] at HRT
    have h16 : l.length ≤ 16 := ((rightS_iff l).1 hr).1
    obtain ⟨hCE, hCL⟩ := cut_flt x hr
    have HCE := Lib.hid hCE
    have HCL := Lib.hid hCL
    clear hCE hCL
    go_enter Try.func13, Try.ntmps13
    go_wp2_with (go_at_call 15; refine HRT.out.mono ?_; rintro e w1 ⟨rfl, hb1⟩; refine Hid.out ?_)
    refine Lib.hid ?_
    go_wp2_with fail
    have hOwn0 : (w1.alloc (.cells #[] 24)).ownsRow w.heap.size 24 7 (.slice (some ⟨w1.heap.size, 0, none⟩) 0 0) 0 (flat []) := World.ownsRow_lit (base := w.heap.size) (e := 24) (size := 7) w1 #[] 0 hb1.size (by decide) rfl
    have hB0 : Below w.heap.size w (w1.alloc (.cells #[] 24)) := hb1.alloc hb1.size _
    go_loopw [6, 15] (fun v i wr => ∃ k : Nat, k ≤ l.length ∧ i = .int .i64 k ∧ wr.ownsRow w.heap.size 24 7 v (flt x (l.take k)).length (flat (flt x (l.take k))) ∧ Below w.heap.size w wr) (fun _ i _ => l.length - (intOf i).toNat)
    case atStart => exact ⟨0, Nat.zero_le _, rfl, hOwn0, hB0⟩
    case round =>
      obtain ⟨k, hk, rfl, hown, hb⟩ := hrel
      have hbs := hb.size
      by_cases hlt : k < l.length
      · have hki : (k : Int) < (l.length : Int) := by omega
        obtain ⟨b, off, rfl, hbl, hq⟩ := hR.row k hlt
        obtain ⟨c0, c1, c2, c3, c4, c5, c6⟩ := hq.below hb hbl
        have hbr : b < wr.heap.size := by omega
        have HT := Lib.hid (flt_take x l k hlt)
        have hln : (flt x (l.take k)).length ≤ 16 := Nat.le_trans (flt_len x _) (by rw [List.length_take]; omega)
        obtain ⟨O, hO⟩ : ∃ O, flt x (l.take k) = O := ⟨_, rfl⟩
        rw [hO] at hown HT hln
        clear hq hO
        by_cases he : (l[k].at_ == x) = true
        · have hex : (l[k].at_ != x) = false := by simp [bne, he]
          go_wp2
          go_roundw
          case rel => exact ⟨k + 1, by omega, by go_num, by rw [HT.out, if_pos he, List.append_nil]; exact hown.alloc _, hb.alloc hbs _⟩
          case measure => simp [intOf]; omega
        · have he' : (l[k].at_ == x) = false := by simpa using he
          have hex : (l[k].at_ != x) = true := by simp [bne, he']
          have HOwn := Lib.hid (hown.alloc (.cells #[.int .i64 l[k].at_, .int .i64 l[k].pg, .int .i64 l[k].inn, .int .i64 l[k].id, .int .i64 l[k].fr, .bool l[k].wr, .bool l[k].rn] 24))
          have hbz : w.heap.size ≤ (wr.alloc (.cells #[.int .i64 l[k].at_, .int .i64 l[k].pg, .int .i64 l[k].inn, .int .i64 l[k].id, .int .i64 l[k].fr, .bool l[k].wr, .bool l[k].rn] 24)).heap.size := by simp; omega
          have hbX : Below w.heap.size w (wr.alloc (.cells #[.int .i64 l[k].at_, .int .i64 l[k].pg, .int .i64 l[k].inn, .int .i64 l[k].id, .int .i64 l[k].fr, .bool l[k].wr, .bool l[k].rn] 24)) := hb.alloc hbs _
          clear hown
          go_wp2_with (at_builtin; refine app_mp rfl _ _ rfl w.heap.size O.length u6 O l[k] rfl HOwn.out hbz (by omega) (wr.heap.size + 1) (by simp) rfl ?_; intro v' w5 hown' hb5 hk5; have HO := Lib.hid hown'; have HB := Lib.hid hb5; clear hown' hb5 hk5)
          go_roundw
          case rel => exact ⟨k + 1, by omega, by go_num, by rw [HT.out, if_neg he, List.length_append]; exact HO.out, hbX.trans HB.out⟩
          case measure => simp [intOf]; omega
      · obtain rfl : k = l.length := by omega
        have hkk : ¬ (l.length : Int) < (l.length : Int) := by omega
        rw [List.take_length] at hown
        obtain ⟨sp, cp, hv⟩ := row_form hown
        subst hv
        by_cases hle : (flt x l).length = l.length
        · have hle' : (((flt x l).length : Int) == (l.length : Int)) = true := by simp [hle]
          have HLE := Lib.hid hle
          clear hle
          go_wp2
          go_ret2
          exact ⟨_, ret_two rfl (by rw [HCE.out, if_pos HLE.out]), by rw [HCL.out, if_pos HLE.out]; exact World.ownsRow_nil _ _ _ _, hb⟩
        · have hle' : (((flt x l).length : Int) == (l.length : Int)) = false := by simp; omega
          have HLE := Lib.hid hle
          clear hle
          go_wp2
          go_ret2
          exact ⟨_, ret_two rfl (by rw [HCE.out, if_neg HLE.out]), by rw [HCL.out, if_neg HLE.out]; exact hown, hb⟩
  · have hr' : rightS l = false := by simpa using hr
    rw [hr'] at HRT
    go_enter Try.func13, Try.ntmps13
    go_wp2_with (go_at_call 15; refine HRT.out.mono ?_; rintro e w1 ⟨rfl, hb1⟩)
    go_ret2
    have hE : cutE l x = 1 := by unfold cutE; simp [hr']
    have hL : cutL l x = [] := by unfold cutL; simp [hr']
    exact ⟨_, ret_two rfl hE.symm, by rw [hL]; exact World.ownsRow_nil _ _ _ _, hb1⟩
end Go.Proofs.Ytddllchobojmlaa
