/- What Used, Room and box of the reference answer. -/
import Derived.Test.YtebcnlhgkpaghaaRefP
import Derived.Deep.DeepCutAuto
namespace Go.Proofs.Ytebcnlhgkpaghaa
open Go.RowKit Go.Sort
theorem tsum_step {f : Int → Int} {l : List Int} {k : Nat} (hk : k < l.length) : ((l.take (k + 1)).map f).sum = ((l.take k).map f).sum + f l[k] := by
  rw [List.take_succ_eq_append_getElem hk, isum_app]
theorem tsum_le {f : Int → Int} {l : List Int} (hf : ∀ x, 0 ≤ f x) (k : Nat) : 0 ≤ ((l.take k).map f).sum ∧ ((l.take k).map f).sum ≤ (l.map f).sum := by
  refine ⟨isum_nonneg _ (fun x _ => hf x), ?_⟩
  have h1 := isum_nonneg (f := f) (l.drop k) (fun x _ => hf x)
  have h2 : (l.map f).sum = ((l.take k).map f).sum + ((l.drop k).map f).sum := by
    conv => lhs; rw [← List.take_append_drop k l]
    rw [List.map_append, List.sum_append]
  omega
section
variable {w : World} {rb g cap : Nat} {cs : Array Value} {root : Int} {L : List Th} {F : Nat → Prop} {S : Abs} {K : List Int} {rt : Int}
set_option maxRecDepth 100000 in
set_option maxHeartbeats 4000000 in
theorem rUsed_any (h : RS w rb g cap cs root L F) (hr : RelD S L []) (hi : Inv rt S K) (ix : Nat) (hix : ix < L.length) {o : Ob} (ho : S L[ix].id = some o) :
    Calls Try.prog 58 #[.pointer (some ⟨rb, 0, none⟩), .int .i64 ix] w fun e w' => e = .returned (.int .i64 o.used) ∧ Below w.heap.size w w' := by
  obtain ⟨o', ho', hm⟩ := hr.yes _ (List.getElem_mem hix) (by simp)
  obtain rfl : o = o' := Option.some.inj (ho.symm.trans ho')
  have hge := hi.ok _ _ ho
  have hq := hge.q
  have hle := hge.le
  have hus := hge.us
  rw [hm.2.2.2.2] at hus
  obtain ⟨l, hl⟩ : ∃ l, L[ix].ents = l := ⟨_, rfl⟩
  have HT : Hid (∀ k, 0 ≤ ((l.take k).map (qS S)).sum ∧ ((l.take k).map (qS S)).sum ≤ o.used) := fun k => by rw [hus, hl]; exact tsum_le hi.qpos k
  have HU : Hid (o.used = (l.map (qS S)).sum) := by simp only [Hid]; rw [hus, hl]
  have HE : Hid (∀ k (hk : k < l.length), ∃ j, ∃ hj : j < L.length, L[j].id = l[k] ∧ L[j].quota = qS S l[k] ∧ 0 ≤ qS S l[k] ∧ qS S l[k] ≤ 1099511627776) := fun k hk => by
    obtain ⟨p, hp⟩ := hi.ent ho (x := l[k]) (by rw [hm.2.2.2.2, hl]; exact List.getElem_mem hk)
    obtain ⟨j, hj, e1, e2⟩ := hr.pos hp
    have hgp := hi.ok _ _ hp
    have : qS S l[k] = p.quota := by unfold qS; rw [hp]
    exact ⟨j, hj, e1, by rw [this]; exact e2.2.1.symm, by rw [this]; have := hgp.q; omega, by rw [this]; exact hgp.q.2⟩
  have HA : Hid (∀ W, Below w.heap.size w W → ∀ j (hj : j < L.length), Calls Try.prog 51 #[.pointer (some ⟨rb, 0, none⟩), .int .i64 L[j].id] W fun e w' => e = .returned (.int .i64 j) ∧ Below W.heap.size W w') := fun W hb j hj => (rAt_any (h.below hb) L[j].id).mono fun e w' ⟨a, b⟩ => ⟨by rw [a, atL_yes 0 hj h.nd rfl]; simp, by rw [b]; exact Below.refl _ _⟩
  have HH := Lib.hid h
  have hln := (h.lim.2 _ (List.getElem_mem hix)).2
  have hLn := h.lim.1
  rw [hl] at hln
  obtain ⟨h0, h1⟩ := h.hd
  obtain ⟨_, _, _, _, _, c5⟩ := h.six hix
  have hii : (ix : Int) < (L.length : Int) := by omega
  rw [hl] at c5
  have HC : Hid (IntsAt w L[ix].lp l) := by have := (h.cat _ (List.getElem_mem hix)).2; rw [hl] at this; exact this
  generalize L[ix].lp = tl at c5 HC
  generalize L[ix].lc = tc at c5
  clear h hr hi ho ho' hm hge hus
  go_enter Try.func58, Try.ntmps58
  go_wp2_with fail
  go_loopw [5, 17] (fun z y wr => ∃ k : Nat, y = .int .i64 k ∧ k ≤ l.length ∧ z = .int .i64 ((l.take k).map (qS S)).sum ∧ Below w.heap.size w wr) (fun _ y _ => (l.length - (RowKit.intOf y).toNat))
  case atStart => exact ⟨0, rfl, Nat.zero_le _, rfl, Below.refl _ _⟩
  case round =>
    obtain ⟨k, rfl, hk, rfl, hB⟩ := hrel
    by_cases hlt : k < l.length
    · have hki : (k : Int) < (l.length : Int) := by omega
      obtain ⟨b, off, rfl, hbl, hcl⟩ := (HC.out.below hB) k hlt
      obtain ⟨j, hj, e1, e2, e3, e4⟩ := HE.out k hlt
      have ht := HT.out k
      have ht2 := HT.out (k + 1)
      have hst := tsum_step (f := qS S) hlt
      have HS := Lib.hid hst
      have hA := fun W hb => HA.out W hb j hj
      obtain ⟨s6, _, s8, _⟩ := (HH.out.below hB).six hj
      obtain ⟨_, s1⟩ := (HH.out.below hB).hd
      rw [hst] at ht2
      rw [e2] at s8
      rw [e1] at hA
      have hgl := (HH.out.below hB).rl
      have hji : (j : Int) < (L.length : Int) := by omega
      obtain ⟨W1, rfl⟩ : ∃ W1, W1 = wr := ⟨wr, rfl⟩
      have g1 : ∀ n' os, (gx W1 n' os).cell? ⟨rb, 1, none⟩ = some (.slice (some ⟨g, 0, none⟩) L.length cap) := cell_gx hgl.1 s1
      have g8 : ∀ n' os, (gx W1 n' os).cell? ⟨g, j * 6 + 2, none⟩ = some (.int .i64 (qS S l[k])) := cell_gx hgl.2 s8
      have HAx : Hid (∀ n' os, Calls Try.prog 51 #[.pointer (some ⟨rb, 0, none⟩), .int .i64 l[k]] (gx W1 n' os) fun e w' => e = .returned (.int .i64 j) ∧ Below (gx W1 n' os).heap.size (gx W1 n' os) w') := fun n' os => hA _ (hB.trans ((gx_below W1 n' os).mono hB.size))
      generalize l[k] = xk at *
      generalize qS S xk = qk at *
      generalize ((l.take k).map (qS S)).sum = sk at *
      clear hA s6 s8 s1 e1 e2 hst
      go_upto_region 5 with fail
      refine wp_region_quiet_gx (by kernel_rfl) (by kernel_rfl) ?_
      repeat (first | go_big_quiet_step (first
        | (go_at_call 51; with_reducible exact calls_gx (HAx.out _ _))) | (refine wpQuiet_step (fun K hK => ?_); go_simp; split <;> first | (exfalso; omega) | (refine hK _ ?_; clear hK K)))
      refine wpQuiet_nil ?_
      intro _ hw'
      obtain ⟨⟨nq, osq⟩, hw''⟩ := hw'
      subst hw''
      go_wp2_with fail
      go_roundw
      case rel => exact ⟨k + 1, by go_num, by omega, by rw [HS.out], hB.trans ((gx_below W1 nq osq).mono hB.size)⟩
      case measure => simp [RowKit.intOf]; omega
    · obtain rfl : k = l.length := by omega
      have hkk : ¬ (l.length : Int) < (l.length : Int) := by omega
      go_wp2_with fail
      go_ret
      exact ⟨by rw [HU.out]; first | rfl | (rw [List.take_length]; rfl), hB⟩
set_option maxRecDepth 100000 in
set_option maxHeartbeats 4000000 in
theorem rRoom_any (h : RS w rb g cap cs root L F) (hr : RelD S L []) (hi : Inv rt S K) (ix : Nat) (hix : ix < L.length) {o : Ob} (ho : S L[ix].id = some o) :
    Calls Try.prog 52 #[.pointer (some ⟨rb, 0, none⟩), .int .i64 ix] w fun e w' => e = .returned (.int .i64 (o.quota - o.used)) ∧ Below w.heap.size w w' := by
  have hge := hi.ok _ _ ho
  have hq := hge.q
  have hle := hge.le
  have hup := hi.upos ho
  obtain ⟨o', ho', hm⟩ := hr.yes _ (List.getElem_mem hix) (by simp)
  obtain rfl : o = o' := Option.some.inj (ho.symm.trans ho')
  obtain ⟨h0, h1⟩ := h.hd
  obtain ⟨_, _, c2, _⟩ := h.six hix
  rw [← hm.2.1] at c2
  have hgl := h.rl
  have hLn := h.lim.1
  have hii : (ix : Int) < (L.length : Int) := by omega
  have g1 : ∀ n' os, (gx w n' os).cell? ⟨rb, 1, none⟩ = some (.slice (some ⟨g, 0, none⟩) L.length cap) := cell_gx hgl.1 h1
  have g2 : ∀ n' os, (gx w n' os).cell? ⟨g, ix * 6 + 2, none⟩ = some (.int .i64 o.quota) := cell_gx hgl.2 c2
  have HU : Hid (∀ n' os, Calls Try.prog 58 #[.pointer (some ⟨rb, 0, none⟩), .int .i64 ix] (gx w n' os) fun e w' => e = .returned (.int .i64 o.used) ∧ Below (gx w n' os).heap.size (gx w n' os) w') := fun n' os => rUsed_any (h.below (gx_below w n' os)) hr hi ix hix ho
  clear h hr hi ho ho' hm hge c2 h0 h1
  go_enter Try.func52, Try.ntmps52
  go_upto_region 1 with fail
  refine wp_region_quiet_gx (by kernel_rfl) (by kernel_rfl) ?_
  repeat (first | go_big_quiet_step (first
    | (go_at_call 58; with_reducible exact calls_gx (HU.out _ _))) | (refine wpQuiet_step (fun K hK => ?_); go_simp; split <;> first | (exfalso; omega) | (refine hK _ ?_; clear hK K)))
  refine wpQuiet_nil ?_
  intro _ hw'
  obtain ⟨⟨nq, osq⟩, hw''⟩ := hw'
  subst hw''
  go_wp2_with fail
  go_ret
  exact ⟨rfl, gx_below w nq osq⟩
theorem rbox_none (h : RS w rb g cap cs root L F) (id : Int) (hno : ∀ t ∈ L, t.id ≠ id) : Calls Try.prog 50 #[.pointer (some ⟨rb, 0, none⟩), .int .i64 id] w fun e w' => e = .returned (.tuple #[.int .i64 (-1), .int .i64 4]) ∧ w' = w := by
  have HA := Lib.hid (rAt_any h id)
  rw [atL_no 0 hno] at HA
  clear h hno
  go_enter Try.func50, Try.ntmps50
  go_wp2_with (go_at_call 51; refine HA.out.mono ?_; rintro e w' ⟨rfl, hw'⟩; rw [hw']; clear hw' w')
  go_ret2
  exact ⟨rfl, rfl⟩
theorem rbox_some (h : RS w rb g cap cs root L F) (id : Int) (k : Nat) (hk : k < L.length) (he : L[k].id = id) : Calls Try.prog 50 #[.pointer (some ⟨rb, 0, none⟩), .int .i64 id] w fun e w' => e = .returned (.tuple (if L[k].kind = 1 then #[.int .i64 k, .int .i64 0] else #[.int .i64 (-1), .int .i64 5])) ∧ w' = w := by
  have HA := Lib.hid (rAt_any h id)
  rw [atL_yes 0 hk h.nd he, Nat.zero_add] at HA
  obtain ⟨h0, h1⟩ := h.hd
  obtain ⟨_, c1, _⟩ := h.six hk
  have hLn := h.lim.1
  have hii : (k : Int) < (L.length : Int) := by omega
  have hk0 : ¬ (k : Int) < 0 := by omega
  generalize L[k].kind = kd at c1 ⊢
  clear h he
  by_cases e : kd = 1
  · subst e
    go_enter Try.func50, Try.ntmps50
    go_wp2_with (go_at_call 51; refine HA.out.mono ?_; rintro e w' ⟨rfl, hw'⟩; rw [hw']; clear hw' w')
    go_ret2
    exact ⟨rfl, rfl⟩
  · have eb : (kd != 1) = true := by simpa using e
    go_enter Try.func50, Try.ntmps50
    go_wp2_with (go_at_call 51; refine HA.out.mono ?_; rintro e w' ⟨rfl, hw'⟩; rw [hw']; clear hw' w')
    go_ret2
    exact ⟨by first | rfl | (rw [if_neg e]; rfl), rfl⟩
/-- The error of a container's number. -/
def contS (S : Abs) (i : Int) : Int := match S i with
  | none => 4
  | some o => if o.kind = 1 then 0 else 5
end
end Go.Proofs.Ytebcnlhgkpaghaa
