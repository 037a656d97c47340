/- What Has, List and Shift of the reference do. -/
import Derived.Test.YtebcnlhgkpaghaaRefL
namespace Go.Proofs.Ytebcnlhgkpaghaa
open Go.RowKit Go.Sort
section
variable {w : World} {rb g cap : Nat} {cs : Array Value} {root : Int} {L : List Th} {F : Nat → Prop} {S : Abs} {K : List Int} {rt : Int}
def hasB (S : Abs) (i x : Int) : Bool := match S i with
  | none => false
  | some o => decide (o.kind = 1) && inB o.ents x
set_option maxRecDepth 100000 in
set_option maxHeartbeats 2000000 in
theorem rHas_any (h : RS w rb g cap cs root L F) (hr : RelD S L []) (i x : Int) :
    Calls Try.prog 32 #[.pointer (some ⟨rb, 0, none⟩), .int .i64 i, .int .i64 x] w fun e w' => e = .returned (.bool (hasB S i x)) ∧ w' = w := by
  obtain ⟨h0, h1⟩ := h.hd
  have hLn := h.lim.1
  cases hS : S i with
  | none =>
    have HB := Lib.hid (rbox_none h i (hr.nopos hS))
    have HE : Hid (hasB S i x = false) := by simp only [Hid]; unfold hasB; rw [hS]
    clear h hr
    go_enter Try.func32, Try.ntmps32
    go_wp2_with (go_at_call 50; with_reducible refine Calls.mono HB.out ?_; rintro e w' ⟨rfl, hw'⟩; rw [hw']; clear hw' w')
    go_ret
    exact ⟨by rw [HE.out]; rfl, rfl⟩
  | some o =>
    obtain ⟨k, hk, e, m⟩ := hr.pos hS
    have HB := Lib.hid (rbox_some h i k hk e)
    rw [← m.1] at HB
    obtain ⟨_, _, _, _, _, c5⟩ := h.six hk
    have hI := (h.cat _ (List.getElem_mem hk)).2
    have hl := (h.lim.2 _ (List.getElem_mem hk)).2
    rw [← m.2.2.2.2] at c5 hI hl
    have HIn := Lib.hid (In_any w L[k].lp L[k].lc o.ents x hI hl)
    have HE : Hid (hasB S i x = (decide (o.kind = 1) && inB o.ents x)) := by simp only [Hid]; unfold hasB; rw [hS]
    have hki : (k : Int) < (L.length : Int) := by omega
    generalize L[k].lp = lp at c5 HIn
    generalize L[k].lc = lc at c5 HIn
    generalize hin : inB o.ents x = bb at HIn HE
    clear h hr hI hl m e
    by_cases hk1 : o.kind = 1
    · rw [if_pos hk1] at HB
      have HE2 : Hid (hasB S i x = bb) := by simp only [Hid]; rw [HE.out]; simp [hk1]
      go_enter Try.func32, Try.ntmps32
      go_wp2_with (first | (go_at_call 50; with_reducible refine Calls.mono HB.out ?_; rintro e w' ⟨rfl, hw'⟩; rw [hw']; clear hw' w') | (go_at_call 54; with_reducible refine Calls.mono HIn.out ?_; rintro e w' ⟨rfl, hw'⟩; rw [hw']; clear hw' w'))
      go_ret
      exact ⟨by rw [HE2.out]; rfl, rfl⟩
    · rw [if_neg hk1] at HB
      have HE2 : Hid (hasB S i x = false) := by simp only [Hid]; rw [HE.out]; simp [hk1]
      go_enter Try.func32, Try.ntmps32
      go_wp2_with (first | (go_at_call 50; with_reducible refine Calls.mono HB.out ?_; rintro e w' ⟨rfl, hw'⟩; rw [hw']; clear hw' w'))
      go_ret
      exact ⟨by rw [HE2.out]; rfl, rfl⟩
def listS (S : Abs) (i : Int) : List Int := match S i with
  | none => []
  | some o => if o.kind = 1 then o.ents else []
set_option maxRecDepth 100000 in
set_option maxHeartbeats 2000000 in
theorem rList_any (h : RS w rb g cap cs root L F) (hr : RelD S L []) (i : Int) :
    Calls Try.prog 36 #[.pointer (some ⟨rb, 0, none⟩), .int .i64 i] w fun e w' => ∃ p c, e = .returned (.tuple #[.slice p (listS S i).length c, .int .i64 (contS S i)]) ∧ IntsAt w p (listS S i) ∧ w' = w := by
  obtain ⟨h0, h1⟩ := h.hd
  have hLn := h.lim.1
  have nil : IntsAt w none [] := fun j hj => by simp at hj
  cases hS : S i with
  | none =>
    have HB := Lib.hid (rbox_none h i (hr.nopos hS))
    have HE : Hid (listS S i = [] ∧ contS S i = 4) := by simp only [Hid]; unfold listS contS; rw [hS]; exact ⟨rfl, rfl⟩
    clear h hr
    go_enter Try.func36, Try.ntmps36
    go_wp2_with (go_at_call 50; with_reducible refine Calls.mono HB.out ?_; rintro e w' ⟨rfl, hw'⟩; rw [hw']; clear hw' w')
    go_ret2
    rw [HE.out.1, HE.out.2]
    exact ⟨none, 0, rfl, nil, rfl⟩
  | some o =>
    obtain ⟨k, hk, e, m⟩ := hr.pos hS
    have HB := Lib.hid (rbox_some h i k hk e)
    rw [← m.1] at HB
    obtain ⟨_, _, _, _, _, c5⟩ := h.six hk
    have hI := (h.cat _ (List.getElem_mem hk)).2
    rw [← m.2.2.2.2] at c5 hI
    have HI := Lib.hid hI
    have hki : (k : Int) < (L.length : Int) := by omega
    generalize L[k].lp = lp at c5 HI
    generalize L[k].lc = lc at c5
    clear h hr hI m e
    by_cases hk1 : o.kind = 1
    · rw [if_pos hk1] at HB
      have HE : Hid (listS S i = o.ents ∧ contS S i = 0) := by simp only [Hid]; unfold listS contS; rw [hS]; exact ⟨if_pos hk1, if_pos hk1⟩
      go_enter Try.func36, Try.ntmps36
      go_wp2_with (first | (go_at_call 50; with_reducible refine Calls.mono HB.out ?_; rintro e w' ⟨rfl, hw'⟩; rw [hw']; clear hw' w'))
      go_ret2
      rw [HE.out.1, HE.out.2]
      exact ⟨lp, lc, rfl, HI.out, rfl⟩
    · rw [if_neg hk1] at HB
      have HE : Hid (listS S i = [] ∧ contS S i = 5) := by simp only [Hid]; unfold listS contS; rw [hS]; exact ⟨if_neg hk1, if_neg hk1⟩
      go_enter Try.func36, Try.ntmps36
      go_wp2_with (first | (go_at_call 50; with_reducible refine Calls.mono HB.out ?_; rintro e w' ⟨rfl, hw'⟩; rw [hw']; clear hw' w'))
      go_ret2
      rw [HE.out.1, HE.out.2]
      exact ⟨none, 0, rfl, nil, rfl⟩
/-- The error of an entry: the container's, or that it isn't there. -/
def entC (S : Abs) (i x : Int) : Int := match S i with
  | none => 4
  | some o => if o.kind = 1 then (if inB o.ents x = true then 0 else 4) else 5
def shiftS (S : Abs) (i x n : Int) : Int := if entC S i x ≠ 0 then entC S i x else match S i, S x with
  | some o, some p => if p.kind ≠ 1 then 5 else if n < -1099511627776 ∨ 1099511627776 < n then 1 else if o.quota - o.used < n ∨ p.quota - p.used < -n ∨ p.quota + n < 1 then 6 else 0
  | _, _ => 4
def shiftT (S : Abs) (i x n : Int) : Abs := if shiftS S i x n = 0 then (match S i, S x with
  | some o, some p => updS (updS S i { o with used := o.used + n }) x { p with quota := p.quota + n }
  | _, _ => S) else S
theorem shiftT_no {S : Abs} {i x n : Int} (h : shiftS S i x n ≠ 0) : shiftT S i x n = S := by unfold shiftT; rw [if_neg h]
theorem RelD.quo (hr : RelD S L []) (hnd : (L.map (·.id)).Nodup) {x q : Int} {p : Ob} {k : Nat} (hk : k < L.length) (ei : L[k].id = x) (mi : Mt p L[k]) : RelD (updS S x { p with quota := q }) (L.set k { L[k] with quota := q }) [] := by
  refine hr.set hnd hk (t := { L[k] with quota := q }) rfl (fun j hj => updS_ne _ _ (fun e => hj (e.trans ei.symm))) ⟨fun _ => ⟨{ p with quota := q }, ?_, ?_⟩, (fun hD => by cases hD)⟩
  · show updS S x _ L[k].id = _
    rw [ei]; exact updS_at _ _ _
  · exact ⟨mi.1, rfl, mi.2.2.1, mi.2.2.2.1, mi.2.2.2.2⟩
set_option maxRecDepth 100000 in
set_option maxHeartbeats 4000000 in
theorem rShift_any (h : RS w rb g cap cs root L F) (hr : RelD S L []) (hi : Inv rt S K) (i x n : Int) :
    Calls Try.prog 24 #[.pointer (some ⟨rb, 0, none⟩), .int .i64 i, .int .i64 x, .int .i64 n] w fun e w' => e = .returned (.int .i64 (shiftS S i x n)) ∧ RStep w w' rb g root F (shiftT S i x n) := by
  have HH := Lib.hid h
  have HR := Lib.hid hr
  obtain ⟨h0, h1⟩ := h.hd
  have hLn := h.lim.1
  cases hS : S i with
  | none =>
    have HB := Lib.hid (rbox_none h i (hr.nopos hS))
    have HE : Hid (shiftS S i x n = 4) := by simp only [Hid]; unfold shiftS entC; rw [hS]; rfl
    clear h hr hi
    go_enter Try.func24, Try.ntmps24
    go_wp2_with (go_at_call 50; with_reducible refine Calls.mono HB.out ?_; rintro e w' ⟨rfl, hw'⟩; rw [hw']; clear hw' w')
    go_ret
    exact ⟨by rw [HE.out]; rfl, by rw [shiftT_no (by rw [HE.out]; decide)]; exact RStep.still HH.out HR.out (Below.refl _ _)⟩
  | some o =>
    obtain ⟨ki, hki, ei, mi⟩ := hr.pos hS
    have HB := Lib.hid (rbox_some h i ki hki ei)
    rw [← mi.1] at HB
    obtain ⟨_, _, _, _, _, i5⟩ := h.six hki
    have hiI := (h.cat _ (List.getElem_mem hki)).2
    have hiL := (h.lim.2 _ (List.getElem_mem hki)).2
    rw [← mi.2.2.2.2] at i5 hiI hiL
    have HIn := Lib.hid (In_any w L[ki].lp L[ki].lc o.ents x hiI hiL)
    have hkii : (ki : Int) < (L.length : Int) := by omega
    generalize L[ki].lp = lp at i5 HIn
    generalize L[ki].lc = lc at i5 HIn
    by_cases hk1 : o.kind = 1
    · rw [if_pos hk1] at HB
      by_cases hin : inB o.ents x = true
      · rw [hin] at HIn
        obtain ⟨p, hx⟩ := hi.ent hS (inB_iff.1 hin)
        obtain ⟨kx, hkx, ex, mx⟩ := hr.pos hx
        have HA := Lib.hid (rAt_any h x)
        rw [atL_yes 0 hkx h.nd ex, Nat.zero_add] at HA
        obtain ⟨_, x1, x2, _⟩ := h.six hkx
        rw [← mx.1] at x1
        rw [← mx.2.1] at x2
        have hkxi : (kx : Int) < (L.length : Int) := by omega
        have hgo := hi.ok _ _ hS
        have hgp := hi.ok _ _ hx
        have hqo := hgo.q
        have hqp := hgp.q
        have hleo := hgo.le
        have hlep := hgp.le
        have hupo := hi.upos hS
        have hupp := hi.upos hx
        have hqs : p.quota ≤ o.used := by
          rw [hgo.us]
          have := isum_mem (f := qS S) (l := o.ents) (fun y _ => hi.qpos y) (inB_iff.1 hin)
          unfold qS at this
          rw [hx] at this
          exact this
        have HRi : Hid (∀ W, Below w.heap.size w W → Calls Try.prog 52 #[.pointer (some ⟨rb, 0, none⟩), .int .i64 ki] W fun e w' => e = .returned (.int .i64 (o.quota - o.used)) ∧ Below W.heap.size W w') := fun W hb => rRoom_any (h.below hb) hr hi ki hki (by rw [ei]; exact hS)
        have HRx : Hid (∀ W, Below w.heap.size w W → Calls Try.prog 52 #[.pointer (some ⟨rb, 0, none⟩), .int .i64 kx] W fun e w' => e = .returned (.int .i64 (p.quota - p.used)) ∧ Below W.heap.size W w') := fun W hb => rRoom_any (h.below hb) hr hi kx hkx (by rw [ex]; exact hx)
        have HE : Hid (shiftS S i x n = if p.kind ≠ 1 then 5 else if n < -1099511627776 ∨ 1099511627776 < n then 1 else if o.quota - o.used < n ∨ p.quota - p.used < -n ∨ p.quota + n < 1 then 6 else 0) := by
          simp only [Hid]; unfold shiftS entC; rw [hS, hx]; simp only [hk1, hin]; rfl
        have Hmx := Lib.hid mx
        have Hex := Lib.hid ex
        have HSi := Lib.hid hS
        have HSx := Lib.hid hx
        have hslf : i ≠ x := fun e => hgo.slf (by rw [e]; exact inB_iff.1 hin)
        have HC : Hid (∀ W, Below w.heap.size w W → W.cell? ⟨rb, 1, none⟩ = some (.slice (some ⟨g, 0, none⟩) L.length cap) ∧ W.cell? ⟨g, kx * 6 + 2, none⟩ = some (.int .i64 p.quota) ∧ W.frozen? ⟨g, kx * 6 + 2, none⟩ = false) := fun W hb => by
          have hW := h.below hb
          have := (hW.six hkx).2.2.1
          rw [← mx.2.1] at this
          exact ⟨hW.hd.2, this, by simp [World.frozen?, hW.blk]⟩
        clear h hr hi hiI hiL mi mx ei ex hgo hgp
        by_cases hpk : p.kind = 1
        · rw [if_neg (by simpa using hpk)] at HE
          by_cases ha : n < -1099511627776 ∨ 1099511627776 < n
          · rw [if_pos ha] at HE
            rcases ha with ha | ha
            · go_enter Try.func24, Try.ntmps24
              go_wp2_with (first | (go_at_call 50; with_reducible refine Calls.mono HB.out ?_; rintro e w' ⟨rfl, hw'⟩; rw [hw']; clear hw' w') | (go_at_call 54; with_reducible refine Calls.mono HIn.out ?_; rintro e w' ⟨rfl, hw'⟩; rw [hw']; clear hw' w') | (go_at_call 51; with_reducible refine Calls.mono HA.out ?_; rintro e w' ⟨rfl, hw'⟩; rw [hw']; clear hw' w'))
              go_ret
              exact ⟨by rw [HE.out]; rfl, by rw [shiftT_no (by rw [HE.out]; decide)]; exact RStep.still HH.out HR.out (Below.refl _ _)⟩
            · have ha' : ¬ n < -1099511627776 := by omega
              go_enter Try.func24, Try.ntmps24
              go_wp2_with (first | (go_at_call 50; with_reducible refine Calls.mono HB.out ?_; rintro e w' ⟨rfl, hw'⟩; rw [hw']; clear hw' w') | (go_at_call 54; with_reducible refine Calls.mono HIn.out ?_; rintro e w' ⟨rfl, hw'⟩; rw [hw']; clear hw' w') | (go_at_call 51; with_reducible refine Calls.mono HA.out ?_; rintro e w' ⟨rfl, hw'⟩; rw [hw']; clear hw' w'))
              go_ret
              exact ⟨by rw [HE.out]; rfl, by rw [shiftT_no (by rw [HE.out]; decide)]; exact RStep.still HH.out HR.out (Below.refl _ _)⟩
          · rw [if_neg ha] at HE
            have ha1 : ¬ n < -1099511627776 := by omega
            have ha2 : ¬ 1099511627776 < n := by omega
            by_cases q1 : o.quota - o.used < n
            · rw [if_pos (.inl q1)] at HE
              go_enter Try.func24, Try.ntmps24
              go_wp2_with (first | (go_at_call 50; with_reducible refine Calls.mono HB.out ?_; rintro e w' ⟨rfl, hw'⟩; rw [hw']; clear hw' w') | (go_at_call 54; with_reducible refine Calls.mono HIn.out ?_; rintro e w' ⟨rfl, hw'⟩; rw [hw']; clear hw' w') | (go_at_call 51; with_reducible refine Calls.mono HA.out ?_; rintro e w' ⟨rfl, hw'⟩; rw [hw']; clear hw' w') | (go_at_call 52; with_reducible refine Calls.mono (HRi.out _ (Below.refl _ _)) ?_; rintro e w2 ⟨rfl, hb2⟩; have HB2 := Lib.hid hb2; clear hb2))
              go_ret
              exact ⟨by rw [HE.out]; rfl, by rw [shiftT_no (by rw [HE.out]; decide)]; exact RStep.still HH.out HR.out HB2.out⟩
            · by_cases q2 : p.quota - p.used < -n
              · rw [if_pos (.inr (.inl q2))] at HE
                go_enter Try.func24, Try.ntmps24
                go_wp2_with (first | (go_at_call 50; with_reducible refine Calls.mono HB.out ?_; rintro e w' ⟨rfl, hw'⟩; rw [hw']; clear hw' w') | (go_at_call 54; with_reducible refine Calls.mono HIn.out ?_; rintro e w' ⟨rfl, hw'⟩; rw [hw']; clear hw' w') | (go_at_call 51; with_reducible refine Calls.mono HA.out ?_; rintro e w' ⟨rfl, hw'⟩; rw [hw']; clear hw' w') | (go_at_call 52; with_reducible refine Calls.mono (HRi.out _ (Below.refl _ _)) ?_; rintro e w2 ⟨rfl, hb2⟩; have HB2 := Lib.hid hb2; clear hb2) | (go_at_call 52; with_reducible refine Calls.mono (HRx.out _ HB2.out) ?_; rintro e w3 ⟨rfl, hb3⟩; have HB3 := Lib.hid (HB2.out.trans (hb3.mono HB2.out.size)); clear hb3))
                go_ret
                exact ⟨by rw [HE.out]; rfl, by rw [shiftT_no (by rw [HE.out]; decide)]; exact RStep.still HH.out HR.out HB3.out⟩
              · by_cases q3 : p.quota + n < 1
                · rw [if_pos (.inr (.inr q3))] at HE
                  go_enter Try.func24, Try.ntmps24
                  go_wp2_with (first | (go_at_call 50; with_reducible refine Calls.mono HB.out ?_; rintro e w' ⟨rfl, hw'⟩; rw [hw']; clear hw' w') | (go_at_call 54; with_reducible refine Calls.mono HIn.out ?_; rintro e w' ⟨rfl, hw'⟩; rw [hw']; clear hw' w') | (go_at_call 51; with_reducible refine Calls.mono HA.out ?_; rintro e w' ⟨rfl, hw'⟩; rw [hw']; clear hw' w') | (go_at_call 52; with_reducible refine Calls.mono (HRi.out _ (Below.refl _ _)) ?_; rintro e w2 ⟨rfl, hb2⟩; have HB2 := Lib.hid hb2; clear hb2) | (go_at_call 52; with_reducible refine Calls.mono (HRx.out _ HB2.out) ?_; rintro e w3 ⟨rfl, hb3⟩; have HB3 := Lib.hid (HB2.out.trans (hb3.mono HB2.out.size)); clear hb3; obtain ⟨y1, y2, y3⟩ := HC.out _ HB3.out))
                  go_ret
                  exact ⟨by rw [HE.out]; rfl, by rw [shiftT_no (by rw [HE.out]; decide)]; exact RStep.still HH.out HR.out HB3.out⟩
                · have hz : shiftS S i x n = 0 := by rw [HE.out, if_neg (by omega)]
                  have HE0 := Lib.hid hz
                  have q4 : ¬ 1099511627776 < p.quota + n := by omega
                  clear HE hz
                  go_enter Try.func24, Try.ntmps24
                  go_wp2_with (first | (go_at_call 50; with_reducible refine Calls.mono HB.out ?_; rintro e w' ⟨rfl, hw'⟩; rw [hw']; clear hw' w') | (go_at_call 54; with_reducible refine Calls.mono HIn.out ?_; rintro e w' ⟨rfl, hw'⟩; rw [hw']; clear hw' w') | (go_at_call 51; with_reducible refine Calls.mono HA.out ?_; rintro e w' ⟨rfl, hw'⟩; rw [hw']; clear hw' w') | (go_at_call 52; with_reducible refine Calls.mono (HRi.out _ (Below.refl _ _)) ?_; rintro e w2 ⟨rfl, hb2⟩; have HB2 := Lib.hid hb2; clear hb2) | (go_at_call 52; with_reducible refine Calls.mono (HRx.out _ HB2.out) ?_; rintro e w3 ⟨rfl, hb3⟩; have HB3 := Lib.hid (HB2.out.trans (hb3.mono HB2.out.size)); clear hb3; obtain ⟨y1, y2, y3⟩ := HC.out _ HB3.out))
                  go_ret
                  refine ⟨by rw [HE0.out]; rfl, ?_⟩
                  obtain ⟨r1, r2⟩ := HH.out.setQ HB3.out hkx (p.quota + n)
                  refine ⟨g, cap, _, _, r1, ?_, r2⟩
                  unfold shiftT
                  rw [if_pos HE0.out, HSi.out, HSx.out]
                  have h1 := HR.out.upM (p' := { o with used := o.used + n }) HSi.out (fun t ht => ht)
                  exact h1.quo HH.out.nd hkx Hex.out Hmx.out
        · rw [if_pos (by simpa using hpk)] at HE
          have hpb : (p.kind != 1) = true := by simpa using hpk
          go_enter Try.func24, Try.ntmps24
          go_wp2_with (first | (go_at_call 50; with_reducible refine Calls.mono HB.out ?_; rintro e w' ⟨rfl, hw'⟩; rw [hw']; clear hw' w') | (go_at_call 54; with_reducible refine Calls.mono HIn.out ?_; rintro e w' ⟨rfl, hw'⟩; rw [hw']; clear hw' w') | (go_at_call 51; with_reducible refine Calls.mono HA.out ?_; rintro e w' ⟨rfl, hw'⟩; rw [hw']; clear hw' w'))
          go_ret
          exact ⟨by rw [HE.out]; rfl, by rw [shiftT_no (by rw [HE.out]; decide)]; exact RStep.still HH.out HR.out (Below.refl _ _)⟩
      · have hinf : inB o.ents x = false := by simpa using hin
        rw [hinf] at HIn
        have HE : Hid (shiftS S i x n = 4) := by simp only [Hid]; unfold shiftS entC; rw [hS]; simp only [hk1, hinf]; rfl
        clear h hr hi hiI hiL mi ei
        go_enter Try.func24, Try.ntmps24
        go_wp2_with (first | (go_at_call 50; with_reducible refine Calls.mono HB.out ?_; rintro e w' ⟨rfl, hw'⟩; rw [hw']; clear hw' w') | (go_at_call 54; with_reducible refine Calls.mono HIn.out ?_; rintro e w' ⟨rfl, hw'⟩; rw [hw']; clear hw' w'))
        go_ret
        exact ⟨by rw [HE.out]; rfl, by rw [shiftT_no (by rw [HE.out]; decide)]; exact RStep.still HH.out HR.out (Below.refl _ _)⟩
    · rw [if_neg hk1] at HB
      have HE : Hid (shiftS S i x n = 5) := by simp only [Hid]; unfold shiftS entC; rw [hS]; simp only [hk1]; rfl
      clear h hr hi hiI hiL mi ei
      go_enter Try.func24, Try.ntmps24
      go_wp2_with (first | (go_at_call 50; with_reducible refine Calls.mono HB.out ?_; rintro e w' ⟨rfl, hw'⟩; rw [hw']; clear hw' w'))
      go_ret
      exact ⟨by rw [HE.out]; rfl, by rw [shiftT_no (by rw [HE.out]; decide)]; exact RStep.still HH.out HR.out (Below.refl _ _)⟩
end
end Go.Proofs.Ytebcnlhgkpaghaa
