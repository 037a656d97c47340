/- What Link of the reference does. -/
import Derived.Test.YtebcnlhgkpaghaaRefU
namespace Go.Proofs.Ytebcnlhgkpaghaa
open Go.RowKit Go.Sort
/-- What a call of the reference leaves. -/
def RStep (w w' : World) (rb g : Nat) (root : Int) (F : Nat → Prop) (S' : Abs) : Prop := ∃ g' cap' cs' L', RS w' rb g' cap' cs' root L' F ∧ RelD S' L' [] ∧ Fm w w' (fun k => k = rb ∨ k = g) (fun k => k = rb ∨ k = g')
theorem Fm.tr {a b c : World} {F G H : Nat → Prop} (h : Fm a b F G) (k : Fm b c G H) : Fm a c F H := by
  refine ⟨k.os.trans h.os, k.tape.trans h.tape, k.output.trans h.output, Nat.le_trans h.size k.size, fun j hj hf => ?_, fun j hj => ?_⟩
  · refine (k.same j (Nat.lt_of_lt_of_le hj h.size) (fun hg => ?_)).trans (h.same j hj hf)
    rcases h.new j hg with e | e
    · exact hf e
    · omega
  · rcases k.new j hj with e | e
    · exact h.new j e
    · have := h.size; exact .inr (by omega)
theorem Fm.stay {w w' : World} {F : Nat → Prop} (hb : Below w.heap.size w w') : Fm w w' F F := ⟨hb.os, hb.tape, hb.output, hb.size, fun k hk _ => hb.block k hk, fun _ h => .inl h⟩
/-- Links and sums are not the list's matter. -/
theorem RelD.upM {S : Abs} {L : List Th} {D : List Int} (h : RelD S L D) {x : Int} {p p' : Ob} (hx : S x = some p) (hm : ∀ t, Mt p t → Mt p' t) : RelD (updS S x p') L D := by
  refine ⟨fun t ht hD => ?_, fun t ht hD => ?_, fun k o ho => ?_⟩
  · obtain ⟨o, ho, hmo⟩ := h.yes t ht hD
    by_cases e : t.id = x
    · rw [e] at ho ⊢
      rw [hx] at ho; cases ho
      exact ⟨p', updS_at _ _ _, hm t hmo⟩
    · exact ⟨o, by rw [updS_ne _ _ e]; exact ho, hmo⟩
  · have h1 := h.dead t ht hD
    by_cases e : t.id = x
    · rw [e, hx] at h1; cases h1.1
    · rw [updS_ne _ _ e]; exact h1
  · by_cases e : k = x
    · subst e; exact h.back k p hx
    · rw [updS_ne _ _ e] at ho; exact h.back k o ho
section
variable {w : World} {rb g cap : Nat} {cs : Array Value} {root : Int} {L : List Th} {F : Nat → Prop} {S : Abs} {K : List Int} {rt : Int}
theorem RStep.still (h : RS w rb g cap cs root L F) (hr : RelD S L []) {w' : World} (hb : Below w.heap.size w w') : RStep w w' rb g root F S := ⟨g, cap, cs, L, h.below hb, hr, Fm.stay hb⟩
theorem RStep.pre {w0 w' : World} {S' : Abs} (hb : Below w0.heap.size w0 w) (h : RStep w w' rb g root F S') : RStep w0 w' rb g root F S' := by
  obtain ⟨g', cap', cs', L', h1, h2, h3⟩ := h
  exact ⟨g', cap', cs', L', h1, h2, (Fm.stay hb).tr h3⟩
/-- One entry more. -/
theorem RelD.ent (hr : RelD S L []) (hnd : (L.map (·.id)).Nodup) {i x : Int} {o : Ob} {k : Nat} (hk : k < L.length) (ei : L[k].id = i) (mi : Mt o L[k]) (q : Int) (p : Option Addr) (c : Nat) : RelD (updS S i { o with used := q, ents := o.ents ++ [x] }) (L.set k { L[k] with lp := p, lc := c, ents := L[k].ents ++ [x] }) [] := by
  refine hr.set hnd hk (t := { L[k] with lp := p, lc := c, ents := L[k].ents ++ [x] }) rfl (fun j hj => updS_ne _ _ (fun e => hj (e.trans ei.symm))) ⟨fun _ => ⟨{ o with used := q, ents := o.ents ++ [x] }, ?_, ?_⟩, (fun hD => by cases hD)⟩
  · show updS S i _ L[k].id = _
    rw [ei]; exact updS_at _ _ _
  · refine ⟨mi.1, mi.2.1, mi.2.2.1, mi.2.2.2.1, ?_⟩
    show o.ents ++ [x] = L[k].ents ++ [x]
    rw [mi.2.2.2.2]
def linkS (S : Abs) (i x : Int) : Int := match S i, S x with
  | none, _ => 4
  | _, none => 4
  | some o, some p => if o.kind ≠ 1 then 5 else if p.kind ≠ 2 ∧ p.kind ≠ 5 then 5 else if inB o.ents x = true then 1 else if o.quota - o.used < p.quota then 6 else 0
def linkT (S : Abs) (i x : Int) : Abs := if linkS S i x = 0 then (match S i, S x with
  | some o, some p => updS (updS S i { o with used := o.used + p.quota, ents := o.ents ++ [x] }) x { p with links := p.links + 1 }
  | _, _ => S) else S
theorem linkT_no {S : Abs} {i x : Int} (h : linkS S i x ≠ 0) : linkT S i x = S := by unfold linkT; rw [if_neg h]
set_option maxRecDepth 100000 in
set_option maxHeartbeats 4000000 in
theorem rLink_any (h : RS w rb g cap cs root L F) (hr : RelD S L []) (hi : Inv rt S K) (i x : Int) :
    Calls Try.prog 20 #[.pointer (some ⟨rb, 0, none⟩), .int .i64 i, .int .i64 x] w fun e w' => e = .returned (.int .i64 (linkS S i x)) ∧ RStep w w' rb g root F (linkT S i x) := by
  have HH := Lib.hid h
  have HR := Lib.hid hr
  have HAx := Lib.hid (rAt_any h x)
  have HAi := Lib.hid (rAt_any h i)
  have hLn := h.lim.1
  obtain ⟨h0, h1⟩ := h.hd
  cases hx : S x with
  | none =>
    rw [atL_no 0 (hr.nopos hx)] at HAx
    have HE : Hid (linkS S i x = 4) := by simp only [Hid]; unfold linkS; rw [hx]; cases S i <;> rfl
    clear h hr hi
    go_enter Try.func20, Try.ntmps20
    go_wp2_with (first | (go_at_call 51; with_reducible refine Calls.mono HAx.out ?_; rintro e w' ⟨rfl, hw'⟩; rw [hw']; clear hw' w'))
    go_ret
    exact ⟨by rw [HE.out]; rfl, by rw [linkT_no (by rw [HE.out]; decide)]; exact RStep.still HH.out HR.out (Below.refl _ _)⟩
  | some p =>
    obtain ⟨kx, hkx, ex, mx⟩ := hr.pos hx
    rw [atL_yes 0 hkx h.nd ex, Nat.zero_add] at HAx
    have hkx0 : ¬ (kx : Int) < 0 := by omega
    have hkxi : (kx : Int) < (L.length : Int) := by omega
    obtain ⟨_, x1, x2, _⟩ := h.six hkx
    rw [← mx.1] at x1
    rw [← mx.2.1] at x2
    cases hS : S i with
    | none =>
      rw [atL_no 0 (hr.nopos hS)] at HAi
      have HE : Hid (linkS S i x = 4) := by simp only [Hid]; unfold linkS; rw [hS]
      clear h hr hi
      go_enter Try.func20, Try.ntmps20
      go_wp2_with (first | (go_at_call 51; with_reducible refine Calls.mono HAx.out ?_; rintro e w' ⟨rfl, hw'⟩; rw [hw']; clear hw' w') | (go_at_call 51; with_reducible refine Calls.mono HAi.out ?_; rintro e w' ⟨rfl, hw'⟩; rw [hw']; clear hw' w'))
      go_ret
      exact ⟨by rw [HE.out]; rfl, by rw [linkT_no (by rw [HE.out]; decide)]; exact RStep.still HH.out HR.out (Below.refl _ _)⟩
    | some o =>
      obtain ⟨ki, hki, ei, mi⟩ := hr.pos hS
      rw [atL_yes 0 hki h.nd ei, Nat.zero_add] at HAi
      have hki0 : ¬ (ki : Int) < 0 := by omega
      have hkii : (ki : Int) < (L.length : Int) := by omega
      have HBx := Lib.hid (rbox_some h i ki hki ei)
      rw [← mi.1] at HBx
      obtain ⟨_, _, _, _, _, i5⟩ := h.six hki
      have hiI := (h.cat _ (List.getElem_mem hki)).2
      have hiL := (h.lim.2 _ (List.getElem_mem hki)).2
      rw [← mi.2.2.2.2] at i5 hiI hiL
      have HIn := Lib.hid (In_any w L[ki].lp L[ki].lc o.ents x hiI hiL)
      have HE : Hid (linkS S i x = if o.kind ≠ 1 then 5 else if p.kind ≠ 2 ∧ p.kind ≠ 5 then 5 else if inB o.ents x = true then 1 else if o.quota - o.used < p.quota then 6 else 0) := by simp only [Hid]; unfold linkS; rw [hS, hx]
      have HRm : Hid (∀ n' os, Calls Try.prog 52 #[.pointer (some ⟨rb, 0, none⟩), .int .i64 ki] (gx w n' os) fun e w' => e = .returned (.int .i64 (o.quota - o.used)) ∧ Below (gx w n' os).heap.size (gx w n' os) w') := fun n' os => rRoom_any (h.below (gx_below w n' os)) hr hi ki hki (by rw [ei]; exact hS)
      have hgl := h.rl
      have q1 : ∀ n' os, (gx w n' os).cell? ⟨rb, 1, none⟩ = some (.slice (some ⟨g, 0, none⟩) L.length cap) := cell_gx hgl.1 h1
      have q2 : ∀ n' os, (gx w n' os).cell? ⟨g, kx * 6 + 2, none⟩ = some (.int .i64 p.quota) := cell_gx hgl.2 x2
      have hgo := hi.ok _ _ hS
      have hgp := hi.ok _ _ hx
      have hqo := hgo.q
      have hqp := hgp.q
      have hleo := hgo.le
      have hupo := hi.upos hS
      have hel : o.ents.length < 900000 := by have := hi.elen hS; have := hi.len; omega
      have Hel := Lib.hid hel
      have Hmi := Lib.hid mi
      have HSi := Lib.hid hS
      have HSx := Lib.hid hx
      have Hei := Lib.hid ei
      have Hslf := Lib.hid hgo.slf
      generalize hlp : L[ki].lp = lp at i5 HIn
      generalize hlc : L[ki].lc = lc at i5 HIn
      clear h hr hi hiI hiL hgo hgp mi mx hel hlp hlc ei ex
      by_cases hk : o.kind = 1
      · rw [if_pos hk] at HBx
        rw [if_neg (by simpa using hk)] at HE
        by_cases hp : p.kind ≠ 2 ∧ p.kind ≠ 5
        · rw [if_pos hp] at HE
          obtain ⟨hp2, hp5⟩ := hp
          have b2 : (p.kind != 2) = true := by simpa using hp2
          have b5 : (p.kind != 5) = true := by simpa using hp5
          go_enter Try.func20, Try.ntmps20
          go_wp2_with (first | (go_at_call 51; with_reducible refine Calls.mono HAx.out ?_; rintro e w' ⟨rfl, hw'⟩; rw [hw']; clear hw' w') | (go_at_call 51; with_reducible refine Calls.mono HAi.out ?_; rintro e w' ⟨rfl, hw'⟩; rw [hw']; clear hw' w') | (go_at_call 50; with_reducible refine Calls.mono HBx.out ?_; rintro e w' ⟨rfl, hw'⟩; rw [hw']; clear hw' w'))
          go_ret
          exact ⟨by rw [HE.out]; rfl, by rw [linkT_no (by rw [HE.out]; decide)]; exact RStep.still HH.out HR.out (Below.refl _ _)⟩
        · rw [if_neg hp] at HE
          have hp' : p.kind = 2 ∨ p.kind = 5 := by omega
          have b25 : (p.kind != 2 && p.kind != 5) = false := by rcases hp' with e | e <;> simp [e]
          by_cases hin : inB o.ents x = true
          · rw [if_pos hin] at HE
            rw [hin] at HIn
            rcases hp' with e | e
            all_goals
              rw [e] at x1
              go_enter Try.func20, Try.ntmps20
              go_wp2_with (first | (go_at_call 51; with_reducible refine Calls.mono HAx.out ?_; rintro e w' ⟨rfl, hw'⟩; rw [hw']; clear hw' w') | (go_at_call 51; with_reducible refine Calls.mono HAi.out ?_; rintro e w' ⟨rfl, hw'⟩; rw [hw']; clear hw' w') | (go_at_call 50; with_reducible refine Calls.mono HBx.out ?_; rintro e w' ⟨rfl, hw'⟩; rw [hw']; clear hw' w') | (go_at_call 54; with_reducible refine Calls.mono HIn.out ?_; rintro e w' ⟨rfl, hw'⟩; rw [hw']; clear hw' w'))
              go_ret
              exact ⟨by rw [HE.out]; rfl, by rw [linkT_no (by rw [HE.out]; decide)]; exact RStep.still HH.out HR.out (Below.refl _ _)⟩
          · rw [if_neg hin] at HE
            have hinf : inB o.ents x = false := by simpa using hin
            rw [hinf] at HIn
            by_cases hq : o.quota - o.used < p.quota
            · rw [if_pos hq] at HE
              rcases hp' with e | e
              all_goals
                rw [e] at x1
                go_enter Try.func20, Try.ntmps20
                go_upto_region 11 with (first | (go_at_call 51; with_reducible refine Calls.mono HAx.out ?_; rintro e w' ⟨rfl, hw'⟩; rw [hw']; clear hw' w') | (go_at_call 51; with_reducible refine Calls.mono HAi.out ?_; rintro e w' ⟨rfl, hw'⟩; rw [hw']; clear hw' w') | (go_at_call 50; with_reducible refine Calls.mono HBx.out ?_; rintro e w' ⟨rfl, hw'⟩; rw [hw']; clear hw' w') | (go_at_call 54; with_reducible refine Calls.mono HIn.out ?_; rintro e w' ⟨rfl, hw'⟩; rw [hw']; clear hw' w'))
                refine wp_region_quiet_gx (by kernel_rfl) (by kernel_rfl) ?_
                repeat (first | go_big_quiet_step (first
                  | (go_at_call 52; with_reducible exact calls_gx (HRm.out _ _))) | (refine wpQuiet_step (fun K hK => ?_); go_simp; split <;> first | (exfalso; omega) | (refine hK _ ?_; clear hK K)))
                refine wpQuiet_nil ?_
                intro _ hw'
                obtain ⟨⟨nq, osq⟩, hw''⟩ := hw'
                subst hw''
                go_wp2_with fail
                go_ret
                exact ⟨by rw [HE.out]; rfl, by rw [linkT_no (by rw [HE.out]; decide)]; exact RStep.still HH.out HR.out (gx_below w nq osq)⟩
            · rw [if_neg hq] at HE
              have hix : x ≠ i := fun e => by
                subst e
                have := HSi.out.symm.trans HSx.out
                cases this
                omega
              have fin : ∀ nq osq w' p c cs', RS w' rb g cap cs' root (L.set ki { L[ki] with lp := p, lc := c, ents := L[ki].ents ++ [x] }) F → Fm (gx w nq osq) w' (fun k => k = rb ∨ k = g) (fun k => k = rb ∨ k = g) → RStep w w' rb g root F (linkT S i x) := fun nq osq w' lp' lc' cs' r1 r2 => by
                refine ⟨g, cap, cs', _, r1, ?_, (Fm.stay (gx_below w nq osq)).tr r2⟩
                unfold linkT
                rw [if_pos HE.out, HSi.out, HSx.out]
                exact RelD.upM (p := p) (HR.out.ent HH.out.nd hki Hei.out Hmi.out _ lp' lc') (by rw [updS_ne _ _ hix]; exact HSx.out) (fun t ht => ht)
              have FIN := Lib.hid fin
              have HP : Hid (∀ nq osq, Calls Try.prog 53 #[.pointer (some ⟨rb, 0, none⟩), .int .i64 ki, .int .i64 x] (gx w nq osq) fun e w' => (∃ v, e = .returned v) ∧ ∃ p c cs', RS w' rb g cap cs' root (L.set ki { L[ki] with lp := p, lc := c, ents := L[ki].ents ++ [x] }) F ∧ Fm (gx w nq osq) w' (fun k => k = rb ∨ k = g) (fun k => k = rb ∨ k = g)) := fun nq osq => rput_any (HH.out.below (gx_below w nq osq)) ki hki x (by rw [← Hmi.out.2.2.2.2]; exact Hel.out)
              clear fin
              rcases hp' with e | e
              all_goals
                rw [e] at x1
                go_enter Try.func20, Try.ntmps20
                go_upto_region 11 with (first | (go_at_call 51; with_reducible refine Calls.mono HAx.out ?_; rintro e w' ⟨rfl, hw'⟩; rw [hw']; clear hw' w') | (go_at_call 51; with_reducible refine Calls.mono HAi.out ?_; rintro e w' ⟨rfl, hw'⟩; rw [hw']; clear hw' w') | (go_at_call 50; with_reducible refine Calls.mono HBx.out ?_; rintro e w' ⟨rfl, hw'⟩; rw [hw']; clear hw' w') | (go_at_call 54; with_reducible refine Calls.mono HIn.out ?_; rintro e w' ⟨rfl, hw'⟩; rw [hw']; clear hw' w'))
                refine wp_region_quiet_gx (by kernel_rfl) (by kernel_rfl) ?_
                repeat (first | go_big_quiet_step (first
                  | (go_at_call 52; with_reducible exact calls_gx (HRm.out _ _))) | (refine wpQuiet_step (fun K hK => ?_); go_simp; split <;> first | (exfalso; omega) | (refine hK _ ?_; clear hK K)))
                refine wpQuiet_nil ?_
                intro _ hw'
                obtain ⟨⟨nq, osq⟩, hw''⟩ := hw'
                subst hw''
                go_wp2_with (go_at_call 53; with_reducible refine Calls.mono (HP.out nq osq) ?_; rintro e w7 ⟨⟨v7, rfl⟩, p7, c7, cs7, r7, f7⟩; have HF7 := Lib.hid (FIN.out _ _ _ _ _ _ r7 f7); clear r7 f7)
                go_ret
                exact ⟨by rw [HE.out]; rfl, HF7.out⟩
      · rw [if_neg hk] at HBx
        rw [if_pos (by simpa using hk)] at HE
        go_enter Try.func20, Try.ntmps20
        go_wp2_with (first | (go_at_call 51; with_reducible refine Calls.mono HAx.out ?_; rintro e w' ⟨rfl, hw'⟩; rw [hw']; clear hw' w') | (go_at_call 51; with_reducible refine Calls.mono HAi.out ?_; rintro e w' ⟨rfl, hw'⟩; rw [hw']; clear hw' w') | (go_at_call 50; with_reducible refine Calls.mono HBx.out ?_; rintro e w' ⟨rfl, hw'⟩; rw [hw']; clear hw' w'))
        go_ret
        exact ⟨by rw [HE.out]; rfl, by rw [linkT_no (by rw [HE.out]; decide)]; exact RStep.still HH.out HR.out (Below.refl _ _)⟩
end
end Go.Proofs.Ytebcnlhgkpaghaa
