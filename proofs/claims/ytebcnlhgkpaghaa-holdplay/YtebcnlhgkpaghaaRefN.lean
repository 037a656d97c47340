/- What Make of the reference does. -/
import Derived.Test.YtebcnlhgkpaghaaFitP
namespace Go.Proofs.Ytebcnlhgkpaghaa
open Go.RowKit Go.Sort
section
variable {w : World} {rb g cap : Nat} {cs : Array Value} {root : Int} {L : List Th} {F : Nat → Prop} {S : Abs} {K : List Int} {rt : Int}
def makeS (S : Abs) (n : Nat) (i id kind quota d : Int) (xs : List (Int × Int)) : Int :=
  if contS S i ≠ 0 then contS S i else if kind < 1 ∨ 6 < kind then 5 else if quota < 1 ∨ 1099511627776 < quota ∨ fitsS d (low kind) xs = false then 1
  else if isCt id = false ∨ (S id).isSome = true then 8 else if 4096 ≤ n then 7 else match S i with
  | some o => if o.quota - o.used < quota then 6 else 0
  | none => 4
def makeT (S : Abs) (n : Nat) (i id kind quota d : Int) (xs : List (Int × Int)) : Abs := if makeS S n i id kind quota d xs = 0 then (match S i with
  | some o => updS (updS S i { o with used := o.used + quota, ents := o.ents ++ [id] }) id (newOb id kind quota d xs)
  | none => S) else S
theorem makeT_no {S : Abs} {n : Nat} {i id kind quota d : Int} {xs : List (Int × Int)} (h : makeS S n i id kind quota d xs ≠ 0) : makeT S n i id kind quota d xs = S := by unfold makeT; rw [if_neg h]
set_option maxRecDepth 100000 in
set_option maxHeartbeats 8000000 in
theorem rMake_no (h : RS w rb g cap cs root L F) (hr : RelD S L []) (hi : Inv rt S K) (i id kind quota d : Int) (p : Option Addr) (cc : Nat) (xs : List (Int × Int)) (hm : xs.length ≤ maxLen) (hc : CatsAt w p xs) (hz : makeS S L.length i id kind quota d xs ≠ 0) :
    Calls Try.prog 19 #[.pointer (some ⟨rb, 0, none⟩), .int .i64 i, .int .i64 id, .int .i64 kind, .int .i64 quota, .agg #[.int .i64 d, .slice p xs.length cc]] w fun e w' => e = .returned (.int .i64 (makeS S L.length i id kind quota d xs)) ∧ RStep w w' rb g root F S := by
  obtain ⟨W0, hW0⟩ : ∃ W0, w.alloc (.cells #[.int .i64 d, .slice p xs.length cc] 24) = W0 := ⟨_, rfl⟩
  have hb0 : Below w.heap.size w W0 := by rw [← hW0]; exact (Below.refl _ _).alloc (Nat.le_refl _) _
  have a0 : W0.cell? ⟨w.heap.size, 0, none⟩ = some (.int .i64 d) := by rw [← hW0]; simp [go_sem]
  have a1 : W0.cell? ⟨w.heap.size, 1, none⟩ = some (.slice p xs.length cc) := by rw [← hW0]; simp [go_sem]
  have hz0 : w.heap.size < W0.heap.size := by rw [← hW0]; simp
  have h' := h.below hb0
  have HH := Lib.hid h'
  have HR := Lib.hid hr
  have HB0 := Lib.hid hb0
  have hLn := h.lim.1
  obtain ⟨h0, h1⟩ := h'.hd
  have HCell : Hid (∀ W, Below W0.heap.size W0 W → W.cell? ⟨w.heap.size, 0, none⟩ = some (.int .i64 d) ∧ W.cell? ⟨w.heap.size, 1, none⟩ = some (.slice p xs.length cc) ∧ W.cell? ⟨rb, 1, none⟩ = some (.slice (some ⟨g, 0, none⟩) L.length cap)) := fun W hb => ⟨(hb.cell (p := ⟨w.heap.size, 0, none⟩) hz0).trans a0, (hb.cell (p := ⟨w.heap.size, 1, none⟩) hz0).trans a1, (h'.below hb).hd.2⟩
  have HP : Hid (∀ W, Below W0.heap.size W0 W → Calls Try.prog 48 #[.agg #[.int .i64 d, .slice p xs.length cc]] W fun e w' => e = .returned (.bool (plainS d xs)) ∧ Below W.heap.size W w') := fun W hb => refPlain_any d p cc xs W hm ((hc.below hb0).below hb)
  have HFr : Hid (∀ W, Below W0.heap.size W0 W → Calls Try.prog 18 #[.agg #[.int .i64 d, .slice p xs.length cc]] W fun e w' => e = .returned (.bool (freeS d xs)) ∧ Below W.heap.size W w') := fun W hb => refFree_any d p cc xs W hm ((hc.below hb0).below hb)
  have HCt := Lib.hid (Cat_any id)
  have HAt : Hid (∀ W, Below W0.heap.size W0 W → Calls Try.prog 51 #[.pointer (some ⟨rb, 0, none⟩), .int .i64 id] W fun e w' => e = .returned (.int .i64 (atL L id 0)) ∧ w' = W) := fun W hb => rAt_any (h'.below hb) id
  cases hS : S i with
  | none =>
    have HB := Lib.hid (rbox_none h' i (hr.nopos hS))
    have HE : Hid (makeS S L.length i id kind quota d xs = 4) := by simp only [Hid]; unfold makeS contS; rw [hS]; rfl
    clear h hr hi h' hc hb0
    go_enter Try.func19, Try.ntmps19
    go_wp2_with (first | (go_at_call 50; with_reducible refine Calls.mono HB.out ?_; rintro e w' ⟨rfl, hw'⟩; rw [hw']; clear hw' w'))
    go_ret
    exact ⟨by rw [HE.out]; rfl, RStep.pre HB0.out (RStep.still HH.out HR.out (Below.refl _ _))⟩
  | some o =>
    obtain ⟨ki, hki, ei, mi⟩ := hr.pos hS
    have HB := Lib.hid (rbox_some h' i ki hki ei)
    rw [← mi.1] at HB
    have hkii : (ki : Int) < (L.length : Int) := by omega
    have HRm : Hid (∀ W, Below W0.heap.size W0 W → Calls Try.prog 52 #[.pointer (some ⟨rb, 0, none⟩), .int .i64 ki] W fun e w' => e = .returned (.int .i64 (o.quota - o.used)) ∧ Below W.heap.size W w') := fun W hb => rRoom_any (h'.below hb) hr hi ki hki (by rw [ei]; exact hS)
    have HAs : Hid ((S id).isSome = true → 0 ≤ atL L id 0) := fun e => by
      obtain ⟨q, hq⟩ := Option.isSome_iff_exists.1 e
      obtain ⟨kq, hkq, eq, _⟩ := hr.pos hq
      rw [atL_yes 0 hkq h.nd eq]; omega
    have HAn : Hid (S id = none → atL L id 0 = -1) := fun e => atL_no 0 (hr.nopos e)
    by_cases hk1 : o.kind = 1
    · rw [if_pos hk1] at HB
      have hcz : contS S i = 0 := by unfold contS; rw [hS]; exact if_pos hk1
      have HM : Hid (makeS S L.length i id kind quota d xs = if kind < 1 ∨ 6 < kind then 5 else if quota < 1 ∨ 1099511627776 < quota ∨ fitsS d (low kind) xs = false then 1 else if isCt id = false ∨ (S id).isSome = true then 8 else if 4096 ≤ L.length then 7 else if o.quota - o.used < quota then 6 else 0) := by
        simp only [Hid]; unfold makeS; rw [if_neg (by rw [hcz]; simp), hS]
      clear h hr hi h' hc hb0 mi ei
      by_cases k1 : kind < 1 ∨ 6 < kind
      · have HE : Hid (makeS S L.length i id kind quota d xs = 5) := by simp only [Hid]; rw [HM.out, if_pos k1]
        rcases k1 with k1 | k1
        · go_enter Try.func19, Try.ntmps19
          go_wp2_with (first | (go_at_call 50; with_reducible refine Calls.mono HB.out ?_; rintro e w' ⟨rfl, hw'⟩; rw [hw']; clear hw' w'))
          go_ret
          exact ⟨by rw [HE.out]; rfl, RStep.pre HB0.out (RStep.still HH.out HR.out (Below.refl _ _))⟩
        · have k2 : ¬ kind < 1 := by omega
          go_enter Try.func19, Try.ntmps19
          go_wp2_with (first | (go_at_call 50; with_reducible refine Calls.mono HB.out ?_; rintro e w' ⟨rfl, hw'⟩; rw [hw']; clear hw' w'))
          go_ret
          exact ⟨by rw [HE.out]; rfl, RStep.pre HB0.out (RStep.still HH.out HR.out (Below.refl _ _))⟩
      · have k2 : ¬ kind < 1 := by omega
        have k3 : ¬ 6 < kind := by omega
        by_cases q1 : quota < 1
        · have HE : Hid (makeS S L.length i id kind quota d xs = 1) := by simp only [Hid]; rw [HM.out, if_neg k1, if_pos (.inl q1)]
          go_enter Try.func19, Try.ntmps19
          go_wp2_with (first | (go_at_call 50; with_reducible refine Calls.mono HB.out ?_; rintro e w' ⟨rfl, hw'⟩; rw [hw']; clear hw' w'))
          go_ret
          exact ⟨by rw [HE.out]; rfl, RStep.pre HB0.out (RStep.still HH.out HR.out (Below.refl _ _))⟩
        by_cases q2 : 1099511627776 < quota
        · have HE : Hid (makeS S L.length i id kind quota d xs = 1) := by simp only [Hid]; rw [HM.out, if_neg k1, if_pos (.inr (.inl q2))]
          go_enter Try.func19, Try.ntmps19
          go_wp2_with (first | (go_at_call 50; with_reducible refine Calls.mono HB.out ?_; rintro e w' ⟨rfl, hw'⟩; rw [hw']; clear hw' w'))
          go_ret
          exact ⟨by rw [HE.out]; rfl, RStep.pre HB0.out (RStep.still HH.out HR.out (Below.refl _ _))⟩
        by_cases hpl : plainS d xs = true
        · rw [hpl] at HP
          have rest : ∀ (Hf : fitsS d (low kind) xs = true), Hid (makeS S L.length i id kind quota d xs = if isCt id = false ∨ (S id).isSome = true then 8 else if 4096 ≤ L.length then 7 else if o.quota - o.used < quota then 6 else 0) := fun Hf => by
            simp only [Hid]; rw [HM.out, if_neg k1, if_neg (by rw [Hf]; simp; omega)]
          by_cases hk45 : kind = 4 ∨ kind = 5
          · have hf : fitsS d (low kind) xs = true := by
              have : low kind = 0 := by unfold low; rw [if_pos hk45]
              rw [this, fits_plain]; exact hpl
            have HM2 := rest hf
            clear rest HM hf
            rcases hk45 with rfl | rfl
            · by_cases c1 : isCt id = false
              · have HE : Hid (makeS S L.length i id 4 quota d xs = 8) := by simp only [Hid]; rw [HM2.out, if_pos (.inl c1)]
                rw [c1] at HCt
                go_enter Try.func19, Try.ntmps19
                go_wp2_with (first | (go_at_call 50; with_reducible refine Calls.mono HB.out ?_; rintro e w' ⟨rfl, hw'⟩; rw [hw']; clear hw' w') | (go_at_call 48; with_reducible refine Calls.mono (HP.out _ (Below.refl _ _)) ?_; rintro e w2 ⟨rfl, hb2⟩; have HBx := Lib.hid hb2; obtain ⟨y0, y1, y2⟩ := HCell.out _ hb2; clear hb2) | (go_at_call 17; with_reducible refine Calls.mono (HCt.out _) ?_; rintro e w' ⟨rfl, hw'⟩; rw [hw']; clear hw' w'))
                go_ret
                exact ⟨by rw [HE.out]; rfl, RStep.pre HB0.out (RStep.still HH.out HR.out HBx.out)⟩
              · have c1t : isCt id = true := by simpa using c1
                rw [c1t] at HCt
                by_cases c2 : (S id).isSome = true
                · have HE : Hid (makeS S L.length i id 4 quota d xs = 8) := by simp only [Hid]; rw [HM2.out, if_pos (.inr c2)]
                  have hat := HAs.out c2
                  go_enter Try.func19, Try.ntmps19
                  go_wp2_with (first | (go_at_call 50; with_reducible refine Calls.mono HB.out ?_; rintro e w' ⟨rfl, hw'⟩; rw [hw']; clear hw' w') | (go_at_call 48; with_reducible refine Calls.mono (HP.out _ (Below.refl _ _)) ?_; rintro e w2 ⟨rfl, hb2⟩; have HBx := Lib.hid hb2; obtain ⟨y0, y1, y2⟩ := HCell.out _ hb2; clear hb2) | (go_at_call 17; with_reducible refine Calls.mono (HCt.out _) ?_; rintro e w' ⟨rfl, hw'⟩; rw [hw']; clear hw' w') | (go_at_call 51; with_reducible refine Calls.mono (HAt.out _ HBx.out) ?_; rintro e w' ⟨rfl, hw'⟩; rw [hw']; clear hw' w'))
                  go_ret
                  exact ⟨by rw [HE.out]; rfl, RStep.pre HB0.out (RStep.still HH.out HR.out HBx.out)⟩
                · have hno : S id = none := by cases hx : S id with | none => rfl | some q => rw [hx] at c2; exact absurd rfl c2
                  have hat := HAn.out hno
                  rw [hat] at HAt
                  by_cases c3 : 4096 ≤ L.length
                  · have HE : Hid (makeS S L.length i id 4 quota d xs = 7) := by simp only [Hid]; rw [HM2.out, if_neg (by rw [c1t, hno]; simp), if_pos c3]
                    have c3i : (4096 : Int) ≤ (L.length : Int) := by omega
                    go_enter Try.func19, Try.ntmps19
                    go_wp2_with (first | (go_at_call 50; with_reducible refine Calls.mono HB.out ?_; rintro e w' ⟨rfl, hw'⟩; rw [hw']; clear hw' w') | (go_at_call 48; with_reducible refine Calls.mono (HP.out _ (Below.refl _ _)) ?_; rintro e w2 ⟨rfl, hb2⟩; have HBx := Lib.hid hb2; obtain ⟨y0, y1, y2⟩ := HCell.out _ hb2; clear hb2) | (go_at_call 17; with_reducible refine Calls.mono (HCt.out _) ?_; rintro e w' ⟨rfl, hw'⟩; rw [hw']; clear hw' w') | (go_at_call 51; with_reducible refine Calls.mono (HAt.out _ HBx.out) ?_; rintro e w' ⟨rfl, hw'⟩; rw [hw']; clear hw' w'))
                    go_ret
                    exact ⟨by rw [HE.out]; rfl, RStep.pre HB0.out (RStep.still HH.out HR.out HBx.out)⟩
                  · have c3i : ¬ (4096 : Int) ≤ (L.length : Int) := by omega
                    by_cases c4 : o.quota - o.used < quota
                    · have HE : Hid (makeS S L.length i id 4 quota d xs = 6) := by simp only [Hid]; rw [HM2.out, if_neg (by rw [c1t, hno]; simp), if_neg c3, if_pos c4]
                      go_enter Try.func19, Try.ntmps19
                      go_wp2_with (first | (go_at_call 50; with_reducible refine Calls.mono HB.out ?_; rintro e w' ⟨rfl, hw'⟩; rw [hw']; clear hw' w') | (go_at_call 48; with_reducible refine Calls.mono (HP.out _ (Below.refl _ _)) ?_; rintro e w2 ⟨rfl, hb2⟩; have HBx := Lib.hid hb2; obtain ⟨y0, y1, y2⟩ := HCell.out _ hb2; clear hb2) | (go_at_call 17; with_reducible refine Calls.mono (HCt.out _) ?_; rintro e w' ⟨rfl, hw'⟩; rw [hw']; clear hw' w') | (go_at_call 51; with_reducible refine Calls.mono (HAt.out _ HBx.out) ?_; rintro e w' ⟨rfl, hw'⟩; rw [hw']; clear hw' w') | (go_at_call 52; with_reducible refine Calls.mono (HRm.out _ HBx.out) ?_; rintro e w5 ⟨rfl, hb5⟩; have HB5 := Lib.hid (HBx.out.trans (hb5.mono HBx.out.size)); clear hb5))
                      go_ret
                      exact ⟨by rw [HE.out]; rfl, RStep.pre HB0.out (RStep.still HH.out HR.out HB5.out)⟩
                    · exact absurd (by rw [HM2.out, if_neg (by rw [c1t, hno]; simp), if_neg c3, if_neg c4]) hz
            · by_cases c1 : isCt id = false
              · have HE : Hid (makeS S L.length i id 5 quota d xs = 8) := by simp only [Hid]; rw [HM2.out, if_pos (.inl c1)]
                rw [c1] at HCt
                go_enter Try.func19, Try.ntmps19
                go_wp2_with (first | (go_at_call 50; with_reducible refine Calls.mono HB.out ?_; rintro e w' ⟨rfl, hw'⟩; rw [hw']; clear hw' w') | (go_at_call 48; with_reducible refine Calls.mono (HP.out _ (Below.refl _ _)) ?_; rintro e w2 ⟨rfl, hb2⟩; have HBx := Lib.hid hb2; obtain ⟨y0, y1, y2⟩ := HCell.out _ hb2; clear hb2) | (go_at_call 17; with_reducible refine Calls.mono (HCt.out _) ?_; rintro e w' ⟨rfl, hw'⟩; rw [hw']; clear hw' w'))
                go_ret
                exact ⟨by rw [HE.out]; rfl, RStep.pre HB0.out (RStep.still HH.out HR.out HBx.out)⟩
              · have c1t : isCt id = true := by simpa using c1
                rw [c1t] at HCt
                by_cases c2 : (S id).isSome = true
                · have HE : Hid (makeS S L.length i id 5 quota d xs = 8) := by simp only [Hid]; rw [HM2.out, if_pos (.inr c2)]
                  have hat := HAs.out c2
                  go_enter Try.func19, Try.ntmps19
                  go_wp2_with (first | (go_at_call 50; with_reducible refine Calls.mono HB.out ?_; rintro e w' ⟨rfl, hw'⟩; rw [hw']; clear hw' w') | (go_at_call 48; with_reducible refine Calls.mono (HP.out _ (Below.refl _ _)) ?_; rintro e w2 ⟨rfl, hb2⟩; have HBx := Lib.hid hb2; obtain ⟨y0, y1, y2⟩ := HCell.out _ hb2; clear hb2) | (go_at_call 17; with_reducible refine Calls.mono (HCt.out _) ?_; rintro e w' ⟨rfl, hw'⟩; rw [hw']; clear hw' w') | (go_at_call 51; with_reducible refine Calls.mono (HAt.out _ HBx.out) ?_; rintro e w' ⟨rfl, hw'⟩; rw [hw']; clear hw' w'))
                  go_ret
                  exact ⟨by rw [HE.out]; rfl, RStep.pre HB0.out (RStep.still HH.out HR.out HBx.out)⟩
                · have hno : S id = none := by cases hx : S id with | none => rfl | some q => rw [hx] at c2; exact absurd rfl c2
                  have hat := HAn.out hno
                  rw [hat] at HAt
                  by_cases c3 : 4096 ≤ L.length
                  · have HE : Hid (makeS S L.length i id 5 quota d xs = 7) := by simp only [Hid]; rw [HM2.out, if_neg (by rw [c1t, hno]; simp), if_pos c3]
                    have c3i : (4096 : Int) ≤ (L.length : Int) := by omega
                    go_enter Try.func19, Try.ntmps19
                    go_wp2_with (first | (go_at_call 50; with_reducible refine Calls.mono HB.out ?_; rintro e w' ⟨rfl, hw'⟩; rw [hw']; clear hw' w') | (go_at_call 48; with_reducible refine Calls.mono (HP.out _ (Below.refl _ _)) ?_; rintro e w2 ⟨rfl, hb2⟩; have HBx := Lib.hid hb2; obtain ⟨y0, y1, y2⟩ := HCell.out _ hb2; clear hb2) | (go_at_call 17; with_reducible refine Calls.mono (HCt.out _) ?_; rintro e w' ⟨rfl, hw'⟩; rw [hw']; clear hw' w') | (go_at_call 51; with_reducible refine Calls.mono (HAt.out _ HBx.out) ?_; rintro e w' ⟨rfl, hw'⟩; rw [hw']; clear hw' w'))
                    go_ret
                    exact ⟨by rw [HE.out]; rfl, RStep.pre HB0.out (RStep.still HH.out HR.out HBx.out)⟩
                  · have c3i : ¬ (4096 : Int) ≤ (L.length : Int) := by omega
                    by_cases c4 : o.quota - o.used < quota
                    · have HE : Hid (makeS S L.length i id 5 quota d xs = 6) := by simp only [Hid]; rw [HM2.out, if_neg (by rw [c1t, hno]; simp), if_neg c3, if_pos c4]
                      go_enter Try.func19, Try.ntmps19
                      go_wp2_with (first | (go_at_call 50; with_reducible refine Calls.mono HB.out ?_; rintro e w' ⟨rfl, hw'⟩; rw [hw']; clear hw' w') | (go_at_call 48; with_reducible refine Calls.mono (HP.out _ (Below.refl _ _)) ?_; rintro e w2 ⟨rfl, hb2⟩; have HBx := Lib.hid hb2; obtain ⟨y0, y1, y2⟩ := HCell.out _ hb2; clear hb2) | (go_at_call 17; with_reducible refine Calls.mono (HCt.out _) ?_; rintro e w' ⟨rfl, hw'⟩; rw [hw']; clear hw' w') | (go_at_call 51; with_reducible refine Calls.mono (HAt.out _ HBx.out) ?_; rintro e w' ⟨rfl, hw'⟩; rw [hw']; clear hw' w') | (go_at_call 52; with_reducible refine Calls.mono (HRm.out _ HBx.out) ?_; rintro e w5 ⟨rfl, hb5⟩; have HB5 := Lib.hid (HBx.out.trans (hb5.mono HBx.out.size)); clear hb5))
                      go_ret
                      exact ⟨by rw [HE.out]; rfl, RStep.pre HB0.out (RStep.still HH.out HR.out HB5.out)⟩
                    · exact absurd (by rw [HM2.out, if_neg (by rw [c1t, hno]; simp), if_neg c3, if_neg c4]) hz
          · have hk4 : kind ≠ 4 := fun e => hk45 (.inl e)
            have hk5 : kind ≠ 5 := fun e => hk45 (.inr e)
            have b4 : (kind != 4) = true := by simpa using hk4
            have b5 : (kind != 5) = true := by simpa using hk5
            have hlow : low kind = 1 := by unfold low; rw [if_neg hk45]
            by_cases hfr : freeS d xs = true
            · rw [hfr] at HFr
              have HM2 := rest (by rw [hlow, fits_free]; exact hfr)
              clear rest HM
              by_cases c1 : isCt id = false
              · have HE : Hid (makeS S L.length i id kind quota d xs = 8) := by simp only [Hid]; rw [HM2.out, if_pos (.inl c1)]
                rw [c1] at HCt
                go_enter Try.func19, Try.ntmps19
                go_wp2_with (first | (go_at_call 50; with_reducible refine Calls.mono HB.out ?_; rintro e w' ⟨rfl, hw'⟩; rw [hw']; clear hw' w') | (go_at_call 48; with_reducible refine Calls.mono (HP.out _ (Below.refl _ _)) ?_; rintro e w2 ⟨rfl, hb2⟩; have HB2 := Lib.hid hb2; obtain ⟨y0, y1, y2⟩ := HCell.out _ hb2; clear hb2) | (go_at_call 18; with_reducible refine Calls.mono (HFr.out _ HB2.out) ?_; rintro e w3 ⟨rfl, hb3⟩; have HBx := Lib.hid (HB2.out.trans (hb3.mono HB2.out.size)); clear hb3; obtain ⟨z0, z1, z2⟩ := HCell.out _ HBx.out) | (go_at_call 17; with_reducible refine Calls.mono (HCt.out _) ?_; rintro e w' ⟨rfl, hw'⟩; rw [hw']; clear hw' w'))
                go_ret
                exact ⟨by rw [HE.out]; rfl, RStep.pre HB0.out (RStep.still HH.out HR.out HBx.out)⟩
              · have c1t : isCt id = true := by simpa using c1
                rw [c1t] at HCt
                by_cases c2 : (S id).isSome = true
                · have HE : Hid (makeS S L.length i id kind quota d xs = 8) := by simp only [Hid]; rw [HM2.out, if_pos (.inr c2)]
                  have hat := HAs.out c2
                  go_enter Try.func19, Try.ntmps19
                  go_wp2_with (first | (go_at_call 50; with_reducible refine Calls.mono HB.out ?_; rintro e w' ⟨rfl, hw'⟩; rw [hw']; clear hw' w') | (go_at_call 48; with_reducible refine Calls.mono (HP.out _ (Below.refl _ _)) ?_; rintro e w2 ⟨rfl, hb2⟩; have HB2 := Lib.hid hb2; obtain ⟨y0, y1, y2⟩ := HCell.out _ hb2; clear hb2) | (go_at_call 18; with_reducible refine Calls.mono (HFr.out _ HB2.out) ?_; rintro e w3 ⟨rfl, hb3⟩; have HBx := Lib.hid (HB2.out.trans (hb3.mono HB2.out.size)); clear hb3; obtain ⟨z0, z1, z2⟩ := HCell.out _ HBx.out) | (go_at_call 17; with_reducible refine Calls.mono (HCt.out _) ?_; rintro e w' ⟨rfl, hw'⟩; rw [hw']; clear hw' w') | (go_at_call 51; with_reducible refine Calls.mono (HAt.out _ HBx.out) ?_; rintro e w' ⟨rfl, hw'⟩; rw [hw']; clear hw' w'))
                  go_ret
                  exact ⟨by rw [HE.out]; rfl, RStep.pre HB0.out (RStep.still HH.out HR.out HBx.out)⟩
                · have hno : S id = none := by cases hx : S id with | none => rfl | some q => rw [hx] at c2; exact absurd rfl c2
                  have hat := HAn.out hno
                  rw [hat] at HAt
                  by_cases c3 : 4096 ≤ L.length
                  · have HE : Hid (makeS S L.length i id kind quota d xs = 7) := by simp only [Hid]; rw [HM2.out, if_neg (by rw [c1t, hno]; simp), if_pos c3]
                    have c3i : (4096 : Int) ≤ (L.length : Int) := by omega
                    go_enter Try.func19, Try.ntmps19
                    go_wp2_with (first | (go_at_call 50; with_reducible refine Calls.mono HB.out ?_; rintro e w' ⟨rfl, hw'⟩; rw [hw']; clear hw' w') | (go_at_call 48; with_reducible refine Calls.mono (HP.out _ (Below.refl _ _)) ?_; rintro e w2 ⟨rfl, hb2⟩; have HB2 := Lib.hid hb2; obtain ⟨y0, y1, y2⟩ := HCell.out _ hb2; clear hb2) | (go_at_call 18; with_reducible refine Calls.mono (HFr.out _ HB2.out) ?_; rintro e w3 ⟨rfl, hb3⟩; have HBx := Lib.hid (HB2.out.trans (hb3.mono HB2.out.size)); clear hb3; obtain ⟨z0, z1, z2⟩ := HCell.out _ HBx.out) | (go_at_call 17; with_reducible refine Calls.mono (HCt.out _) ?_; rintro e w' ⟨rfl, hw'⟩; rw [hw']; clear hw' w') | (go_at_call 51; with_reducible refine Calls.mono (HAt.out _ HBx.out) ?_; rintro e w' ⟨rfl, hw'⟩; rw [hw']; clear hw' w'))
                    go_ret
                    exact ⟨by rw [HE.out]; rfl, RStep.pre HB0.out (RStep.still HH.out HR.out HBx.out)⟩
                  · have c3i : ¬ (4096 : Int) ≤ (L.length : Int) := by omega
                    by_cases c4 : o.quota - o.used < quota
                    · have HE : Hid (makeS S L.length i id kind quota d xs = 6) := by simp only [Hid]; rw [HM2.out, if_neg (by rw [c1t, hno]; simp), if_neg c3, if_pos c4]
                      go_enter Try.func19, Try.ntmps19
                      go_wp2_with (first | (go_at_call 50; with_reducible refine Calls.mono HB.out ?_; rintro e w' ⟨rfl, hw'⟩; rw [hw']; clear hw' w') | (go_at_call 48; with_reducible refine Calls.mono (HP.out _ (Below.refl _ _)) ?_; rintro e w2 ⟨rfl, hb2⟩; have HB2 := Lib.hid hb2; obtain ⟨y0, y1, y2⟩ := HCell.out _ hb2; clear hb2) | (go_at_call 18; with_reducible refine Calls.mono (HFr.out _ HB2.out) ?_; rintro e w3 ⟨rfl, hb3⟩; have HBx := Lib.hid (HB2.out.trans (hb3.mono HB2.out.size)); clear hb3; obtain ⟨z0, z1, z2⟩ := HCell.out _ HBx.out) | (go_at_call 17; with_reducible refine Calls.mono (HCt.out _) ?_; rintro e w' ⟨rfl, hw'⟩; rw [hw']; clear hw' w') | (go_at_call 51; with_reducible refine Calls.mono (HAt.out _ HBx.out) ?_; rintro e w' ⟨rfl, hw'⟩; rw [hw']; clear hw' w') | (go_at_call 52; with_reducible refine Calls.mono (HRm.out _ HBx.out) ?_; rintro e w5 ⟨rfl, hb5⟩; have HB5 := Lib.hid (HBx.out.trans (hb5.mono HBx.out.size)); clear hb5))
                      go_ret
                      exact ⟨by rw [HE.out]; rfl, RStep.pre HB0.out (RStep.still HH.out HR.out HB5.out)⟩
                    · exact absurd (by rw [HM2.out, if_neg (by rw [c1t, hno]; simp), if_neg c3, if_neg c4]) hz
            · have hff : freeS d xs = false := by simpa using hfr
              rw [hff] at HFr
              have HE : Hid (makeS S L.length i id kind quota d xs = 1) := by simp only [Hid]; rw [HM.out, if_neg k1, if_pos (.inr (.inr (by rw [hlow, fits_free]; exact hff)))]
              go_enter Try.func19, Try.ntmps19
              go_wp2_with (first | (go_at_call 50; with_reducible refine Calls.mono HB.out ?_; rintro e w' ⟨rfl, hw'⟩; rw [hw']; clear hw' w') | (go_at_call 48; with_reducible refine Calls.mono (HP.out _ (Below.refl _ _)) ?_; rintro e w2 ⟨rfl, hb2⟩; have HB2 := Lib.hid hb2; obtain ⟨y0, y1, y2⟩ := HCell.out _ hb2; clear hb2) | (go_at_call 18; with_reducible refine Calls.mono (HFr.out _ HB2.out) ?_; rintro e w3 ⟨rfl, hb3⟩; have HBx := Lib.hid (HB2.out.trans (hb3.mono HB2.out.size)); clear hb3; obtain ⟨z0, z1, z2⟩ := HCell.out _ HBx.out))
              go_ret
              exact ⟨by rw [HE.out]; rfl, RStep.pre HB0.out (RStep.still HH.out HR.out HBx.out)⟩
        · have hpf : plainS d xs = false := by simpa using hpl
          rw [hpf] at HP
          have hff : fitsS d (low kind) xs = false := by
            by_cases e : kind = 4 ∨ kind = 5
            · have : low kind = 0 := by unfold low; rw [if_pos e]
              rw [this, fits_plain]; exact hpf
            · have : low kind = 1 := by unfold low; rw [if_neg e]
              rw [this, fits_free]; unfold freeS; rw [hpf]; rfl
          have HE : Hid (makeS S L.length i id kind quota d xs = 1) := by simp only [Hid]; rw [HM.out, if_neg k1, if_pos (.inr (.inr hff))]
          go_enter Try.func19, Try.ntmps19
          go_wp2_with (first | (go_at_call 50; with_reducible refine Calls.mono HB.out ?_; rintro e w' ⟨rfl, hw'⟩; rw [hw']; clear hw' w') | (go_at_call 48; with_reducible refine Calls.mono (HP.out _ (Below.refl _ _)) ?_; rintro e w2 ⟨rfl, hb2⟩; have HBx := Lib.hid hb2; obtain ⟨y0, y1, y2⟩ := HCell.out _ hb2; clear hb2))
          go_ret
          exact ⟨by rw [HE.out]; rfl, RStep.pre HB0.out (RStep.still HH.out HR.out HBx.out)⟩
    · rw [if_neg hk1] at HB
      have HE : Hid (makeS S L.length i id kind quota d xs = 5) := by simp only [Hid]; unfold makeS contS; rw [hS]; simp [hk1]
      clear h hr hi h' hc hb0 mi ei
      go_enter Try.func19, Try.ntmps19
      go_wp2_with (first | (go_at_call 50; with_reducible refine Calls.mono HB.out ?_; rintro e w' ⟨rfl, hw'⟩; rw [hw']; clear hw' w'))
      go_ret
      exact ⟨by rw [HE.out]; rfl, RStep.pre HB0.out (RStep.still HH.out HR.out (Below.refl _ _))⟩
end
end Go.Proofs.Ytebcnlhgkpaghaa
