/- The chapter's examples answer as they should. -/
import Derived.Test.YthifejdphflfpaaDoorSame
namespace Go.Proofs.YthifejdphflfpaaDoor
open Go.RowKit Go.Sort
/-- What the package variables hold, as far as anything here asks it. -/
structure Env (w : World) : Prop where
  big : 3 ≤ w.heap.size
  ml : ∃ m, w.cell? ⟨0, 0, none⟩ = some (.int .i64 m)
theorem Env.keep {w w' : World} {n : Nat} (h : Env w) (hb : Below n w w') (hn : 3 ≤ n) : Env w' where
  big := Nat.le_trans h.big hb.size
  ml := by obtain ⟨m, hm⟩ := h.ml; exact ⟨m, (hb.cell (p := ⟨0, 0, none⟩) (by show 0 < n; omega)).trans hm⟩
theorem Env.below {w w' : World} (h : Env w) (hb : Below w.heap.size w w') : Env w' := h.keep hb h.big
def b7 : Nm := ⟨⟨#[98]⟩, 1, 7⟩
def a9 : Nm := ⟨⟨#[97]⟩, 2, 9⟩
theorem right_nil : rightL [] = true := rfl
theorem good_b7 : goodN b7 = true := by decide +kernel
theorem good_a9 : goodN a9 = true := by decide +kernel
theorem ins1 : insL [] b7 = [b7] := rfl
theorem right_b7 : rightL [b7] = true := by
  rw [← ins1]; exact ins_right right_nil good_b7 rfl (by decide)
theorem put1 : putE [] b7 = 0 := by rw [putE_room right_nil good_b7 rfl, if_pos (by decide)]
theorem putL1 : putL [] b7 = [b7] := by unfold putL; rw [if_pos put1, ins1]
theorem new_a : inB [b7] a9.nm = false := by
  cases h : inB [b7] a9.nm
  · rfl
  · obtain ⟨m, h1, h2⟩ := (inB_iff _ _).1 h
    simp at h1; subst h1
    have : b7.nm.data.toList = a9.nm.data.toList := by rw [h2]
    exact absurd this (by decide)
theorem put2 : putE [b7] a9 = 0 := by rw [putE_room right_b7 good_a9 new_a, if_pos (by decide)]
theorem ins2 : insL [b7] a9 = [a9, b7] := by
  rw [insL_cons, if_neg]
  unfold ltB; rw [tl, tl]; decide
theorem putL2 : putL [b7] a9 = [a9, b7] := by unfold putL; rw [if_pos put2, ins2]
theorem right_ab : rightL [a9, b7] = true := by rw [← ins2]; exact ins_right right_b7 good_a9 new_a (by decide)
theorem enc_ab : encE [a9, b7] = 0 := by unfold encE; rw [if_pos right_ab]
theorem encS_ab : encS [a9, b7] = ⟨#[1, 97, 2, 9, 0, 0, 0, 0, 0, 0, 0, 1, 98, 1, 7, 0, 0, 0, 0, 0, 0, 0]⟩ := by
  unfold encS; rw [if_pos right_ab]
  exact ByteArray.ext (Array.ext' (by decide +kernel))
def pth : ByteArray := ⟨#[47, 97, 47, 47, 46, 47, 98, 47, 46, 46, 47, 99]⟩
theorem spl_pth : splE [] (partsOf pth) = (0, [⟨#[97]⟩, ⟨#[99]⟩]) := by decide +kernel
theorem rat_nil (w : World) : RAt w none 0 [] := ⟨fun j hj => by simp at hj, by simp, by simp, fun _ => rfl⟩
set_option maxRecDepth 100000 in
set_option maxHeartbeats 2000000 in
theorem lives_any (w : World) (hE : Env w) : Calls Tryd.prog 9 #[] w fun e w' => e = .returned (.bool true) ∧ Below w.heap.size w w' := by
  have H1 : Hid (Calls Tryd.prog 10 #[.slice none 0 0, .agg #[.string ⟨#[98]⟩, .int .i64 1, .int .i64 7]] w fun e w' => ∃ v, e = .returned (.tuple #[v, .int .i64 0]) ∧ w'.ownsRow w.heap.size 25 3 v 1 (flat [b7]) ∧ Below w.heap.size w w') := by
    have h := Put_any none 0 [] b7 w (rat_nil w)
    rw [put1, putL1] at h; exact h
  have H2 : Hid (∀ (p : Option Addr) (cap : Nat) (W : World), RAt W p cap [b7] → Calls Tryd.prog 10 #[.slice p 1 cap, .agg #[.string ⟨#[97]⟩, .int .i64 2, .int .i64 9]] W fun e w' => ∃ v, e = .returned (.tuple #[v, .int .i64 0]) ∧ w'.ownsRow W.heap.size 25 3 v 2 (flat [a9, b7]) ∧ Below W.heap.size W w') := fun p cap W hR => by
    have h := Put_any p cap [b7] a9 W hR
    rw [put2, putL2] at h; exact h
  have H3 : Hid (∀ (p : Option Addr) (cap : Nat) (W : World), RAt W p cap [a9, b7] → Calls Tryd.prog 14 #[.slice p 2 cap] W fun e w' => e = .returned (.tuple #[.string ⟨#[1, 97, 2, 9, 0, 0, 0, 0, 0, 0, 0, 1, 98, 1, 7, 0, 0, 0, 0, 0, 0, 0]⟩, .int .i64 0]) ∧ Below W.heap.size W w') := fun p cap W hR => by
    have h := Encode_any p cap [a9, b7] W (Nat.le_trans hR.len hR.top) hR.row
    rw [enc_ab, encS_ab] at h; exact h
  have H4 : Hid (∀ W : World, Env W → Calls Tryd.prog 23 #[.string ⟨#[47, 97, 47, 47, 46, 47, 98, 47, 46, 46, 47, 99]⟩] W fun e w' => ∃ v, e = .returned (.tuple #[v, .int .i64 0]) ∧ w'.ownsRow W.heap.size 9 1 v 2 (svs [⟨#[97]⟩, ⟨#[99]⟩]) ∧ Below W.heap.size W w') := fun W hW => by
    obtain ⟨m, hm⟩ := hW.ml
    have h := Split_all pth m W (by decide) hm
    rw [spl_pth] at h; exact h
  have HT : Hid (∀ (p q : Option Addr) (cp cq : Nat) (W : World), TsAt W p [⟨#[97]⟩, ⟨#[99]⟩] → TsAt W q [⟨#[97]⟩, ⟨#[99]⟩] → Calls Tryd.prog 25 #[.slice p 2 cp, .slice q 2 cq] W fun e w' => e = .returned (.bool true) ∧ Below W.heap.size W w') := fun p q cp cq W h1 h2 => by
    have h := SameTexts_any p q cp cq [⟨#[97]⟩, ⟨#[99]⟩] [⟨#[97]⟩, ⟨#[99]⟩] W (by decide) h1 h2
    rw [decide_eq_true rfl] at h; exact h
  go_enter Tryd.func9, Tryd.ntmps9
  go_wp2_with (first
    | (go_at_call_of 10 (Value.slice none 0 0); refine H1.out.mono ?_; rintro e w1 ⟨v1, rfl, ho1, hb1⟩; refine Hid.out ?_))
  refine Lib.hid ?_
  obtain ⟨p1, cp1, rfl, -, hR1⟩ := own_rat ho1
  have HR1 := Lib.hid hR1
  have HB1 := Lib.hid hb1
  clear ho1 hR1 hb1 H1
  go_wp2_with (first
    | (go_at_call 10; refine (H2.out _ _ _ HR1.out).mono ?_; rintro e w2 ⟨v2, rfl, ho2, hb2⟩; refine Hid.out ?_))
  refine Lib.hid ?_
  obtain ⟨p2, cp2, rfl, -, hR2⟩ := own_rat ho2
  have HR2 := Lib.hid hR2
  have HB2 := Lib.hid (HB1.out.trans (hb2.mono HB1.out.size))
  clear ho2 hR2 hb2 H2 HR1 HB1
  go_wp2_with (first
    | (go_at_call 14; refine (H3.out _ _ _ HR2.out).mono ?_; rintro e w3 ⟨rfl, hb3⟩; refine Hid.out ?_))
  refine Lib.hid ?_
  have HB3 := Lib.hid (HB2.out.trans (hb3.mono HB2.out.size))
  clear hb3 H3 HR2 HB2
  go_wp2_with (first
    | (go_at_call 23; refine (H4.out _ (hE.below HB3.out)).mono ?_; rintro e w4 ⟨v4, rfl, ho4, hb4⟩; refine Hid.out ?_))
  refine Lib.hid ?_
  obtain ⟨p4, cp4, rfl, hT4⟩ := own_ts ho4 rfl
  have HB4 := Lib.hid (HB3.out.trans (hb4.mono HB3.out.size))
  have hbX : Below w4.heap.size w4 (w4.alloc (.cells #[.string ⟨#[97]⟩, .string ⟨#[99]⟩] 9)) := (Below.refl _ _).alloc (Nat.le_refl _) _
  have HT1 := Lib.hid (hT4.below hbX)
  have HT2 : Hid (TsAt (w4.alloc (.cells #[.string ⟨#[97]⟩, .string ⟨#[99]⟩] 9)) (some ⟨w4.heap.size, 0, none⟩) [⟨#[97]⟩, ⟨#[99]⟩]) := fun j hj => by
    refine ⟨w4.heap.size, 0, rfl, by simp, ?_⟩
    match j, hj with
    | 0, _ => simp only [World.cell?, heap_new]; rfl
    | 1, _ => simp only [World.cell?, heap_new]; rfl
  have HBX := Lib.hid (HB4.out.trans (hbX.mono HB4.out.size))
  have hsx := HBX.out.size
  clear ho4 hT4 hb4 hbX HB3 HB4
  go_wp2_with (first
    | (go_at_call 25; refine (HT.out _ _ _ _ _ HT1.out HT2.out).mono ?_; rintro e w5 ⟨rfl, hb5⟩))
  go_ret
  exact ⟨rfl, HBX.out.trans (hb5.mono hsx)⟩
end Go.Proofs.YthifejdphflfpaaDoor
