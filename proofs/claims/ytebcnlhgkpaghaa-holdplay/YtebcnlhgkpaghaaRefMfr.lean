/- What Make of the reference does where nothing is against it. -/
import Derived.Test.YtebcnlhgkpaghaaRefM0
namespace Go.Proofs.Ytebcnlhgkpaghaa
open Go.RowKit Go.Sort
section
variable {w : World} {rb g cap : Nat} {cs : Array Value} {root : Int} {L : List Th} {F : Nat → Prop} {S : Abs} {K : List Int} {rt : Int}
set_option maxRecDepth 100000 in
set_option maxHeartbeats 8000000 in
theorem rMake_free (h : RS w rb g cap cs root L F) (hr : RelD S L []) (hi : Inv rt S K) (i id kind quota d : Int) (p : Option Addr) (cc : Nat) (xs : List (Int × Int)) (hm : xs.length < 1000000) (hc : CatsAt w p xs) (ho : Off (fun b => b = rb ∨ b = g ∨ F b) p xs.length) (hkd : kind ≠ 4 ∧ kind ≠ 5) (hz : makeS S L.length i id kind quota d xs = 0) :
    Calls Try.prog 19 #[.pointer (some ⟨rb, 0, none⟩), .int .i64 i, .int .i64 id, .int .i64 kind, .int .i64 quota, .agg #[.int .i64 d, .slice p xs.length cc]] w fun e w' => e = .returned (.int .i64 0) ∧ RStep w w' rb g root F (makeT S L.length i id kind quota d xs) := by
  obtain ⟨W0, hW0⟩ : ∃ W0, w.alloc (.cells #[.int .i64 d, .slice p xs.length cc] 24) = W0 := ⟨_, rfl⟩
  have hb0 : Below w.heap.size w W0 := by rw [← hW0]; exact (Below.refl _ _).alloc (Nat.le_refl _) _
  have a0 : W0.cell? ⟨w.heap.size, 0, none⟩ = some (.int .i64 d) := by rw [← hW0]; simp [go_sem]
  have a1 : W0.cell? ⟨w.heap.size, 1, none⟩ = some (.slice p xs.length cc) := by rw [← hW0]; simp [go_sem]
  have hz0 : w.heap.size < W0.heap.size := by rw [← hW0]; simp
  have h' := h.below hb0
  have HH := Lib.hid h'
  have HR := Lib.hid hr
  have HB0 := Lib.hid hb0
  have hLn := h.lim.1
  obtain ⟨h0, h1⟩ := h'.hd
  have HCell : Hid (∀ W, Below W0.heap.size W0 W → W.cell? ⟨w.heap.size, 0, none⟩ = some (.int .i64 d) ∧ W.cell? ⟨w.heap.size, 1, none⟩ = some (.slice p xs.length cc) ∧ W.cell? ⟨rb, 1, none⟩ = some (.slice (some ⟨g, 0, none⟩) L.length cap)) := fun W hb => ⟨(hb.cell (p := ⟨w.heap.size, 0, none⟩) hz0).trans a0, (hb.cell (p := ⟨w.heap.size, 1, none⟩) hz0).trans a1, (h'.below hb).hd.2⟩
  have HP : Hid (∀ W, Below W0.heap.size W0 W → Calls Try.prog 48 #[.agg #[.int .i64 d, .slice p xs.length cc]] W fun e w' => e = .returned (.bool (plainS d xs)) ∧ Below W.heap.size W w') := fun W hb => refPlain_any d p cc xs W (by unfold maxLen; omega) ((hc.below hb0).below hb)
  have HFr : Hid (∀ W, Below W0.heap.size W0 W → Calls Try.prog 18 #[.agg #[.int .i64 d, .slice p xs.length cc]] W fun e w' => e = .returned (.bool (freeS d xs)) ∧ Below W.heap.size W w') := fun W hb => refFree_any d p cc xs W (by unfold maxLen; omega) ((hc.below hb0).below hb)
  have HCt := Lib.hid (Cat_any id)
  have HAt : Hid (∀ W, Below W0.heap.size W0 W → Calls Try.prog 51 #[.pointer (some ⟨rb, 0, none⟩), .int .i64 id] W fun e w' => e = .returned (.int .i64 (atL L id 0)) ∧ w' = W) := fun W hb => rAt_any (h'.below hb) id
  have HM := Lib.hid hz
  have hcz : contS S i = 0 := by
    by_cases e : contS S i = 0
    · exact e
    · unfold makeS at hz; rw [if_pos e] at hz; exact absurd hz e
  obtain ⟨o, hS, hk1⟩ : ∃ o, S i = some o ∧ o.kind = 1 := by
    unfold contS at hcz
    cases hS : S i with
    | none => rw [hS] at hcz; cases hcz
    | some o =>
      rw [hS] at hcz
      by_cases e : o.kind = 1
      · exact ⟨o, rfl, e⟩
      · simp [e] at hcz
  unfold makeS at hz
  rw [if_neg (by rw [hcz]; simp), hS] at hz
  have k1 : ¬ (kind < 1 ∨ 6 < kind) := fun e => by rw [if_pos e] at hz; cases hz
  rw [if_neg k1] at hz
  have k2 : ¬ (quota < 1 ∨ 1099511627776 < quota ∨ fitsS d (low kind) xs = false) := fun e => by rw [if_pos e] at hz; cases hz
  rw [if_neg k2] at hz
  have k3 : ¬ (isCt id = false ∨ (S id).isSome = true) := fun e => by rw [if_pos e] at hz; cases hz
  rw [if_neg k3] at hz
  have k4 : ¬ 4096 ≤ L.length := fun e => by rw [if_pos e] at hz; cases hz
  rw [if_neg k4] at hz
  have k5 : ¬ o.quota - o.used < quota := fun e => by simp only [if_pos e] at hz; cases hz
  have hfit : fitsS d (low kind) xs = true := by cases hx : fitsS d (low kind) xs with | true => rfl | false => exact absurd (.inr (.inr hx)) k2
  have hct : isCt id = true := by cases hx : isCt id with | true => rfl | false => exact absurd (.inl hx) k3
  have hno : S id = none := by cases hx : S id with | none => rfl | some q => exact absurd (.inr (by rw [hx]; rfl)) k3
  have q1 : ¬ quota < 1 := by omega
  have q2 : ¬ 1099511627776 < quota := by omega
  have kk1 : ¬ kind < 1 := by omega
  have kk2 : ¬ 6 < kind := by omega
  have c3i : ¬ (4096 : Int) ≤ (L.length : Int) := by omega
  clear hz k1 k2 k3
  obtain ⟨ki, hki, ei, mi⟩ := hr.pos hS
  have HB := Lib.hid (rbox_some h' i ki hki ei)
  rw [← mi.1, if_pos hk1] at HB
  rw [hct] at HCt
  rw [atL_no 0 (hr.nopos hno)] at HAt
  have HRm : Hid (∀ W, Below W0.heap.size W0 W → Calls Try.prog 52 #[.pointer (some ⟨rb, 0, none⟩), .int .i64 ki] W fun e w' => e = .returned (.int .i64 (o.quota - o.used)) ∧ Below W.heap.size W w') := fun W hb => rRoom_any (h'.below hb) hr hi ki hki (by rw [ei]; exact hS)
  have HO : Hid (Off (fun b => b = rb ∨ b = g ∨ F b) p xs.length) := ho
  have HC := Lib.hid (hc.below hb0)
  have Hel : Hid (L[ki].ents.length < 900000) := by have h1 := hi.elen hS; have h2 := hi.len; simp only [Hid]; rw [← mi.2.2.2.2]; omega
  have hgl0 : g < w.heap.size := h.rl.2
  have HKi := Lib.hid (And.intro ei (And.intro mi (And.intro hS hno)))
  have hkii : (ki : Int) < (L.length : Int) := by omega
  have hfr : freeS d xs = true := by rw [show low kind = 1 from by unfold low; rw [if_neg (by omega)]] at hfit; rw [← fits_free]; exact hfit
  have hpl : plainS d xs = true := by unfold freeS at hfr; simp at hfr; exact hfr.1
  rw [hpl] at HP
  rw [hfr] at HFr
  obtain ⟨hk4, hk5⟩ := hkd
  have b4 : (kind != 4) = true := by simpa using hk4
  have b5 : (kind != 5) = true := by simpa using hk5
  clear h hr hi h' hc hb0 ei mi hS hno ho
  go_enter Try.func19, Try.ntmps19
  go_upto_region 14 with (first | (go_at_call 50; with_reducible refine Calls.mono HB.out ?_; rintro e w' ⟨rfl, hw'⟩; rw [hw']; clear hw' w') | (go_at_call 48; with_reducible refine Calls.mono (HP.out _ (Below.refl _ _)) ?_; rintro e w2 ⟨rfl, hb2⟩; have HB2 := Lib.hid hb2; obtain ⟨y0, y1, y2⟩ := HCell.out _ hb2; clear hb2) | (go_at_call 18; with_reducible refine Calls.mono (HFr.out _ HB2.out) ?_; rintro e w3 ⟨rfl, hb3⟩; have HBx := Lib.hid (HB2.out.trans (hb3.mono HB2.out.size)); clear hb3; obtain ⟨z0, z1, z2⟩ := HCell.out _ HBx.out) | (go_at_call 17; with_reducible refine Calls.mono (HCt.out _) ?_; rintro e w' ⟨rfl, hw'⟩; rw [hw']; clear hw' w') | (go_at_call 51; with_reducible refine Calls.mono (HAt.out _ HBx.out) ?_; rintro e w' ⟨rfl, hw'⟩; rw [hw']; clear hw' w') | (go_at_call 52; with_reducible refine Calls.mono (HRm.out _ HBx.out) ?_; rintro e w5 ⟨rfl, hb5⟩; have HB5 := Lib.hid (HBx.out.trans (hb5.mono HBx.out.size)); clear hb5))
  rw [show decide ((4096 : Int) ≤ (L.length : Int)) = false from decide_eq_false (by omega)]
  obtain ⟨v0, v1, v2⟩ := HCell.out _ HB5.out
  have h5 := HH.out.below HB5.out
  have H5 := Lib.hid h5
  have hw0 : w.heap.size < w5.heap.size := Nat.lt_of_lt_of_le hz0 HB5.out.size
  have hrl := h5.rl
  have hne : rb ≠ g := h5.ne
  have hwg : w.heap.size ≠ g := by omega
  have cW : ∀ (b : Bool) X, RB w5 g b X → X.cell? ⟨rb, 1, none⟩ = some (.slice (some ⟨g, 0, none⟩) L.length cap) ∧ X.cell? ⟨w.heap.size, 0, none⟩ = some (.int .i64 d) ∧ X.cell? ⟨w.heap.size, 1, none⟩ = some (.slice p xs.length cc) := fun b X hX =>
    ⟨(World.cell?_of_block (a := ⟨rb, 1, none⟩) (hX.2.2.2.2 rb hrl.1 (.inl hne))).trans v2, (World.cell?_of_block (a := ⟨w.heap.size, 0, none⟩) (hX.2.2.2.2 _ hw0 (.inl hwg))).trans v0, (World.cell?_of_block (a := ⟨w.heap.size, 1, none⟩) (hX.2.2.2.2 _ hw0 (.inl hwg))).trans v1⟩
  clear v0 v1 v2 h5
  refine wp_region_monoD 6 14 11 (RB w5 g) (fun bq kq uq Xq => match kq with | 74 => uq = .pointer (some ⟨rb, 0, none⟩) | 75 => uq = .pointer (some ⟨rb, 0, none⟩) | 76 => uq = .pointer (some ⟨rb, 0, none⟩) | 77 => uq = .pointer (some ⟨rb, 1, none⟩) | 78 => uq = .slice (some ⟨g, 0, none⟩) L.length cap | 79 => uq = .int .i64 id | 80 => uq = .int .i64 kind | 81 => uq = .int .i64 quota | 82 => uq = .agg #[.int .i64 d, .slice p xs.length cc] | 83 => uq = .agg #[.int .i64 id, .int .i64 kind, .int .i64 quota, .int .i64 d, .slice p xs.length cc, .slice none 0 0] | 84 => (bq = false → OneT w5 (nTh id kind quota d p cc xs) (uq) Xq) | 85 => AllT w5 g (L ++ [nTh id kind quota d p cc xs]) (uq) Xq | 86 => uq = .pointer (some ⟨rb, 0, none⟩) | 87 => uq = .pointer (some ⟨rb, 1, none⟩) | _ => True) (by kernel_rfl) (by kernel_rfl) (by kernel_rfl) (by kernel_rfl) (by simp) (by kernel_rfl) (by decide) (fun _ _ _ h k => RB.below h k) (⟨rfl, rfl, rfl, Nat.le_refl _, fun _ _ _ => rfl⟩) ?_ ?_ ?_
  · intro bq kq v W W' h hb
    revert h
    try dsimp only
    split
    · intro h; exact h
    · intro h; exact h
    · intro h; exact h
    · intro h; exact h
    · intro h; exact h
    · intro h; exact h
    · intro h; exact h
    · intro h; exact h
    · intro h; exact h
    · intro h; exact h
    · intro h; exact fun eb => (fun h => OneT.below h hb) (h eb)
    · intro h; exact AllT.below h hb
    · intro h; exact h
    · intro h; exact h
    · intro h; trivial
  · intro a' X b hB hs hk i o d ho hd hbc hG
    match i, ho with
    | 0, ho =>
      obtain rfl : _ = o := Option.some.inj ho
      obtain rfl : 74 = d := Option.some.inj hd
      have g0 : a'.eval (.tmp 0) = .pointer (some ⟨rb, 0, none⟩) := hk 0 (by kernel_rfl)
      obtain ⟨ev, hev⟩ : ∃ ev, a'.eval = ev := ⟨_, rfl⟩
      rw [hev] at g0 ⊢
      clear hev hG hk hbc
      obtain ⟨e1, e2, e3⟩ := cW _ X hB
      exact .inr ⟨rfl, .inl ⟨.pointer (some ⟨rb, 0, none⟩), X, by clear hs; go_simp, .inl ⟨by decide, Below.refl _ _, rfl⟩⟩⟩
    | 1, ho =>
      obtain rfl : _ = o := Option.some.inj ho
      obtain rfl : 75 = d := Option.some.inj hd
      have g0 : a'.eval (.tmp 0) = .pointer (some ⟨rb, 0, none⟩) := hk 0 (by kernel_rfl)
      obtain ⟨ev, hev⟩ : ∃ ev, a'.eval = ev := ⟨_, rfl⟩
      rw [hev] at g0 ⊢
      clear hev hG hk hbc
      obtain ⟨e1, e2, e3⟩ := cW _ X hB
      exact .inr ⟨rfl, .inl ⟨.pointer (some ⟨rb, 0, none⟩), X, by clear hs; go_simp, .inl ⟨by decide, Below.refl _ _, rfl⟩⟩⟩
    | 2, ho =>
      obtain rfl : _ = o := Option.some.inj ho
      obtain rfl : 76 = d := Option.some.inj hd
      have g75 : a'.eval (.tmp 75) = .pointer (some ⟨rb, 0, none⟩) := hG ⟨1, .data⟩ (by simp) rfl 75 rfl
      obtain ⟨ev, hev⟩ : ∃ ev, a'.eval = ev := ⟨_, rfl⟩
      rw [hev] at g75 ⊢
      clear hev hG hk hbc
      obtain ⟨e1, e2, e3⟩ := cW _ X hB
      exact .inr ⟨rfl, .inl ⟨.pointer (some ⟨rb, 0, none⟩), X, by clear hs; go_simp, .inl ⟨by decide, Below.refl _ _, rfl⟩⟩⟩
    | 3, ho =>
      obtain rfl : _ = o := Option.some.inj ho
      obtain rfl : 77 = d := Option.some.inj hd
      have g76 : a'.eval (.tmp 76) = .pointer (some ⟨rb, 0, none⟩) := hG ⟨2, .data⟩ (by simp) rfl 76 rfl
      obtain ⟨ev, hev⟩ : ∃ ev, a'.eval = ev := ⟨_, rfl⟩
      rw [hev] at g76 ⊢
      clear hev hG hk hbc
      obtain ⟨e1, e2, e3⟩ := cW _ X hB
      exact .inr ⟨rfl, .inl ⟨.pointer (some ⟨rb, 1, none⟩), X, by clear hs; go_simp, .inl ⟨by decide, Below.refl _ _, rfl⟩⟩⟩
    | 4, ho =>
      obtain rfl : _ = o := Option.some.inj ho
      obtain rfl : 78 = d := Option.some.inj hd
      obtain rfl : b = false := hbc (.inr (by kernel_rfl))
      have g77 : a'.eval (.tmp 77) = .pointer (some ⟨rb, 1, none⟩) := hG ⟨3, .data⟩ (by simp) rfl 77 rfl
      obtain ⟨ev, hev⟩ : ∃ ev, a'.eval = ev := ⟨_, rfl⟩
      rw [hev] at g77 ⊢
      clear hev hG hk hbc
      obtain ⟨e1, e2, e3⟩ := cW _ X hB
      exact .inr ⟨rfl, .inl ⟨.slice (some ⟨g, 0, none⟩) L.length cap, X, by clear hs; go_simp, .inl ⟨by decide, Below.refl _ _, rfl⟩⟩⟩
    | 5, ho =>
      obtain rfl : _ = o := Option.some.inj ho
      obtain rfl : 79 = d := Option.some.inj hd
      have g2 : a'.eval (.tmp 2) = .int .i64 id := hk 2 (by kernel_rfl)
      obtain ⟨ev, hev⟩ : ∃ ev, a'.eval = ev := ⟨_, rfl⟩
      rw [hev] at g2 ⊢
      clear hev hG hk hbc
      obtain ⟨e1, e2, e3⟩ := cW _ X hB
      exact .inr ⟨rfl, .inl ⟨.int .i64 id, X, by clear hs; go_simp, .inl ⟨by decide, Below.refl _ _, rfl⟩⟩⟩
    | 6, ho =>
      obtain rfl : _ = o := Option.some.inj ho
      obtain rfl : 80 = d := Option.some.inj hd
      have g3 : a'.eval (.tmp 3) = .int .i64 kind := hk 3 (by kernel_rfl)
      obtain ⟨ev, hev⟩ : ∃ ev, a'.eval = ev := ⟨_, rfl⟩
      rw [hev] at g3 ⊢
      clear hev hG hk hbc
      obtain ⟨e1, e2, e3⟩ := cW _ X hB
      exact .inr ⟨rfl, .inl ⟨.int .i64 kind, X, by clear hs; go_simp, .inl ⟨by decide, Below.refl _ _, rfl⟩⟩⟩
    | 7, ho =>
      obtain rfl : _ = o := Option.some.inj ho
      obtain rfl : 81 = d := Option.some.inj hd
      have g4 : a'.eval (.tmp 4) = .int .i64 quota := hk 4 (by kernel_rfl)
      obtain ⟨ev, hev⟩ : ∃ ev, a'.eval = ev := ⟨_, rfl⟩
      rw [hev] at g4 ⊢
      clear hev hG hk hbc
      obtain ⟨e1, e2, e3⟩ := cW _ X hB
      exact .inr ⟨rfl, .inl ⟨.int .i64 quota, X, by clear hs; go_simp, .inl ⟨by decide, Below.refl _ _, rfl⟩⟩⟩
    | 8, ho =>
      obtain rfl : _ = o := Option.some.inj ho
      obtain rfl : 82 = d := Option.some.inj hd
      obtain rfl : b = false := hbc (.inr (by kernel_rfl))
      have g11 : a'.eval (.tmp 11) = .pointer (some ⟨w.heap.size, 0, none⟩) := hk 11 (by kernel_rfl)
      obtain ⟨ev, hev⟩ : ∃ ev, a'.eval = ev := ⟨_, rfl⟩
      rw [hev] at g11 ⊢
      clear hev hG hk hbc
      obtain ⟨e1, e2, e3⟩ := cW _ X hB
      exact .inr ⟨rfl, .inl ⟨.agg #[.int .i64 d, .slice p xs.length cc], X, by clear hs; go_simp, .inl ⟨by decide, Below.refl _ _, rfl⟩⟩⟩
    | 9, ho =>
      obtain rfl : _ = o := Option.some.inj ho
      obtain rfl : 83 = d := Option.some.inj hd
      obtain rfl : b = false := hbc (.inr (by kernel_rfl))
      have g79 : a'.eval (.tmp 79) = .int .i64 id := hG ⟨5, .data⟩ (by simp) rfl 79 rfl
      have g80 : a'.eval (.tmp 80) = .int .i64 kind := hG ⟨6, .data⟩ (by simp) rfl 80 rfl
      have g81 : a'.eval (.tmp 81) = .int .i64 quota := hG ⟨7, .data⟩ (by simp) rfl 81 rfl
      have g82 : a'.eval (.tmp 82) = .agg #[.int .i64 d, .slice p xs.length cc] := hG ⟨8, .data⟩ (by simp) rfl 82 rfl
      obtain ⟨ev, hev⟩ : ∃ ev, a'.eval = ev := ⟨_, rfl⟩
      rw [hev] at g79 g80 g81 g82 ⊢
      clear hev hG hk hbc
      obtain ⟨e1, e2, e3⟩ := cW _ X hB
      exact .inr ⟨rfl, .inl ⟨.agg #[.int .i64 id, .int .i64 kind, .int .i64 quota, .int .i64 d, .slice p xs.length cc, .slice none 0 0], X, by clear hs; go_simp, .inl ⟨by decide, Below.refl _ _, rfl⟩⟩⟩
    | 10, ho =>
      obtain rfl : _ = o := Option.some.inj ho
      obtain rfl : 84 = d := Option.some.inj hd
      obtain rfl : b = false := hbc (.inr (by kernel_rfl))
      have g83 : a'.eval (.tmp 83) = .agg #[.int .i64 id, .int .i64 kind, .int .i64 quota, .int .i64 d, .slice p xs.length cc, .slice none 0 0] := hG ⟨9, .data⟩ (by simp) rfl 83 rfl
      obtain ⟨ev, hev⟩ : ∃ ev, a'.eval = ev := ⟨_, rfl⟩
      rw [hev] at g83 ⊢
      clear hev hG hk hbc
      have hr : (execOp ev { dst := some 84, op := .buildSlice 61 1 #[(0, .tmp 83)], type := 61, pos := "ref.go:112", after := #[⟨9, .data⟩], guard := none }).run Try.prog X = .ok (.value (.slice (some ⟨X.heap.size, 0, none⟩) 1 1)) (X.alloc (.cells #[.int .i64 id, .int .i64 kind, .int .i64 quota, .int .i64 d, .slice p xs.length cc, .slice none 0 0] 60)) := by clear hs; go_simp
      exact .inr ⟨rfl, .inl ⟨_, _, hr, .inl ⟨by decide, (Below.refl _ _).alloc (Nat.le_refl _) _, fun _ => ⟨X.heap.size, rfl, hB.2.2.2.1, heap_new _ _⟩⟩⟩⟩
    | 11, ho =>
      obtain rfl : _ = o := Option.some.inj ho
      obtain rfl : 85 = d := Option.some.inj hd
      obtain rfl : b = false := hbc (.inl rfl)
      have g78 : a'.eval (.tmp 78) = .slice (some ⟨g, 0, none⟩) L.length cap := hG ⟨4, .data⟩ (by simp) rfl 78 rfl
      have g84 : (false = false → OneT w5 (nTh id kind quota d p cc xs) (a'.eval (.tmp 84)) X) := hG ⟨10, .data⟩ (by simp) rfl 84 rfl
      obtain ⟨ev, hev⟩ : ∃ ev, a'.eval = ev := ⟨_, rfl⟩
      rw [hev] at g78 g84 ⊢
      clear hev hG hk hbc
      obtain ⟨q, hq, hsq⟩ := (g84 rfl).src
      have hown : X.ownsRow 0 60 6 (.slice (some ⟨g, 0, none⟩) L.length cap) L.length (thsC L) := row_same (H5.out.own 0 (Nat.zero_le _)) (fun k hk => by simp [Value.ownBlock] at hk; subst hk; exact hB.2.2.2.2 _ hrl.2 (.inr rfl))
      obtain ⟨v', X', hr, ho, hgw, hat⟩ := appT_at (c := 1) hown hsq (by simp; omega) 61
      have hR : RB w5 g true X' := ⟨hgw.os.trans hB.1, hgw.tape.trans hB.2.1, hgw.output.trans hB.2.2.1, Nat.le_trans hB.2.2.2.1 hgw.size, fun k hk hn => (hgw.block k (Nat.lt_of_lt_of_le hk hB.2.2.2.1) (fun e => by simp [Value.ownBlock] at e; rcases hn with h | h; exact h e; cases h)).trans (hB.2.2.2.2 k hk (.inr rfl))⟩
      have hA : AllT w5 g (L ++ [nTh id kind quota d p cc xs]) v' X' := by
        rcases ho.2 with ⟨_, h0⟩ | ⟨g', c', cur, rfl, h2⟩
        · simp at h0
        · refine ⟨g', c', rfl, ?_, ho⟩
          rcases hat with e | e
          · simp [Value.ownBlock] at e; exact .inl e
          · simp [Value.ownBlock] at e; have := hB.2.2.2.1; exact .inr (by omega)
      exact .inr ⟨rfl, .inl ⟨v', X', exec_app rfl g78 hq hr, .inr ⟨rfl, hR, hA, fun kq u hne h => by revert h; (try dsimp only); split <;> first | (intro h; exact h) | (intro h e; cases e) | exact absurd rfl hne⟩⟩⟩
    | 12, ho =>
      obtain rfl : _ = o := Option.some.inj ho
      obtain rfl : 86 = d := Option.some.inj hd
      have g74 : a'.eval (.tmp 74) = .pointer (some ⟨rb, 0, none⟩) := hG ⟨0, .data⟩ (by simp) rfl 74 rfl
      obtain ⟨ev, hev⟩ : ∃ ev, a'.eval = ev := ⟨_, rfl⟩
      rw [hev] at g74 ⊢
      clear hev hG hk hbc
      obtain ⟨e1, e2, e3⟩ := cW _ X hB
      exact .inr ⟨rfl, .inl ⟨.pointer (some ⟨rb, 0, none⟩), X, by clear hs; go_simp, .inl ⟨by decide, Below.refl _ _, rfl⟩⟩⟩
    | 13, ho =>
      obtain rfl : _ = o := Option.some.inj ho
      obtain rfl : 87 = d := Option.some.inj hd
      have g86 : a'.eval (.tmp 86) = .pointer (some ⟨rb, 0, none⟩) := hG ⟨12, .data⟩ (by simp) rfl 86 rfl
      obtain ⟨ev, hev⟩ : ∃ ev, a'.eval = ev := ⟨_, rfl⟩
      rw [hev] at g86 ⊢
      clear hev hG hk hbc
      obtain ⟨e1, e2, e3⟩ := cW _ X hB
      exact .inr ⟨rfl, .inl ⟨.pointer (some ⟨rb, 1, none⟩), X, by clear hs; go_simp, .inl ⟨by decide, Below.refl _ _, rfl⟩⟩⟩
    | j + 14, ho => simp at ho
  · intro a' X hB hs hdf hk hG
    obtain ⟨tm, df⟩ := a'
    obtain rfl : df = [] := hdf
    have e0 : tm.getD 0 undef = .pointer (some ⟨rb, 0, none⟩) := hk 0 (by kernel_rfl)
    have e1 : tm.getD 1 undef = .int .i64 i := hk 1 (by kernel_rfl)
    have e2 : tm.getD 2 undef = .int .i64 id := hk 2 (by kernel_rfl)
    have e3 : tm.getD 3 undef = .int .i64 kind := hk 3 (by kernel_rfl)
    have e4 : tm.getD 4 undef = .int .i64 quota := hk 4 (by kernel_rfl)
    have e5 : tm.getD 5 undef = .agg #[.int .i64 d, .slice p xs.length cc] := hk 5 (by kernel_rfl)
    have e6 : tm.getD 6 undef = undef := hk 6 (by kernel_rfl)
    have e7 : tm.getD 7 undef = undef := hk 7 (by kernel_rfl)
    have e8 : tm.getD 8 undef = undef := hk 8 (by kernel_rfl)
    have e9 : tm.getD 9 undef = undef := hk 9 (by kernel_rfl)
    have e10 : tm.getD 10 undef = undef := hk 10 (by kernel_rfl)
    have e11 : tm.getD 11 undef = .pointer (some ⟨w.heap.size, 0, none⟩) := hk 11 (by kernel_rfl)
    have e12 : tm.getD 12 undef = .int .i64 0 := hk 12 (by kernel_rfl)
    have e13 : tm.getD 13 undef = .int .i64 ki := hk 13 (by kernel_rfl)
    have e14 : tm.getD 14 undef = .int .i64 0 := hk 14 (by kernel_rfl)
    have e15 : tm.getD 15 undef = .tuple #[.int .i64 ki, .int .i64 0] := hk 15 (by kernel_rfl)
    have e16 : tm.getD 16 undef = .pointer (some ⟨rb, 0, none⟩) := hk 16 (by kernel_rfl)
    have e17 : tm.getD 17 undef = .int .i64 i := hk 17 (by kernel_rfl)
    have e18 : tm.getD 18 undef = .tuple #[.int .i64 ki, .int .i64 0] := hk 18 (by kernel_rfl)
    have e19 : tm.getD 19 undef = .int .i64 ki := hk 19 (by kernel_rfl)
    have e20 : tm.getD 20 undef = .int .i64 0 := hk 20 (by kernel_rfl)
    have e21 : tm.getD 21 undef = .int .i64 0 := hk 21 (by kernel_rfl)
    have e22 : tm.getD 22 undef = .bool false := hk 22 (by kernel_rfl)
    have e23 : tm.getD 23 undef = undef := hk 23 (by kernel_rfl)
    have e24 : tm.getD 24 undef = .int .i64 kind := hk 24 (by kernel_rfl)
    have e25 : tm.getD 25 undef = .bool (decide (kind < 1)) := hk 25 (by kernel_rfl)
    have e26 : tm.getD 26 undef = .bool (decide (kind < 1)) := hk 26 (by kernel_rfl)
    have e27 : tm.getD 27 undef = .int .i64 kind := hk 27 (by kernel_rfl)
    have e28 : tm.getD 28 undef = .bool (decide (6 < kind)) := hk 28 (by kernel_rfl)
    have e29 : tm.getD 29 undef = .bool (decide (kind < 1) || decide (6 < kind)) := hk 29 (by kernel_rfl)
    have e30 : tm.getD 30 undef = .int .i64 quota := hk 30 (by kernel_rfl)
    have e31 : tm.getD 31 undef = .bool (decide (quota < 1)) := hk 31 (by kernel_rfl)
    have e32 : tm.getD 32 undef = .bool (decide (quota < 1)) := hk 32 (by kernel_rfl)
    have e33 : tm.getD 33 undef = .int .i64 quota := hk 33 (by kernel_rfl)
    have e34 : tm.getD 34 undef = .bool (decide (1099511627776 < quota)) := hk 34 (by kernel_rfl)
    have e35 : tm.getD 35 undef = .bool (decide (quota < 1) || decide (1099511627776 < quota)) := hk 35 (by kernel_rfl)
    have e36 : tm.getD 36 undef = .bool (decide (quota < 1) || decide (1099511627776 < quota)) := hk 36 (by kernel_rfl)
    have e37 : tm.getD 37 undef = .agg #[.int .i64 d, .slice p xs.length cc] := hk 37 (by kernel_rfl)
    have e38 : tm.getD 38 undef = .bool true := hk 38 (by kernel_rfl)
    have e39 : tm.getD 39 undef = .bool false := hk 39 (by kernel_rfl)
    have e40 : tm.getD 40 undef = .bool (decide (quota < 1) || decide (1099511627776 < quota)) := hk 40 (by kernel_rfl)
    have e41 : tm.getD 41 undef = .bool (decide (quota < 1) || decide (1099511627776 < quota)) := hk 41 (by kernel_rfl)
    have e42 : tm.getD 42 undef = .int .i64 kind := hk 42 (by kernel_rfl)
    have e43 : tm.getD 43 undef = .bool true := hk 43 (by kernel_rfl)
    have e44 : tm.getD 44 undef = .bool true := hk 44 (by kernel_rfl)
    have e45 : tm.getD 45 undef = .int .i64 kind := hk 45 (by kernel_rfl)
    have e46 : tm.getD 46 undef = .bool true := hk 46 (by kernel_rfl)
    have e47 : tm.getD 47 undef = .bool true := hk 47 (by kernel_rfl)
    have e48 : tm.getD 48 undef = .bool true := hk 48 (by kernel_rfl)
    have e49 : tm.getD 49 undef = .agg #[.int .i64 d, .slice p xs.length cc] := hk 49 (by kernel_rfl)
    have e50 : tm.getD 50 undef = .bool true := hk 50 (by kernel_rfl)
    have e51 : tm.getD 51 undef = .bool false := hk 51 (by kernel_rfl)
    have e52 : tm.getD 52 undef = .bool false := hk 52 (by kernel_rfl)
    have e53 : tm.getD 53 undef = .bool (decide (quota < 1) || decide (1099511627776 < quota)) := hk 53 (by kernel_rfl)
    have e54 : tm.getD 54 undef = .int .i64 id := hk 54 (by kernel_rfl)
    have e55 : tm.getD 55 undef = .bool true := hk 55 (by kernel_rfl)
    have e56 : tm.getD 56 undef = .bool false := hk 56 (by kernel_rfl)
    have e57 : tm.getD 57 undef = .bool false := hk 57 (by kernel_rfl)
    have e58 : tm.getD 58 undef = .pointer (some ⟨rb, 0, none⟩) := hk 58 (by kernel_rfl)
    have e59 : tm.getD 59 undef = .int .i64 id := hk 59 (by kernel_rfl)
    have e60 : tm.getD 60 undef = .int .i64 (-1) := hk 60 (by kernel_rfl)
    have e61 : tm.getD 61 undef = .bool false := hk 61 (by kernel_rfl)
    have e62 : tm.getD 62 undef = .bool false := hk 62 (by kernel_rfl)
    have e63 : tm.getD 63 undef = .pointer (some ⟨rb, 0, none⟩) := hk 63 (by kernel_rfl)
    have e64 : tm.getD 64 undef = .pointer (some ⟨rb, 0, none⟩) := hk 64 (by kernel_rfl)
    have e65 : tm.getD 65 undef = .pointer (some ⟨rb, 1, none⟩) := hk 65 (by kernel_rfl)
    have e66 : tm.getD 66 undef = .slice (some ⟨g, 0, none⟩) L.length cap := hk 66 (by kernel_rfl)
    have e67 : tm.getD 67 undef = .int .i64 L.length := hk 67 (by kernel_rfl)
    have e68 : tm.getD 68 undef = .bool false := hk 68 (by kernel_rfl)
    have e69 : tm.getD 69 undef = .int .i64 quota := hk 69 (by kernel_rfl)
    have e70 : tm.getD 70 undef = .pointer (some ⟨rb, 0, none⟩) := hk 70 (by kernel_rfl)
    have e71 : tm.getD 71 undef = .int .i64 ki := hk 71 (by kernel_rfl)
    have e72 : tm.getD 72 undef = .int .i64 (o.quota - o.used) := hk 72 (by kernel_rfl)
    have e73 : tm.getD 73 undef = .bool (decide (o.quota - o.used < quota)) := hk 73 (by kernel_rfl)
    have e88 : tm.getD 88 undef = undef := hk 88 (by kernel_rfl)
    have e89 : tm.getD 89 undef = undef := hk 89 (by kernel_rfl)
    have e90 : tm.getD 90 undef = undef := hk 90 (by kernel_rfl)
    have e91 : tm.getD 91 undef = undef := hk 91 (by kernel_rfl)
    have g74 : (tm.getD 74 undef) = .pointer (some ⟨rb, 0, none⟩) := hG 0 74 (by decide) rfl
    have g75 : (tm.getD 75 undef) = .pointer (some ⟨rb, 0, none⟩) := hG 1 75 (by decide) rfl
    have g76 : (tm.getD 76 undef) = .pointer (some ⟨rb, 0, none⟩) := hG 2 76 (by decide) rfl
    have g77 : (tm.getD 77 undef) = .pointer (some ⟨rb, 1, none⟩) := hG 3 77 (by decide) rfl
    have g78 : (tm.getD 78 undef) = .slice (some ⟨g, 0, none⟩) L.length cap := hG 4 78 (by decide) rfl
    have g79 : (tm.getD 79 undef) = .int .i64 id := hG 5 79 (by decide) rfl
    have g80 : (tm.getD 80 undef) = .int .i64 kind := hG 6 80 (by decide) rfl
    have g81 : (tm.getD 81 undef) = .int .i64 quota := hG 7 81 (by decide) rfl
    have g82 : (tm.getD 82 undef) = .agg #[.int .i64 d, .slice p xs.length cc] := hG 8 82 (by decide) rfl
    have g83 : (tm.getD 83 undef) = .agg #[.int .i64 id, .int .i64 kind, .int .i64 quota, .int .i64 d, .slice p xs.length cc, .slice none 0 0] := hG 9 83 (by decide) rfl
    have g84 : (true = false → OneT w5 (nTh id kind quota d p cc xs) ((tm.getD 84 undef)) X) := hG 10 84 (by decide) rfl
    have g85 : AllT w5 g (L ++ [nTh id kind quota d p cc xs]) ((tm.getD 85 undef)) X := hG 11 85 (by decide) rfl
    have g86 : (tm.getD 86 undef) = .pointer (some ⟨rb, 0, none⟩) := hG 12 86 (by decide) rfl
    have g87 : (tm.getD 87 undef) = .pointer (some ⟨rb, 1, none⟩) := hG 13 87 (by decide) rfl
    have htm := arr_of tm ((.pointer (some ⟨rb, 0, none⟩) : Value) :: (.int .i64 i : Value) :: (.int .i64 id : Value) :: (.int .i64 kind : Value) :: (.int .i64 quota : Value) :: (.agg #[.int .i64 d, .slice p xs.length cc] : Value) :: (undef : Value) :: (undef : Value) :: (undef : Value) :: (undef : Value) :: (undef : Value) :: (.pointer (some ⟨w.heap.size, 0, none⟩) : Value) :: (.int .i64 0 : Value) :: (.int .i64 ki : Value) :: (.int .i64 0 : Value) :: (.tuple #[.int .i64 ki, .int .i64 0] : Value) :: (.pointer (some ⟨rb, 0, none⟩) : Value) :: (.int .i64 i : Value) :: (.tuple #[.int .i64 ki, .int .i64 0] : Value) :: (.int .i64 ki : Value) :: (.int .i64 0 : Value) :: (.int .i64 0 : Value) :: (.bool false : Value) :: (undef : Value) :: (.int .i64 kind : Value) :: (.bool (decide (kind < 1)) : Value) :: (.bool (decide (kind < 1)) : Value) :: (.int .i64 kind : Value) :: (.bool (decide (6 < kind)) : Value) :: (.bool (decide (kind < 1) || decide (6 < kind)) : Value) :: (.int .i64 quota : Value) :: (.bool (decide (quota < 1)) : Value) :: (.bool (decide (quota < 1)) : Value) :: (.int .i64 quota : Value) :: (.bool (decide (1099511627776 < quota)) : Value) :: (.bool (decide (quota < 1) || decide (1099511627776 < quota)) : Value) :: (.bool (decide (quota < 1) || decide (1099511627776 < quota)) : Value) :: (.agg #[.int .i64 d, .slice p xs.length cc] : Value) :: (.bool true : Value) :: (.bool false : Value) :: (.bool (decide (quota < 1) || decide (1099511627776 < quota)) : Value) :: (.bool (decide (quota < 1) || decide (1099511627776 < quota)) : Value) :: (.int .i64 kind : Value) :: (.bool true : Value) :: (.bool true : Value) :: (.int .i64 kind : Value) :: (.bool true : Value) :: (.bool true : Value) :: (.bool true : Value) :: (.agg #[.int .i64 d, .slice p xs.length cc] : Value) :: (.bool true : Value) :: (.bool false : Value) :: (.bool false : Value) :: (.bool (decide (quota < 1) || decide (1099511627776 < quota)) : Value) :: (.int .i64 id : Value) :: (.bool true : Value) :: (.bool false : Value) :: (.bool false : Value) :: (.pointer (some ⟨rb, 0, none⟩) : Value) :: (.int .i64 id : Value) :: (.int .i64 (-1) : Value) :: (.bool false : Value) :: (.bool false : Value) :: (.pointer (some ⟨rb, 0, none⟩) : Value) :: (.pointer (some ⟨rb, 0, none⟩) : Value) :: (.pointer (some ⟨rb, 1, none⟩) : Value) :: (.slice (some ⟨g, 0, none⟩) L.length cap : Value) :: (.int .i64 L.length : Value) :: (.bool false : Value) :: (.int .i64 quota : Value) :: (.pointer (some ⟨rb, 0, none⟩) : Value) :: (.int .i64 ki : Value) :: (.int .i64 (o.quota - o.used) : Value) :: (.bool (decide (o.quota - o.used < quota)) : Value) :: (tm.getD 74 undef : Value) :: (tm.getD 75 undef : Value) :: (tm.getD 76 undef : Value) :: (tm.getD 77 undef : Value) :: (tm.getD 78 undef : Value) :: (tm.getD 79 undef : Value) :: (tm.getD 80 undef : Value) :: (tm.getD 81 undef : Value) :: (tm.getD 82 undef : Value) :: (tm.getD 83 undef : Value) :: (tm.getD 84 undef : Value) :: (tm.getD 85 undef : Value) :: (tm.getD 86 undef : Value) :: (tm.getD 87 undef : Value) :: (undef : Value) :: (undef : Value) :: (undef : Value) :: (undef : Value) :: []) hs (by show (tm.getD 0 undef :: tm.getD 1 undef :: tm.getD 2 undef :: tm.getD 3 undef :: tm.getD 4 undef :: tm.getD 5 undef :: tm.getD 6 undef :: tm.getD 7 undef :: tm.getD 8 undef :: tm.getD 9 undef :: tm.getD 10 undef :: tm.getD 11 undef :: tm.getD 12 undef :: tm.getD 13 undef :: tm.getD 14 undef :: tm.getD 15 undef :: tm.getD 16 undef :: tm.getD 17 undef :: tm.getD 18 undef :: tm.getD 19 undef :: tm.getD 20 undef :: tm.getD 21 undef :: tm.getD 22 undef :: tm.getD 23 undef :: tm.getD 24 undef :: tm.getD 25 undef :: tm.getD 26 undef :: tm.getD 27 undef :: tm.getD 28 undef :: tm.getD 29 undef :: tm.getD 30 undef :: tm.getD 31 undef :: tm.getD 32 undef :: tm.getD 33 undef :: tm.getD 34 undef :: tm.getD 35 undef :: tm.getD 36 undef :: tm.getD 37 undef :: tm.getD 38 undef :: tm.getD 39 undef :: tm.getD 40 undef :: tm.getD 41 undef :: tm.getD 42 undef :: tm.getD 43 undef :: tm.getD 44 undef :: tm.getD 45 undef :: tm.getD 46 undef :: tm.getD 47 undef :: tm.getD 48 undef :: tm.getD 49 undef :: tm.getD 50 undef :: tm.getD 51 undef :: tm.getD 52 undef :: tm.getD 53 undef :: tm.getD 54 undef :: tm.getD 55 undef :: tm.getD 56 undef :: tm.getD 57 undef :: tm.getD 58 undef :: tm.getD 59 undef :: tm.getD 60 undef :: tm.getD 61 undef :: tm.getD 62 undef :: tm.getD 63 undef :: tm.getD 64 undef :: tm.getD 65 undef :: tm.getD 66 undef :: tm.getD 67 undef :: tm.getD 68 undef :: tm.getD 69 undef :: tm.getD 70 undef :: tm.getD 71 undef :: tm.getD 72 undef :: tm.getD 73 undef :: tm.getD 74 undef :: tm.getD 75 undef :: tm.getD 76 undef :: tm.getD 77 undef :: tm.getD 78 undef :: tm.getD 79 undef :: tm.getD 80 undef :: tm.getD 81 undef :: tm.getD 82 undef :: tm.getD 83 undef :: tm.getD 84 undef :: tm.getD 85 undef :: tm.getD 86 undef :: tm.getD 87 undef :: tm.getD 88 undef :: tm.getD 89 undef :: tm.getD 90 undef :: tm.getD 91 undef :: []) = _; rw [e0, e1, e2, e3, e4, e5, e6, e7, e8, e9, e10, e11, e12, e13, e14, e15, e16, e17, e18, e19, e20, e21, e22, e23, e24, e25, e26, e27, e28, e29, e30, e31, e32, e33, e34, e35, e36, e37, e38, e39, e40, e41, e42, e43, e44, e45, e46, e47, e48, e49, e50, e51, e52, e53, e54, e55, e56, e57, e58, e59, e60, e61, e62, e63, e64, e65, e66, e67, e68, e69, e70, e71, e72, e73, e88, e89, e90, e91]; try rfl)
    clear hs hk hG e0 e1 e2 e3 e4 e5 e6 e7 e8 e9 e10 e11 e12 e13 e14 e15 e16 e17 e18 e19 e20 e21 e22 e23 e24 e25 e26 e27 e28 e29 e30 e31 e32 e33 e34 e35 e36 e37 e38 e39 e40 e41 e42 e43 e44 e45 e46 e47 e48 e49 e50 e51 e52 e53 e54 e55 e56 e57 e58 e59 e60 e61 e62 e63 e64 e65 e66 e67 e68 e69 e70 e71 e72 e73 e88 e89 e90 e91
    generalize tm.getD 74 undef = t74 at htm g74
    generalize tm.getD 75 undef = t75 at htm g75
    generalize tm.getD 76 undef = t76 at htm g76
    generalize tm.getD 77 undef = t77 at htm g77
    generalize tm.getD 78 undef = t78 at htm g78
    generalize tm.getD 79 undef = t79 at htm g79
    generalize tm.getD 80 undef = t80 at htm g80
    generalize tm.getD 81 undef = t81 at htm g81
    generalize tm.getD 82 undef = t82 at htm g82
    generalize tm.getD 83 undef = t83 at htm g83
    generalize tm.getD 84 undef = t84 at htm g84
    generalize tm.getD 85 undef = t85 at htm g85
    generalize tm.getD 86 undef = t86 at htm g86
    generalize tm.getD 87 undef = t87 at htm g87
    subst htm
    subst g74
    subst g75
    subst g76
    subst g77
    subst g78
    subst g79
    subst g80
    subst g81
    subst g82
    subst g83
    subst g86
    subst g87
    simp only [List.drop_succ_cons, List.drop_zero]
    obtain ⟨g', c', rfl, hg', hA⟩ := g85
    have hlen : (L ++ [nTh id kind quota d p cc xs]).length = L.length + 1 := by simp
    rw [hlen] at hA
    obtain ⟨ei, mi, hS, hno⟩ := HKi.out
    obtain ⟨cs', r1, r2⟩ := H5.out.grow (t := nTh id kind quota d p cc xs) hB hA hg' (HR.out.nopos hno) (by omega) ((HC.out).below HB5.out) HO.out hm rfl
    have r3 := r1
    have hki' : ki < (L ++ [nTh id kind quota d p cc xs]).length := by simp; omega
    have hgk : (L ++ [nTh id kind quota d p cc xs])[ki] = L[ki] := List.getElem_append_left hki
    have y1 : X.cell? ⟨rb, 1, none⟩ = some (.slice (some ⟨g, 0, none⟩) L.length cap) := (cW _ X hB).1
    have y2 : X.frozen? ⟨rb, 1, none⟩ = false := by simp [World.frozen?, (hB.2.2.2.2 rb hrl.1 (.inl hne)).trans H5.out.tab]
    have HPT := Lib.hid (rput_any r1 ki hki' id (by rw [hgk]; exact Hel.out))
    have HR2 := Lib.hid r2
    have HR1 := Lib.hid r1
    clear r1 r2 r3 hA g84
    rw [hlen]
    go_wp2_with (go_at_call 53; with_reducible refine Calls.mono HPT.out ?_; rintro e w7 ⟨⟨v7, rfl⟩, p7, c7, cs7, r7, f7⟩; have HR7 := Lib.hid r7; have HF7 := Lib.hid f7; clear r7 f7)
    go_ret
    refine ⟨rfl, g', c', cs7, _, HR7.out, ?_, ((Fm.stay HB0.out).tr (Fm.stay HB5.out)).tr (HR2.out.tr HF7.out)⟩
    unfold makeT
    rw [if_pos HM.out, hS]
    have hidi : id ≠ i := fun e => by rw [e, hS] at hno; cases hno
    have rel1 : RelD (updS S id (newOb id kind quota d xs)) (L ++ [nTh id kind quota d p cc xs]) [] := HR.out.add (t := nTh id kind quota d p cc xs) (fun k hk => updS_ne _ _ hk) (updS_at _ _ _) ⟨rfl, rfl, rfl, rfl, rfl⟩ (HR.out.nopos hno) (by simp)
    have rel2 := rel1.ent HR1.out.nd (i := i) (x := id) (o := o) (k := ki) hki' (by rw [hgk]; exact ei) (by rw [hgk]; exact mi) (o.used + quota) p7 c7
    have hsw : updS (updS S id (newOb id kind quota d xs)) i { o with used := o.used + quota, ents := o.ents ++ [id] } = updS (updS S i { o with used := o.used + quota, ents := o.ents ++ [id] }) id (newOb id kind quota d xs) := by
      funext k
      unfold updS
      by_cases e1 : k = i
      · by_cases e2 : k = id
        · exact absurd (e2.symm.trans e1) hidi
        · rw [if_pos e1, if_neg e2, if_pos e1]
      · by_cases e2 : k = id
        · rw [if_neg e1, if_pos e2, if_pos e2]
        · rw [if_neg e1, if_neg e2, if_neg e2, if_neg e1]
    rw [hsw] at rel2
    exact rel2
end
end Go.Proofs.Ytebcnlhgkpaghaa
