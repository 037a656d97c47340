/- What Make of the reference does where nothing is against it. -/
import Derived.Test.YtmgfakfiiaeofaaGreatSq
import Derived.Test.YtmgfakfiiaeofaaGreatHoRefM0
namespace Go.Proofs.YtmgfakfiiaeofaaGreat.Ho
open Go.RowKit Go.Sort
section
variable {w : World} {rb g cap : Nat} {cs : Array Value} {root : Int} {L : List Th} {F : Nat -> Prop} {S : Abs} {K : List Int} {rt : Int}
set_option maxRecDepth 100000 in
set_option maxHeartbeats 8000000 in
theorem rMake_free (h : RS w rb g cap cs root L F) (hr : RelD S L []) (hi : Inv rt S K) (i id kind quota d : Int) (p : Option Addr) (cc : Nat) (xs : List (Int × Int)) (hm : xs.length < 1000000) (hc : CatsAt w p xs) (ho : Off (fun b => b = rb ∨ b = g ∨ F b) p xs.length) (hkd : kind ≠ 4 /\ kind ≠ 5) (hz : makeS S L.length i id kind quota d xs = 0) :
 Calls Tryz.prog 20 #[.pointer (some ⟨rb, 0, none⟩), .int .i64 i, .int .i64 id, .int .i64 kind, .int .i64 quota, .agg #[.int .i64 d, .slice p xs.length cc]] w fun e w' => e = .returned (.int .i64 0) /\ RStep w w' rb g root F (makeT S L.length i id kind quota d xs) := by
 obtain ⟨W0, hW0⟩ : ∃ W0, w.alloc (.cells #[.int .i64 d, .slice p xs.length cc] 46) = W0 := ⟨_, rfl⟩
 have hb0 : Below w.heap.size w W0 := by rw [<- hW0]; exact (Below.refl _ _).alloc (Nat.le_refl _) _
 have a0 : W0.cell? ⟨w.heap.size, 0, none⟩ = some (.int .i64 d) := by rw [<- hW0]; simp [go_sem]
 have a1 : W0.cell? ⟨w.heap.size, 1, none⟩ = some (.slice p xs.length cc) := by rw [<- hW0]; simp [go_sem]
 have hz0 : w.heap.size < W0.heap.size := by rw [<- hW0]; simp
 have h' := h.below hb0
 have HH := Lib.hid h'
 have HR := Lib.hid hr
 have HB0 := Lib.hid hb0
 have hLn := h.lim.1
 obtain ⟨h0, h1⟩ := h'.hd
 have HCell : Hid (∀ W, Below W0.heap.size W0 W -> W.cell? ⟨w.heap.size, 0, none⟩ = some (.int .i64 d) /\ W.cell? ⟨w.heap.size, 1, none⟩ = some (.slice p xs.length cc) /\ W.cell? ⟨rb, 1, none⟩ = some (.slice (some ⟨g, 0, none⟩) L.length cap)) := fun W hb => ⟨(hb.cell (p := ⟨w.heap.size, 0, none⟩) hz0).trans a0, (hb.cell (p := ⟨w.heap.size, 1, none⟩) hz0).trans a1, (h'.below hb).hd.2⟩
 have HP : Hid (∀ W, Below W0.heap.size W0 W -> Calls Tryz.prog 43 #[.agg #[.int .i64 d, .slice p xs.length cc]] W fun e w' => e = .returned (.bool (plainS d xs)) /\ Below W.heap.size W w') := fun W hb => refPlain_any d p cc xs W (by unfold maxLen; omega) ((hc.below hb0).below hb)
 have HFr : Hid (∀ W, Below W0.heap.size W0 W -> Calls Tryz.prog 41 #[.agg #[.int .i64 d, .slice p xs.length cc]] W fun e w' => e = .returned (.bool (freeS d xs)) /\ Below W.heap.size W w') := fun W hb => refFree_any d p cc xs W (by unfold maxLen; omega) ((hc.below hb0).below hb)
 have HCt := Lib.hid (Cat_any id)
 have HAt : Hid (∀ W, Below W0.heap.size W0 W -> Calls Tryz.prog 44 #[.pointer (some ⟨rb, 0, none⟩), .int .i64 id] W fun e w' => e = .returned (.int .i64 (atL L id 0)) /\ w' = W) := fun W hb => rAt_any (h'.below hb) id
 have HM := Lib.hid hz
 have hcz : contS S i = 0 := by
  by_cases e : contS S i = 0
  · exact e
  · unfold makeS at hz; rw [if_pos e] at hz; exact absurd hz e
 obtain ⟨o, hS, hk1⟩ : ∃ o, S i = some o /\ o.kind = 1 := by
  unfold contS at hcz
  cases hS : S i with
  | none => rw [hS] at hcz; cases hcz
  | some o =>
   rw [hS] at hcz
   by_cases e : o.kind = 1
   · exact ⟨o, rfl, e⟩
   · simp [e] at hcz
 unfold makeS at hz
 rw [if_neg (by rw [hcz]; simp), hS] at hz
 have k1 : ¬ (kind < 1 ∨ 6 < kind) := fun e => by rw [if_pos e] at hz; cases hz
 rw [if_neg k1] at hz
 have k2 : ¬ (quota < 1 ∨ 1099511627776 < quota ∨ fitsS d (low kind) xs = false) := fun e => by rw [if_pos e] at hz; cases hz
 rw [if_neg k2] at hz
 have k3 : ¬ (isCt id = false ∨ (S id).isSome = true) := fun e => by rw [if_pos e] at hz; cases hz
 rw [if_neg k3] at hz
 have k4 : ¬ 4096 <= L.length := fun e => by rw [if_pos e] at hz; cases hz
 rw [if_neg k4] at hz
 have k5 : ¬ o.quota - o.used < quota := fun e => by simp only [if_pos e] at hz; cases hz
 have hfit : fitsS d (low kind) xs = true := by cases hx : fitsS d (low kind) xs with | true => rfl | false => exact absurd (.inr (.inr hx)) k2
 have hct : isCt id = true := by cases hx : isCt id with | true => rfl | false => exact absurd (.inl hx) k3
 have hno : S id = none := by cases hx : S id with | none => rfl | some q => exact absurd (.inr (by rw [hx]; rfl)) k3
 have q1 : ¬ quota < 1 := by omega
 have q2 : ¬ 1099511627776 < quota := by omega
 have kk1 : ¬ kind < 1 := by omega
 have kk2 : ¬ 6 < kind := by omega
 have c3i : ¬ (4096 : Int) <= (L.length : Int) := by omega
 clear hz k1 k2 k3
 obtain ⟨ki, hki, ei, mi⟩ := hr.pos hS
 have HB := Lib.hid (rbox_some h' i ki hki ei)
 rw [<- mi.1, if_pos hk1] at HB
 rw [hct] at HCt
 rw [atL_no 0 (hr.nopos hno)] at HAt
 have HRm : Hid (∀ W, Below W0.heap.size W0 W -> Calls Tryz.prog 45 #[.pointer (some ⟨rb, 0, none⟩), .int .i64 ki] W fun e w' => e = .returned (.int .i64 (o.quota - o.used)) /\ Below W.heap.size W w') := fun W hb => rRoom_any (h'.below hb) hr hi ki hki (by rw [ei]; exact hS)
 have HO : Hid (Off (fun b => b = rb ∨ b = g ∨ F b) p xs.length) := ho
 have HC := Lib.hid (hc.below hb0)
 have Hel : Hid (L[ki].ents.length < 900000) := by have h1 := hi.elen hS; have h2 := hi.len; simp only [Hid]; rw [<- mi.2.2.2.2]; omega
 have hgl0 : g < w.heap.size := h.rl.2
 have HKi := Lib.hid (And.intro ei (And.intro mi (And.intro hS hno)))
 have hkii : (ki : Int) < (L.length : Int) := by omega
 have hfr : freeS d xs = true := by rw [show low kind = 1 from by unfold low; rw [if_neg (by omega)]] at hfit; rw [<- fits_free]; exact hfit
 have hpl : plainS d xs = true := by unfold freeS at hfr; simp at hfr; exact hfr.1
 rw [hpl] at HP
 rw [hfr] at HFr
 obtain ⟨hk4, hk5⟩ := hkd
 have b4 : (kind != 4) = true := by simpa using hk4
 have b5 : (kind != 5) = true := by simpa using hk5
 clear h hr hi h' hc hb0 ei mi hS hno ho
 go_enter Tryz.func20, Tryz.ntmps20
 go_upto_region 14 with (first | (go_at_call 42; with_reducible refine Calls.mono HB.out ?_; rintro e w' ⟨rfl, hw'⟩; rw [hw']; clear hw' w') | (go_at_call 43; with_reducible refine Calls.mono (HP.out _ (Below.refl _ _)) ?_; rintro e w2 ⟨rfl, hb2⟩; have HB2 := Lib.hid hb2; obtain ⟨y0, y1, y2⟩ := HCell.out _ hb2; clear hb2) | (go_at_call 41; with_reducible refine Calls.mono (HFr.out _ HB2.out) ?_; rintro e w3 ⟨rfl, hb3⟩; have HBx := Lib.hid (HB2.out.trans (hb3.mono HB2.out.size)); clear hb3; obtain ⟨z0, z1, z2⟩ := HCell.out _ HBx.out) | (go_at_call 40; with_reducible refine Calls.mono (HCt.out _) ?_; rintro e w' ⟨rfl, hw'⟩; rw [hw']; clear hw' w') | (go_at_call 44; with_reducible refine Calls.mono (HAt.out _ HBx.out) ?_; rintro e w' ⟨rfl, hw'⟩; rw [hw']; clear hw' w') | (go_at_call 45; with_reducible refine Calls.mono (HRm.out _ HBx.out) ?_; rintro e w5 ⟨rfl, hb5⟩; have HB5 := Lib.hid (HBx.out.trans (hb5.mono HBx.out.size)); clear hb5))
 rw [show decide ((4096 : Int) <= (L.length : Int)) = false from decide_eq_false (by omega)]
 obtain ⟨v0, v1, v2⟩ := HCell.out _ HB5.out
 have h5 := HH.out.below HB5.out
 have H5 := Lib.hid h5
 have hw0 : w.heap.size < w5.heap.size := Nat.lt_of_lt_of_le hz0 HB5.out.size
 have hrl := h5.rl
 have hne : rb ≠ g := h5.ne
 have hwg : w.heap.size ≠ g := by omega
 have cW : ∀ (b : Bool) X, RB w5 g b X -> X.cell? ⟨rb, 1, none⟩ = some (.slice (some ⟨g, 0, none⟩) L.length cap) /\ X.cell? ⟨w.heap.size, 0, none⟩ = some (.int .i64 d) /\ X.cell? ⟨w.heap.size, 1, none⟩ = some (.slice p xs.length cc) := fun b X hX =>
  ⟨(World.cell?_of_block (a := ⟨rb, 1, none⟩) (hX.2.2.2.2 rb hrl.1 (.inl hne))).trans v2, (World.cell?_of_block (a := ⟨w.heap.size, 0, none⟩) (hX.2.2.2.2 _ hw0 (.inl hwg))).trans v0, (World.cell?_of_block (a := ⟨w.heap.size, 1, none⟩) (hX.2.2.2.2 _ hw0 (.inl hwg))).trans v1⟩
 clear v0 v1 v2 h5
 refine wp_region_monoD 6 14 11 (RB w5 g) (fun bq kq uq Xq => match kq with | 74 => uq = .pointer (some ⟨rb, 0, none⟩) | 75 => uq = .pointer (some ⟨rb, 0, none⟩) | 76 => uq = .pointer (some ⟨rb, 0, none⟩) | 77 => uq = .pointer (some ⟨rb, 1, none⟩) | 78 => uq = .slice (some ⟨g, 0, none⟩) L.length cap | 79 => uq = .int .i64 id | 80 => uq = .int .i64 kind | 81 => uq = .int .i64 quota | 82 => uq = .agg #[.int .i64 d, .slice p xs.length cc] | 83 => uq = .agg #[.int .i64 id, .int .i64 kind, .int .i64 quota, .int .i64 d, .slice p xs.length cc, .slice none 0 0] | 84 => (bq = false -> OneT w5 (nTh id kind quota d p cc xs) (uq) Xq) | 85 => AllT w5 g (L ++ [nTh id kind quota d p cc xs]) (uq) Xq | 86 => uq = .pointer (some ⟨rb, 0, none⟩) | 87 => uq = .pointer (some ⟨rb, 1, none⟩) | _ => True) (by kernel_rfl) (by kernel_rfl) (by kernel_rfl) (by kernel_rfl) (by simp) (by kernel_rfl) (by decide) (fun _ _ _ h k => RB.below h k) (⟨rfl, rfl, rfl, Nat.le_refl _, fun _ _ _ => rfl⟩) ?_ ?_ ?_
 · intro bq kq v W W' h hb
   revert h
   try dsimp only
   split
   · intro h; exact h
   · intro h; exact h
   · intro h; exact h
   · intro h; exact h
   · intro h; exact h
   · intro h; exact h
   · intro h; exact h
   · intro h; exact h
   · intro h; exact h
   · intro h; exact h
   · intro h; exact fun eb => (fun h => OneT.below h hb) (h eb)
   · intro h; exact AllT.below h hb
   · intro h; exact h
   · intro h; exact h
   · intro h; trivial
 · intro a' X b hB hs hk i o d ho hd hbc hG
   match i, ho with
   | 0, ho =>
    cases ho
    obtain rfl : 74 = d := Option.some.inj hd
    have g0 : a'.eval (.tmp 0) = .pointer (some ⟨rb, 0, none⟩) := hk 0 (by kernel_rfl)
    generalize a'.eval = ev at g0 |-
    clear hG hk hbc
    obtain ⟨e1, e2, e3⟩ := cW _ X hB
    exact .inr ⟨rfl, .inl ⟨.pointer (some ⟨rb, 0, none⟩), X, by clear hs; go_simp, .inl ⟨by decide, Below.refl _ _, rfl⟩⟩⟩
   | 1, ho =>
    cases ho
    obtain rfl : 75 = d := Option.some.inj hd
    have g0 : a'.eval (.tmp 0) = .pointer (some ⟨rb, 0, none⟩) := hk 0 (by kernel_rfl)
    generalize a'.eval = ev at g0 |-
    clear hG hk hbc
    obtain ⟨e1, e2, e3⟩ := cW _ X hB
    exact .inr ⟨rfl, .inl ⟨.pointer (some ⟨rb, 0, none⟩), X, by clear hs; go_simp, .inl ⟨by decide, Below.refl _ _, rfl⟩⟩⟩
   | 2, ho =>
    cases ho
    obtain rfl : 76 = d := Option.some.inj hd
    have g75 : a'.eval (.tmp 75) = .pointer (some ⟨rb, 0, none⟩) := hG ⟨1, .data⟩ (by simp) rfl 75 rfl
    generalize a'.eval = ev at g75 |-
    clear hG hk hbc
    obtain ⟨e1, e2, e3⟩ := cW _ X hB
    exact .inr ⟨rfl, .inl ⟨.pointer (some ⟨rb, 0, none⟩), X, by clear hs; go_simp, .inl ⟨by decide, Below.refl _ _, rfl⟩⟩⟩
   | 3, ho =>
    cases ho
    obtain rfl : 77 = d := Option.some.inj hd
    have g76 : a'.eval (.tmp 76) = .pointer (some ⟨rb, 0, none⟩) := hG ⟨2, .data⟩ (by simp) rfl 76 rfl
    generalize a'.eval = ev at g76 |-
    clear hG hk hbc
    obtain ⟨e1, e2, e3⟩ := cW _ X hB
    exact .inr ⟨rfl, .inl ⟨.pointer (some ⟨rb, 1, none⟩), X, by clear hs; go_simp, .inl ⟨by decide, Below.refl _ _, rfl⟩⟩⟩
   | 4, ho =>
    cases ho
    obtain rfl : 78 = d := Option.some.inj hd
    obtain rfl : b = false := hbc (.inr (by kernel_rfl))
    have g77 : a'.eval (.tmp 77) = .pointer (some ⟨rb, 1, none⟩) := hG ⟨3, .data⟩ (by simp) rfl 77 rfl
    generalize a'.eval = ev at g77 |-
    clear hG hk hbc
    obtain ⟨e1, e2, e3⟩ := cW _ X hB
    exact .inr ⟨rfl, .inl ⟨.slice (some ⟨g, 0, none⟩) L.length cap, X, by clear hs; go_simp, .inl ⟨by decide, Below.refl _ _, rfl⟩⟩⟩
   | 5, ho =>
    cases ho
    obtain rfl : 79 = d := Option.some.inj hd
    have g2 : a'.eval (.tmp 2) = .int .i64 id := hk 2 (by kernel_rfl)
    generalize a'.eval = ev at g2 |-
    clear hG hk hbc
    obtain ⟨e1, e2, e3⟩ := cW _ X hB
    exact .inr ⟨rfl, .inl ⟨.int .i64 id, X, by clear hs; go_simp, .inl ⟨by decide, Below.refl _ _, rfl⟩⟩⟩
   | 6, ho =>
    cases ho
    obtain rfl : 80 = d := Option.some.inj hd
    have g3 : a'.eval (.tmp 3) = .int .i64 kind := hk 3 (by kernel_rfl)
    generalize a'.eval = ev at g3 |-
    clear hG hk hbc
    obtain ⟨e1, e2, e3⟩ := cW _ X hB
    exact .inr ⟨rfl, .inl ⟨.int .i64 kind, X, by clear hs; go_simp, .inl ⟨by decide, Below.refl _ _, rfl⟩⟩⟩
   | 7, ho =>
    cases ho
    obtain rfl : 81 = d := Option.some.inj hd
    have g4 : a'.eval (.tmp 4) = .int .i64 quota := hk 4 (by kernel_rfl)
    generalize a'.eval = ev at g4 |-
    clear hG hk hbc
    obtain ⟨e1, e2, e3⟩ := cW _ X hB
    exact .inr ⟨rfl, .inl ⟨.int .i64 quota, X, by clear hs; go_simp, .inl ⟨by decide, Below.refl _ _, rfl⟩⟩⟩
   | 8, ho =>
    cases ho
    obtain rfl : 82 = d := Option.some.inj hd
    obtain rfl : b = false := hbc (.inr (by kernel_rfl))
    have g11 : a'.eval (.tmp 11) = .pointer (some ⟨w.heap.size, 0, none⟩) := hk 11 (by kernel_rfl)
    generalize a'.eval = ev at g11 |-
    clear hG hk hbc
    obtain ⟨e1, e2, e3⟩ := cW _ X hB
    exact .inr ⟨rfl, .inl ⟨.agg #[.int .i64 d, .slice p xs.length cc], X, by clear hs; go_simp, .inl ⟨by decide, Below.refl _ _, rfl⟩⟩⟩
   | 9, ho =>
    cases ho
    obtain rfl : 83 = d := Option.some.inj hd
    obtain rfl : b = false := hbc (.inr (by kernel_rfl))
    have g79 : a'.eval (.tmp 79) = .int .i64 id := hG ⟨5, .data⟩ (by simp) rfl 79 rfl
    have g80 : a'.eval (.tmp 80) = .int .i64 kind := hG ⟨6, .data⟩ (by simp) rfl 80 rfl
    have g81 : a'.eval (.tmp 81) = .int .i64 quota := hG ⟨7, .data⟩ (by simp) rfl 81 rfl
    have g82 : a'.eval (.tmp 82) = .agg #[.int .i64 d, .slice p xs.length cc] := hG ⟨8, .data⟩ (by simp) rfl 82 rfl
    generalize a'.eval = ev at g79 g80 g81 g82 |-
    clear hG hk hbc
    obtain ⟨e1, e2, e3⟩ := cW _ X hB
    exact .inr ⟨rfl, .inl ⟨.agg #[.int .i64 id, .int .i64 kind, .int .i64 quota, .int .i64 d, .slice p xs.length cc, .slice none 0 0], X, by clear hs; go_simp, .inl ⟨by decide, Below.refl _ _, rfl⟩⟩⟩
   | 10, ho =>
    cases ho
    obtain rfl : 84 = d := Option.some.inj hd
    obtain rfl : b = false := hbc (.inr (by kernel_rfl))
    have g83 : a'.eval (.tmp 83) = .agg #[.int .i64 id, .int .i64 kind, .int .i64 quota, .int .i64 d, .slice p xs.length cc, .slice none 0 0] := hG ⟨9, .data⟩ (by simp) rfl 83 rfl
    generalize a'.eval = ev at g83 |-
    clear hG hk hbc
    have hr : (execOp ev { dst := some 84, op := .buildSlice 131 1 #[(0, .tmp 83)], type := 131, pos := "ref.go:112", after := #[⟨9, .data⟩], guard := none }).run Tryz.prog X = .ok (.value (.slice (some ⟨X.heap.size, 0, none⟩) 1 1)) (X.alloc (.cells #[.int .i64 id, .int .i64 kind, .int .i64 quota, .int .i64 d, .slice p xs.length cc, .slice none 0 0] 130)) := by clear hs; go_simp
    exact .inr ⟨rfl, .inl ⟨_, _, hr, .inl ⟨by decide, (Below.refl _ _).alloc (Nat.le_refl _) _, fun _ => ⟨X.heap.size, rfl, hB.2.2.2.1, heap_new _ _⟩⟩⟩⟩
   | 11, ho =>
    cases ho
    obtain rfl : 85 = d := Option.some.inj hd
    obtain rfl : b = false := hbc (.inl rfl)
    have g78 : a'.eval (.tmp 78) = .slice (some ⟨g, 0, none⟩) L.length cap := hG ⟨4, .data⟩ (by simp) rfl 78 rfl
    have g84 : (false = false -> OneT w5 (nTh id kind quota d p cc xs) (a'.eval (.tmp 84)) X) := hG ⟨10, .data⟩ (by simp) rfl 84 rfl
    generalize a'.eval = ev at g78 g84 |-
    clear hG hk hbc
    obtain ⟨q, hq, hsq⟩ := (g84 rfl).src
    have hown : X.ownsRow 0 130 6 (.slice (some ⟨g, 0, none⟩) L.length cap) L.length (thsC L) := row_same (H5.out.own 0 (Nat.zero_le _)) (fun k hk => by simp [Value.ownBlock] at hk; subst hk; exact hB.2.2.2.2 _ hrl.2 (.inr rfl))
    obtain ⟨v', X', hr, ho, hgw, hat⟩ := appT_at (c := 1) hown hsq (by simp; omega) 131
    have hR : RB w5 g true X' := ⟨hgw.os.trans hB.1, hgw.tape.trans hB.2.1, hgw.output.trans hB.2.2.1, Nat.le_trans hB.2.2.2.1 hgw.size, fun k hk hn => (hgw.block k (Nat.lt_of_lt_of_le hk hB.2.2.2.1) (fun e => by simp [Value.ownBlock] at e; rcases hn with h | h; exact h e; cases h)).trans (hB.2.2.2.2 k hk (.inr rfl))⟩
    have hA : AllT w5 g (L ++ [nTh id kind quota d p cc xs]) v' X' := by
     rcases ho.2 with ⟨_, h0⟩ | ⟨g', c', cur, rfl, h2⟩
     · simp at h0
     · refine ⟨g', c', rfl, ?_, ho⟩
       rcases hat with e | e
       · simp [Value.ownBlock] at e; exact .inl e
       · simp [Value.ownBlock] at e; have := hB.2.2.2.1; exact .inr (by omega)
    exact .inr ⟨rfl, .inl ⟨v', X', exec_app rfl g78 hq hr, .inr ⟨rfl, hR, hA, fun kq u hne h => by revert h; (try dsimp only); split <;> first | (intro h; exact h) | (intro h e; cases e) | exact absurd rfl hne⟩⟩⟩
   | 12, ho =>
    cases ho
    obtain rfl : 86 = d := Option.some.inj hd
    have g74 : a'.eval (.tmp 74) = .pointer (some ⟨rb, 0, none⟩) := hG ⟨0, .data⟩ (by simp) rfl 74 rfl
    generalize a'.eval = ev at g74 |-
    clear hG hk hbc
    obtain ⟨e1, e2, e3⟩ := cW _ X hB
    exact .inr ⟨rfl, .inl ⟨.pointer (some ⟨rb, 0, none⟩), X, by clear hs; go_simp, .inl ⟨by decide, Below.refl _ _, rfl⟩⟩⟩
   | 13, ho =>
    cases ho
    obtain rfl : 87 = d := Option.some.inj hd
    have g86 : a'.eval (.tmp 86) = .pointer (some ⟨rb, 0, none⟩) := hG ⟨12, .data⟩ (by simp) rfl 86 rfl
    generalize a'.eval = ev at g86 |-
    clear hG hk hbc
    obtain ⟨e1, e2, e3⟩ := cW _ X hB
    exact .inr ⟨rfl, .inl ⟨.pointer (some ⟨rb, 1, none⟩), X, by clear hs; go_simp, .inl ⟨by decide, Below.refl _ _, rfl⟩⟩⟩
   | j + 14, ho => simp at ho
 · intro a' X hB hs hdf hk hG
   obtain ⟨tm, df⟩ := a'
   obtain rfl : df = [] := hdf
   have g74 : (tm.getD 74 undef) = .pointer (some ⟨rb, 0, none⟩) := hG 0 74 (by decide) rfl
   have g75 : (tm.getD 75 undef) = .pointer (some ⟨rb, 0, none⟩) := hG 1 75 (by decide) rfl
   have g76 : (tm.getD 76 undef) = .pointer (some ⟨rb, 0, none⟩) := hG 2 76 (by decide) rfl
   have g77 : (tm.getD 77 undef) = .pointer (some ⟨rb, 1, none⟩) := hG 3 77 (by decide) rfl
   have g78 : (tm.getD 78 undef) = .slice (some ⟨g, 0, none⟩) L.length cap := hG 4 78 (by decide) rfl
   have g79 : (tm.getD 79 undef) = .int .i64 id := hG 5 79 (by decide) rfl
   have g80 : (tm.getD 80 undef) = .int .i64 kind := hG 6 80 (by decide) rfl
   have g81 : (tm.getD 81 undef) = .int .i64 quota := hG 7 81 (by decide) rfl
   have g82 : (tm.getD 82 undef) = .agg #[.int .i64 d, .slice p xs.length cc] := hG 8 82 (by decide) rfl
   have g83 : (tm.getD 83 undef) = .agg #[.int .i64 id, .int .i64 kind, .int .i64 quota, .int .i64 d, .slice p xs.length cc, .slice none 0 0] := hG 9 83 (by decide) rfl
   have g84 : (true = false -> OneT w5 (nTh id kind quota d p cc xs) ((tm.getD 84 undef)) X) := hG 10 84 (by decide) rfl
   have g85 : AllT w5 g (L ++ [nTh id kind quota d p cc xs]) ((tm.getD 85 undef)) X := hG 11 85 (by decide) rfl
   have g86 : (tm.getD 86 undef) = .pointer (some ⟨rb, 0, none⟩) := hG 12 86 (by decide) rfl
   have g87 : (tm.getD 87 undef) = .pointer (some ⟨rb, 1, none⟩) := hG 13 87 (by decide) rfl
   have htm := arr3 [.pointer (some ⟨rb, 0, none⟩), .int .i64 i, .int .i64 id, .int .i64 kind, .int .i64 quota, .agg #[.int .i64 d, .slice p xs.length cc], undef, undef, undef, undef, undef, .pointer (some ⟨w.heap.size, 0, none⟩), .int .i64 0, .int .i64 ki, .int .i64 0, .tuple #[.int .i64 ki, .int .i64 0], .pointer (some ⟨rb, 0, none⟩), .int .i64 i, .tuple #[.int .i64 ki, .int .i64 0], .int .i64 ki, .int .i64 0, .int .i64 0, .bool false, undef, .int .i64 kind, .bool (decide (kind < 1)), .bool (decide (kind < 1)), .int .i64 kind, .bool (decide (6 < kind)), .bool (decide (kind < 1) || decide (6 < kind)), .int .i64 quota, .bool (decide (quota < 1)), .bool (decide (quota < 1)), .int .i64 quota, .bool (decide (1099511627776 < quota)), .bool (decide (quota < 1) || decide (1099511627776 < quota)), .bool (decide (quota < 1) || decide (1099511627776 < quota)), .agg #[.int .i64 d, .slice p xs.length cc], .bool true, .bool false, .bool (decide (quota < 1) || decide (1099511627776 < quota)), .bool (decide (quota < 1) || decide (1099511627776 < quota)), .int .i64 kind, .bool true, .bool true, .int .i64 kind, .bool true, .bool true, .bool true, .agg #[.int .i64 d, .slice p xs.length cc], .bool true, .bool false, .bool false, .bool (decide (quota < 1) || decide (1099511627776 < quota)), .int .i64 id, .bool true, .bool false, .bool false, .pointer (some ⟨rb, 0, none⟩), .int .i64 id, .int .i64 (-1), .bool false, .bool false, .pointer (some ⟨rb, 0, none⟩), .pointer (some ⟨rb, 0, none⟩), .pointer (some ⟨rb, 1, none⟩), .slice (some ⟨g, 0, none⟩) L.length cap, .int .i64 L.length, .bool false, .int .i64 quota, .pointer (some ⟨rb, 0, none⟩), .int .i64 ki, .int .i64 (o.quota - o.used), .bool (decide (o.quota - o.used < quota)), tm.getD 74 undef, tm.getD 75 undef, tm.getD 76 undef, tm.getD 77 undef, tm.getD 78 undef, tm.getD 79 undef, tm.getD 80 undef, tm.getD 81 undef, tm.getD 82 undef, tm.getD 83 undef, tm.getD 84 undef, tm.getD 85 undef, tm.getD 86 undef, tm.getD 87 undef, undef, undef, undef, undef] hs (ae 1 (by exact hk 0 rfl) (ae 2 (by exact hk 1 rfl) (ae 3 (by exact hk 2 rfl) (ae 4 (by exact hk 3 rfl) (ae 5 (by exact hk 4 rfl) (ae 6 (by exact hk 5 rfl) (ae 7 (by exact hk 6 rfl) (ae 8 (by exact hk 7 rfl) (ae 9 (by exact hk 8 rfl) (ae 10 (by exact hk 9 rfl) (ae 11 (by exact hk 10 rfl) (ae 12 (by exact hk 11 rfl) (ae 13 (by exact hk 12 rfl) (ae 14 (by exact hk 13 rfl) (ae 15 (by exact hk 14 rfl) (ae 16 (by exact hk 15 rfl) (ae 17 (by exact hk 16 rfl) (ae 18 (by exact hk 17 rfl) (ae 19 (by exact hk 18 rfl) (ae 20 (by exact hk 19 rfl) (ae 21 (by exact hk 20 rfl) (ae 22 (by exact hk 21 rfl) (ae 23 (by exact hk 22 rfl) (ae 24 (by exact hk 23 rfl) (ae 25 (by exact hk 24 rfl) (ae 26 (by exact hk 25 rfl) (ae 27 (by exact hk 26 rfl) (ae 28 (by exact hk 27 rfl) (ae 29 (by exact hk 28 rfl) (ae 30 (by exact hk 29 rfl) (ae 31 (by exact hk 30 rfl) (ae 32 (by exact hk 31 rfl) (ae 33 (by exact hk 32 rfl) (ae 34 (by exact hk 33 rfl) (ae 35 (by exact hk 34 rfl) (ae 36 (by exact hk 35 rfl) (ae 37 (by exact hk 36 rfl) (ae 38 (by exact hk 37 rfl) (ae 39 (by exact hk 38 rfl) (ae 40 (by exact hk 39 rfl) (ae 41 (by exact hk 40 rfl) (ae 42 (by exact hk 41 rfl) (ae 43 (by exact hk 42 rfl) (ae 44 (by exact hk 43 rfl) (ae 45 (by exact hk 44 rfl) (ae 46 (by exact hk 45 rfl) (ae 47 (by exact hk 46 rfl) (ae 48 (by exact hk 47 rfl) (ae 49 (by exact hk 48 rfl) (ae 50 (by exact hk 49 rfl) (ae 51 (by exact hk 50 rfl) (ae 52 (by exact hk 51 rfl) (ae 53 (by exact hk 52 rfl) (ae 54 (by exact hk 53 rfl) (ae 55 (by exact hk 54 rfl) (ae 56 (by exact hk 55 rfl) (ae 57 (by exact hk 56 rfl) (ae 58 (by exact hk 57 rfl) (ae 59 (by exact hk 58 rfl) (ae 60 (by exact hk 59 rfl) (ae 61 (by exact hk 60 rfl) (ae 62 (by exact hk 61 rfl) (ae 63 (by exact hk 62 rfl) (ae 64 (by exact hk 63 rfl) (ae 65 (by exact hk 64 rfl) (ae 66 (by exact hk 65 rfl) (ae 67 (by exact hk 66 rfl) (ae 68 (by exact hk 67 rfl) (ae 69 (by exact hk 68 rfl) (ae 70 (by exact hk 69 rfl) (ae 71 (by exact hk 70 rfl) (ae 72 (by exact hk 71 rfl) (ae 73 (by exact hk 72 rfl) (ae 74 (by exact hk 73 rfl) (ae 75 rfl (ae 76 rfl (ae 77 rfl (ae 78 rfl (ae 79 rfl (ae 80 rfl (ae 81 rfl (ae 82 rfl (ae 83 rfl (ae 84 rfl (ae 85 rfl (ae 86 rfl (ae 87 rfl (ae 88 rfl (ae 89 (by exact hk 88 rfl) (ae 90 (by exact hk 89 rfl) (ae 91 (by exact hk 90 rfl) (ae 92 (by exact hk 91 rfl) az))))))))))))))))))))))))))))))))))))))))))))))))))))))))))))))))))))))))))))))))))))))))))))
   clear hs hk hG
   generalize tm.getD 74 undef = t74 at htm g74
   generalize tm.getD 75 undef = t75 at htm g75
   generalize tm.getD 76 undef = t76 at htm g76
   generalize tm.getD 77 undef = t77 at htm g77
   generalize tm.getD 78 undef = t78 at htm g78
   generalize tm.getD 79 undef = t79 at htm g79
   generalize tm.getD 80 undef = t80 at htm g80
   generalize tm.getD 81 undef = t81 at htm g81
   generalize tm.getD 82 undef = t82 at htm g82
   generalize tm.getD 83 undef = t83 at htm g83
   generalize tm.getD 84 undef = t84 at htm g84
   generalize tm.getD 85 undef = t85 at htm g85
   generalize tm.getD 86 undef = t86 at htm g86
   generalize tm.getD 87 undef = t87 at htm g87
   subst htm
   subst g74
   subst g75
   subst g76
   subst g77
   subst g78
   subst g79
   subst g80
   subst g81
   subst g82
   subst g83
   subst g86
   subst g87
   simp only [List.drop_succ_cons, List.drop_zero]
   obtain ⟨g', c', rfl, hg', hA⟩ := g85
   have hlen : (L ++ [nTh id kind quota d p cc xs]).length = L.length + 1 := by simp
   rw [hlen] at hA
   obtain ⟨ei, mi, hS, hno⟩ := HKi.out
   obtain ⟨cs', r1, r2⟩ := H5.out.grow (t := nTh id kind quota d p cc xs) hB hA hg' (HR.out.nopos hno) (by omega) ((HC.out).below HB5.out) HO.out hm rfl
   have r3 := r1
   have hki' : ki < (L ++ [nTh id kind quota d p cc xs]).length := by simp; omega
   have hgk : (L ++ [nTh id kind quota d p cc xs])[ki] = L[ki] := List.getElem_append_left hki
   have y1 : X.cell? ⟨rb, 1, none⟩ = some (.slice (some ⟨g, 0, none⟩) L.length cap) := (cW _ X hB).1
   have y2 : X.frozen? ⟨rb, 1, none⟩ = false := by simp [World.frozen?, (hB.2.2.2.2 rb hrl.1 (.inl hne)).trans H5.out.tab]
   have HPT := Lib.hid (rput_any r1 ki hki' id (by rw [hgk]; exact Hel.out))
   have HR2 := Lib.hid r2
   have HR1 := Lib.hid r1
   clear r1 r2 r3 hA g84
   rw [hlen]
   go_wp2_with (go_at_call 46; with_reducible refine Calls.mono HPT.out ?_; rintro e w7 ⟨⟨v7, rfl⟩, p7, c7, cs7, r7, f7⟩; have HR7 := Lib.hid r7; have HF7 := Lib.hid f7; clear r7 f7)
   go_ret
   refine ⟨rfl, g', c', cs7, _, HR7.out, ?_, ((Fm.stay HB0.out).tr (Fm.stay HB5.out)).tr (HR2.out.tr HF7.out)⟩
   unfold makeT
   rw [if_pos HM.out, hS]
   have hidi : id ≠ i := fun e => by rw [e, hS] at hno; cases hno
   have rel1 : RelD (updS S id (newOb id kind quota d xs)) (L ++ [nTh id kind quota d p cc xs]) [] := HR.out.add (t := nTh id kind quota d p cc xs) (fun k hk => updS_ne _ _ hk) (updS_at _ _ _) ⟨rfl, rfl, rfl, rfl, rfl⟩ (HR.out.nopos hno) (by simp)
   have rel2 := rel1.ent HR1.out.nd (i := i) (x := id) (o := o) (k := ki) hki' (by rw [hgk]; exact ei) (by rw [hgk]; exact mi) (o.used + quota) p7 c7
   have hsw : updS (updS S id (newOb id kind quota d xs)) i { o with used := o.used + quota, ents := o.ents ++ [id] } = updS (updS S i { o with used := o.used + quota, ents := o.ents ++ [id] }) id (newOb id kind quota d xs) := by
    funext k
    unfold updS
    by_cases e1 : k = i
    · by_cases e2 : k = id
      · exact absurd (e2.symm.trans e1) hidi
      · rw [if_pos e1, if_neg e2, if_pos e1]
    · by_cases e2 : k = id
      · rw [if_neg e1, if_pos e2, if_pos e2]
      · rw [if_neg e1, if_neg e2, if_neg e2, if_neg e1]
   rw [hsw] at rel2
   exact rel2
end
end Go.Proofs.YtmgfakfiiaeofaaGreat.Ho
