/- What parseStep of package isa answers, for every line. -/
import Derived.Test.YtgldkmabhmlijaaDoorNames
import Derived.Deep.Cut
import Derived.Deep.RegionWith
import Derived.Deep.RegionHeld
import Derived.BigRegion
namespace Go.Proofs.YtgldkmabhmlijaaDoor
open Go.RowKit Go.Sort
/-- A line's instruction, its name if one stands for the number, and whether it is one. -/
structure Stp where
  (c : Cod) (name : ByteArray) (ok : Bool)
def blankS (s : ByteArray) : Int := Lib.lastIndexByte s 32
def tailS (s : ByteArray) : ByteArray := s.extract (blankS s + 1).toNat s.size
def headS (s : ByteArray) : ByteArray := s.extract 0 (blankS s).toNat ++ ⟨#[32, 48]⟩
def stpS (s : ByteArray) : Stp :=
  if blankS s < 0 ∨ nameL (tailS s).data.toList = false then ⟨(parC s).getD c0, ⟨#[]⟩, (parC s).isSome⟩
  else ⟨(parC (headS s)).getD c0, tailS s, (parC (headS s)).isSome && decide (sh ((parC (headS s)).getD c0).op = 5 ∨ sh ((parC (headS s)).getD c0).op = 6)⟩
def Stp.v (x : Stp) (n : Int) : Value := .agg #[.int .i64 x.c.op, .int .i64 x.c.a, .int .i64 x.c.b, .int .i64 x.c.c, .int .i64 x.c.n, .int .i64 n, .string x.name]
theorem blank_lim (s : ByteArray) : -1 ≤ blankS s ∧ blankS s < s.size := by
  rcases Lib.lastIdx_spec s 32 s.size with ⟨h, _⟩ | ⟨i, hi, h, _⟩ <;> unfold blankS Lib.lastIndexByte <;> rw [h] <;> omega
/-- Values that lie in a block of their own. -/
def AtV (W : World) (B : Nat) (vs : List Value) : Prop := B < W.heap.size ∧ (∀ j (h : j < vs.length), W.cell? ⟨B, j, none⟩ = some vs[j]) ∧ ∀ o, W.frozen? ⟨B, o, none⟩ = false
theorem AtV.below {W W' : World} {B n : Nat} {vs : List Value} (h : AtV W B vs) (hb : Below n W W') (hB : B < n) : AtV W' B vs :=
  ⟨Nat.lt_of_lt_of_le h.1 hb.size, fun j hj => (hb.cell (p := ⟨B, j, none⟩) hB).trans (h.2.1 j hj), fun o => (hb.frozen (p := ⟨B, o, none⟩) hB).trans (h.2.2 o)⟩
theorem AtV.new (W : World) (vs : List Value) (t : TypeId) : AtV (W.alloc (.cells vs.toArray t)) W.heap.size vs :=
  ⟨by simp, fun j hj => by rw [World.cell?_alloc_new]; simp [hj], fun o => by simp [go_sem]⟩
theorem size_setCells (g : Nat) : ∀ (vs : List Value) (o : Nat) (w : World), (w.setCells g o vs).heap.size = w.heap.size
  | [], _, _ => rfl
  | _ :: ys, o, w => by rw [World.setCells, size_setCells g ys]; simp
theorem AtV.set {W : World} {B : Nat} {vs us : List Value} (h : AtV W B vs) (hl : us.length = vs.length) : AtV (W.setCells B 0 us) B us :=
  ⟨by rw [size_setCells]; exact h.1, fun j hj => by
    have := World.cell?_setCells_in B us 0 W (fun j' hj' => by rw [Nat.zero_add, h.2.1 j' (by omega)]; rfl) j hj
    rwa [Nat.zero_add] at this, fun o => by rw [World.frozen?_setCells]; exact h.2.2 o⟩
theorem AtV.there {W : World} {B : Nat} {vs : List Value} (h : AtV W B vs) : W.there B 0 vs.length := fun j hj => by rw [Nat.zero_add, h.2.1 j hj]; exact ⟨rfl, h.2.2 j⟩
def v7 (c : Cod) (n : Int) (s : ByteArray) : List Value := [.int .i64 c.op, .int .i64 c.a, .int .i64 c.b, .int .i64 c.c, .int .i64 c.n, .int .i64 n, .string s]
theorem parE_ok (o : Option Cod) : (parE o == 0) = o.isSome := by cases o <;> rfl
set_option maxRecDepth 100000 in
set_option maxHeartbeats 4000000 in
theorem parseStep_any (s : ByteArray) (w : World) (hE : Env w) (hs : s.size < 1000000) : Calls Tryd.prog 35 #[.string s] w fun e w' => e = .returned (.tuple #[(stpS s).v 0, .bool (stpS s).ok]) ∧ Below w.heap.size w w' := by
  obtain ⟨bl1, bl2⟩ := blank_lim s
  have HLI : Hid (∀ W, Calls Tryd.prog 44 #[.string s, .int .u8 32] W fun e w' => e = .returned (.int .i64 (blankS s)) ∧ w' = W) := fun W => Tryd.strings_LastIndexByte s 32 (by omega) W
  have HSt : Hid (stpS s = if blankS s < 0 ∨ nameL (tailS s).data.toList = false then ⟨(parC s).getD c0, ⟨#[]⟩, (parC s).isSome⟩ else ⟨(parC (headS s)).getD c0, tailS s, (parC (headS s)).isSome && decide (sh ((parC (headS s)).getD c0).op = 5 ∨ sh ((parC (headS s)).getD c0).op = 6)⟩) := rfl
  have htl : s.extract (blankS s + 1).toNat s.size = tailS s := rfl
  have hhd : s.extract 0 (blankS s).toNat ++ ⟨#[32, 48]⟩ = headS s := rfl
  have hhz : (headS s).size < 4294967281 := by
    have : (headS s).size = (s.extract 0 (blankS s).toNat).size + 2 := by unfold headS; simp [ByteArray.size_append]; rfl
    rw [this, ByteArray.size_extract]; omega
  have HNm := Lib.hid (isName_any (tailS s))
  have HP1 := Lib.hid (fun W hW => Parse_any s W hW (by omega))
  have HP2 := Lib.hid (fun W hW => Parse_any (headS s) W hW hhz)
  generalize blankS s = b at *
  have hwb : wrap64 (b + 1) = b + 1 := wrap64_id (by omega) (by omega)
  have hb1 : (0 : Int) ≤ b + 1 := by omega
  have hb2 : b + 1 ≤ (s.size : Int) := by omega
  by_cases hneg : b < 0
  · have HS1 : Hid (stpS s = ⟨(parC s).getD c0, ⟨#[]⟩, (parC s).isSome⟩) := by simp only [Hid]; rw [HSt.out, if_pos (.inl hneg)]
    go_enter Tryd.func35, Tryd.ntmps35
    have hbA : Below w.heap.size w (w.alloc (.cells #[.int .i64 0, .int .i64 0, .int .i64 0, .int .i64 0, .int .i64 0, .int .i64 0, .string ⟨#[]⟩] 77)) := (Below.refl _ _).alloc (Nat.le_refl _) _
    have hEA := hE.below hbA
    generalize (parC s).getD c0 = c at HP1 HS1
    generalize hpo : parC s = po at HP1 HS1
    clear hpo
    unfold Cod.v at HP1
    go_wp2_with (first | (go_at_call 44; refine (HLI.out _).mono ?_; rintro e w' ⟨rfl, hw'⟩; rw [hw']; clear hw' w') | (go_at_call 45; refine (HP1.out _ hEA).mono ?_; rintro e w1 ⟨rfl, hb1'⟩; refine Hid.out ?_))
    refine Lib.hid ?_
    have hR1 : AtV w1 w.heap.size (v7 c0 0 ⟨#[]⟩) := (AtV.new w (v7 c0 0 ⟨#[]⟩) 77).below hb1' (by simp)
    have hB1 : Below w.heap.size w w1 := hbA.trans (hb1'.mono (by simp))
    have hbC : Below w1.heap.size w1 (w1.alloc (.cells #[.int .i64 c.op, .int .i64 c.a, .int .i64 c.b, .int .i64 c.c, .int .i64 c.n] 25)) := (Below.refl _ _).alloc (Nat.le_refl _) _
    have hRC := hR1.below hbC hR1.1
    have HTh := Lib.hid hRC.there
    have hpe := parE_ok po
    have hB2' : RowKit.Below w.heap.size w (w1.alloc (.cells #[.int .i64 c.op, .int .i64 c.a, .int .i64 c.b, .int .i64 c.c, .int .i64 c.n] 25)) := hB1.trans (hbC.mono hB1.size)
    have hCC := At5.new w1 c 25
    go_upto_region 5 with fail
    generalize w1.alloc (.cells #[.int .i64 c.op, .int .i64 c.a, .int .i64 c.b, .int .i64 c.c, .int .i64 c.n] 25) = W2 at hRC HTh hB2' hCC ⊢
    clear hbC hR1 hb1' HP1 HP2 HNm HSt HLI hE hEA hbA
    obtain ⟨kl, ⟨a0, a1, a2, a3, a4⟩, af⟩ := hCC
    obtain ⟨rl, rc, rf⟩ := hRC
    have r0 := rc 0 (show 0 < 7 by decide)
    have r1 := rc 1 (show 1 < 7 by decide)
    have r2 := rc 2 (show 2 < 7 by decide)
    have r3 := rc 3 (show 3 < 7 by decide)
    have r4 := rc 4 (show 4 < 7 by decide)
    have r5 := rc 5 (show 5 < 7 by decide)
    have r6 := rc 6 (show 6 < 7 by decide)
    simp only [v7, c0, List.getElem_cons_zero, List.getElem_cons_succ] at r0 r1 r2 r3 r4 r5 r6
    clear rc
    go_wp2
    refine bodyPost_ret (v := .tuple #[(⟨c, ⟨#[]⟩, po.isSome⟩ : Stp).v 0, .bool po.isSome]) (by simp [results, Tryd.results35, go_sem, Stp.v, r0, r1, r2, r3, r4, r5, r6]) rfl ⟨by rw [HS1.out], ?_⟩
    exact hB2'.trans (Go.below_setCells (Nat.le_refl _) (v7 c 0 ⟨#[]⟩) 0 W2 (Below.refl _ _))
  · have hni : ¬ b < 0 := hneg
    by_cases hnm : nameL (tailS s).data.toList = false
    · have HS1 : Hid (stpS s = ⟨(parC s).getD c0, ⟨#[]⟩, (parC s).isSome⟩) := by simp only [Hid]; rw [HSt.out, if_pos (.inr hnm)]
      rw [hnm] at HNm
      go_enter Tryd.func35, Tryd.ntmps35
      have hbA : Below w.heap.size w (w.alloc (.cells #[.int .i64 0, .int .i64 0, .int .i64 0, .int .i64 0, .int .i64 0, .int .i64 0, .string ⟨#[]⟩] 77)) := (Below.refl _ _).alloc (Nat.le_refl _) _
      have hEA := hE.below hbA
      generalize (parC s).getD c0 = c at HP1 HS1
      generalize hpo : parC s = po at HP1 HS1
      clear hpo
      unfold Cod.v at HP1
      go_wp2_with (first | (go_at_call 44; refine (HLI.out _).mono ?_; rintro e w' ⟨rfl, hw'⟩; rw [hw']; clear hw' w') | (go_at_call 43; refine (HNm.out _).mono ?_; rintro e w0 ⟨rfl, hb0'⟩; have hE0 := hEA.below hb0') | (go_at_call 45; refine (HP1.out _ hE0).mono ?_; rintro e w1 ⟨rfl, hb1''⟩; have hb1' := hb0'.trans (hb1''.mono hb0'.size); refine Hid.out ?_))
      refine Lib.hid ?_
      have hR1 : AtV w1 w.heap.size (v7 c0 0 ⟨#[]⟩) := (AtV.new w (v7 c0 0 ⟨#[]⟩) 77).below hb1' (by simp)
      have hB1 : Below w.heap.size w w1 := hbA.trans (hb1'.mono (by simp))
      have hbC : Below w1.heap.size w1 (w1.alloc (.cells #[.int .i64 c.op, .int .i64 c.a, .int .i64 c.b, .int .i64 c.c, .int .i64 c.n] 25)) := (Below.refl _ _).alloc (Nat.le_refl _) _
      have hRC := hR1.below hbC hR1.1
      have HTh := Lib.hid hRC.there
      have hpe := parE_ok po
      have hB2' : RowKit.Below w.heap.size w (w1.alloc (.cells #[.int .i64 c.op, .int .i64 c.a, .int .i64 c.b, .int .i64 c.c, .int .i64 c.n] 25)) := hB1.trans (hbC.mono hB1.size)
      have hCC := At5.new w1 c 25
      go_upto_region 5 with fail
      generalize w1.alloc (.cells #[.int .i64 c.op, .int .i64 c.a, .int .i64 c.b, .int .i64 c.c, .int .i64 c.n] 25) = W2 at hRC HTh hB2' hCC ⊢
      clear hbC hR1 hb1' hb1'' hb0' hE0 HP1 HP2 HNm HSt HLI hE hEA hbA
      obtain ⟨kl, ⟨a0, a1, a2, a3, a4⟩, af⟩ := hCC
      obtain ⟨rl, rc, rf⟩ := hRC
      have r0 := rc 0 (show 0 < 7 by decide)
      have r1 := rc 1 (show 1 < 7 by decide)
      have r2 := rc 2 (show 2 < 7 by decide)
      have r3 := rc 3 (show 3 < 7 by decide)
      have r4 := rc 4 (show 4 < 7 by decide)
      have r5 := rc 5 (show 5 < 7 by decide)
      have r6 := rc 6 (show 6 < 7 by decide)
      simp only [v7, c0, List.getElem_cons_zero, List.getElem_cons_succ] at r0 r1 r2 r3 r4 r5 r6
      clear rc
      go_wp2
      refine bodyPost_ret (v := .tuple #[(⟨c, ⟨#[]⟩, po.isSome⟩ : Stp).v 0, .bool po.isSome]) (by simp [results, Tryd.results35, go_sem, Stp.v, r0, r1, r2, r3, r4, r5, r6]) rfl ⟨by rw [HS1.out], ?_⟩
      exact hB2'.trans (Go.below_setCells (Nat.le_refl _) (v7 c 0 ⟨#[]⟩) 0 W2 (Below.refl _ _))
    · have hnt : nameL (tailS s).data.toList = true := by simpa using hnm
      have HS1 : Hid (stpS s = ⟨(parC (headS s)).getD c0, tailS s, (parC (headS s)).isSome && decide (sh ((parC (headS s)).getD c0).op = 5 ∨ sh ((parC (headS s)).getD c0).op = 6)⟩) := by simp only [Hid]; rw [HSt.out, if_neg (by simp [hneg, hnt])]
      rw [hnt] at HNm
      have hbA : Below w.heap.size w (w.alloc (.cells #[.int .i64 0, .int .i64 0, .int .i64 0, .int .i64 0, .int .i64 0, .int .i64 0, .string ⟨#[]⟩] 77)) := (Below.refl _ _).alloc (Nat.le_refl _) _
      have hEA := hE.below hbA
      generalize (parC (headS s)).getD c0 = c at HP2 HS1
      generalize hpo : parC (headS s) = po at HP2 HS1
      clear hpo
      unfold Cod.v at HP2
      go_enter Tryd.func35, Tryd.ntmps35
      go_wp2_with (first | (go_at_call 44; refine (HLI.out _).mono ?_; rintro e w' ⟨rfl, hw'⟩; rw [hw']; clear hw' w') | (go_at_call 43; refine (HNm.out _).mono ?_; rintro e w0 ⟨rfl, hb0'⟩; have hE0 := hEA.below hb0') | (go_at_call 45; refine (HP2.out _ hE0).mono ?_; rintro e w1 ⟨rfl, hb1''⟩; have hb1' := hb0'.trans (hb1''.mono hb0'.size); refine Hid.out ?_))
      refine Lib.hid ?_
      have hR1 : AtV w1 w.heap.size (v7 c0 0 ⟨#[]⟩) := (AtV.new w (v7 c0 0 ⟨#[]⟩) 77).below hb1' (by simp)
      have hB1 : Below w.heap.size w w1 := hbA.trans (hb1'.mono (by simp))
      have hbC : Below w1.heap.size w1 (w1.alloc (.cells #[.int .i64 c.op, .int .i64 c.a, .int .i64 c.b, .int .i64 c.c, .int .i64 c.n] 25)) := (Below.refl _ _).alloc (Nat.le_refl _) _
      have hRC := hR1.below hbC hR1.1
      have hB2' : RowKit.Below w.heap.size w (w1.alloc (.cells #[.int .i64 c.op, .int .i64 c.a, .int .i64 c.b, .int .i64 c.c, .int .i64 c.n] 25)) := hB1.trans (hbC.mono hB1.size)
      have hCC := At5.new w1 c 25
      have hpe := parE_ok po
      go_upto_region 7 with fail
      generalize w1.alloc (.cells #[.int .i64 c.op, .int .i64 c.a, .int .i64 c.b, .int .i64 c.c, .int .i64 c.n] 25) = W2 at hRC hB2' hCC ⊢
      clear hbC hR1 hb1' hb1'' hb0' hE0 HP1 HP2 HNm HSt HLI hE hEA hbA
      obtain ⟨kl, ⟨a0, a1, a2, a3, a4⟩, af⟩ := hCC
      obtain ⟨rl, rc, rf⟩ := hRC
      have r0 := rc 0 (show 0 < 7 by decide)
      have r1 := rc 1 (show 1 < 7 by decide)
      have r2 := rc 2 (show 2 < 7 by decide)
      have r3 := rc 3 (show 3 < 7 by decide)
      have r4 := rc 4 (show 4 < 7 by decide)
      have r5 := rc 5 (show 5 < 7 by decide)
      have r6 := rc 6 (show 6 < 7 by decide)
      simp only [v7, c0, List.getElem_cons_zero, List.getElem_cons_succ] at r0 r1 r2 r3 r4 r5 r6
      clear rc
      cases po with
      | none =>
        clear hpe
        rw [show parE none = 2 from rfl]
        obtain ⟨V, hV⟩ : ∃ V, W2.drew = V := ⟨_, rfl⟩
        have hbV : RowKit.Below W2.heap.size W2 V := by rw [← hV]; exact (Below.refl _ _).drew
        have e0 := (hbV.cell (p := ⟨w.heap.size, 0, none⟩) rl).trans r0
        have e1 := (hbV.cell (p := ⟨w.heap.size, 1, none⟩) rl).trans r1
        have e2 := (hbV.cell (p := ⟨w.heap.size, 2, none⟩) rl).trans r2
        have e3 := (hbV.cell (p := ⟨w.heap.size, 3, none⟩) rl).trans r3
        have e4 := (hbV.cell (p := ⟨w.heap.size, 4, none⟩) rl).trans r4
        have e5 := (hbV.cell (p := ⟨w.heap.size, 5, none⟩) rl).trans r5
        have e6 := (hbV.cell (p := ⟨w.heap.size, 6, none⟩) rl).trans r6
        have ef : ∀ o, V.frozen? ⟨w.heap.size, o, none⟩ = false := fun o => (hbV.frozen (p := ⟨w.heap.size, o, none⟩) rl).trans (rf o)
        have el : w.heap.size < V.heap.size := Nat.lt_of_lt_of_le rl hbV.size
        have x0 := (hbV.cell (p := ⟨w1.heap.size, 0, none⟩) kl).trans a0
        have x1 := (hbV.cell (p := ⟨w1.heap.size, 1, none⟩) kl).trans a1
        have x2 := (hbV.cell (p := ⟨w1.heap.size, 2, none⟩) kl).trans a2
        have x3 := (hbV.cell (p := ⟨w1.heap.size, 3, none⟩) kl).trans a3
        have x4 := (hbV.cell (p := ⟨w1.heap.size, 4, none⟩) kl).trans a4
        have xl : w1.heap.size < V.heap.size := Nat.lt_of_lt_of_le kl hbV.size
        clear r0 r1 r2 r3 r4 r5 r6 rf a0 a1 a2 a3 a4 af
        have hBV := hB2'.trans (hbV.mono hB2'.size)
        clear hbV hB2'
        go_region
        all_goals
          go_wp2
          refine bodyPost_ret (v := .tuple #[(⟨c, tailS s, false⟩ : Stp).v 0, .bool false]) (by simp [results, Tryd.results35, go_sem, Stp.v, e0, e1, e2, e3, e4, e5, e6]) rfl ⟨by rw [HS1.out]; rfl, ?_⟩
          exact hBV.trans (Go.below_setCells (Nat.le_refl _) (v7 c 0 (tailS s)) 0 V (Below.refl _ _))
      | some y =>
        have hgd : parE (some y) = 0 := rfl
        have HJ := Lib.hid (jumps_any c.op)
        generalize decide (sh c.op = 5 ∨ sh c.op = 6) = jb at HJ HS1
        clear hpe
        go_region_with (go_at_call 46; refine (HJ.out _).mono ?_; rintro e w3 ⟨rfl, hb3⟩; have d0 := (hb3.cell (p := ⟨w.heap.size, 0, none⟩) rl).trans r0; have d1 := (hb3.cell (p := ⟨w.heap.size, 1, none⟩) rl).trans r1; have d2 := (hb3.cell (p := ⟨w.heap.size, 2, none⟩) rl).trans r2; have d3 := (hb3.cell (p := ⟨w.heap.size, 3, none⟩) rl).trans r3; have d4 := (hb3.cell (p := ⟨w.heap.size, 4, none⟩) rl).trans r4; have d5 := (hb3.cell (p := ⟨w.heap.size, 5, none⟩) rl).trans r5; have d6 := (hb3.cell (p := ⟨w.heap.size, 6, none⟩) rl).trans r6; have df : ∀ o, w3.frozen? ⟨w.heap.size, o, none⟩ = false := (fun o => (hb3.frozen (p := ⟨w.heap.size, o, none⟩) rl).trans (rf o)); have dl : w.heap.size < w3.heap.size := Nat.lt_of_lt_of_le rl hb3.size; have g0 := (hb3.cell (p := ⟨w1.heap.size, 0, none⟩) kl).trans a0; have g1 := (hb3.cell (p := ⟨w1.heap.size, 1, none⟩) kl).trans a1; have g2 := (hb3.cell (p := ⟨w1.heap.size, 2, none⟩) kl).trans a2; have g3 := (hb3.cell (p := ⟨w1.heap.size, 3, none⟩) kl).trans a3; have g4 := (hb3.cell (p := ⟨w1.heap.size, 4, none⟩) kl).trans a4; have gl : w1.heap.size < w3.heap.size := Nat.lt_of_lt_of_le kl hb3.size)
        all_goals
          go_wp2
          refine bodyPost_ret (v := .tuple #[(⟨c, tailS s, jb⟩ : Stp).v 0, .bool jb]) (by simp [results, Tryd.results35, go_sem, Stp.v, d0, d1, d2, d3, d4, d5, d6]) rfl ⟨by rw [HS1.out]; rfl, ?_⟩
          exact (hB2'.drew.trans (hb3.mono hB2'.size)).trans (Go.below_setCells (Nat.le_refl _) (v7 c 0 (tailS s)) 0 w3 (Below.refl _ _))
end Go.Proofs.YtgldkmabhmlijaaDoor
