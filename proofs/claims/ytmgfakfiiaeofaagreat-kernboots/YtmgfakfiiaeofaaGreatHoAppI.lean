/- Rows of numbers that are appended to by themselves. -/
import Derived.Test.YtmgfakfiiaeofaaGreatKoCst
import Derived.Test.YtmgfakfiiaeofaaGreatWaAlr
import Derived.Test.YtmgfakfiiaeofaaGreatHoLabR
import Derived.Test.YtmgfakfiiaeofaaGreatVwRTail
import Derived.Test.YtmgfakfiiaeofaaGreatVwRSame
import Derived.Shelf.SlGeneric
import Derived.Shelf.SlIterI.Nil
import Derived.Shelf.SortM.Plain
import Derived.Shelf.SortM.SortNone
import Derived.Ground.GgzProg
import Derived.Ground.SlgmProg
import Derived.Test.YtmgfakfiiaeofaaGreatProg
import Derived.Test.YtmgfakfiiaeofaaGreatHoAbs
import Derived.Lib.SlKeysI
import Derived.Test.YtmgfakfiiaeofaaGreatKCre
import Derived.Test.YtmgfakfiiaeofaaGreatHoRefM0
/- The three objects of a kernel that has just begun, as both tell them. -/
namespace Go.Proofs.YtmgfakfiiaeofaaGreat
open Go.RowKit Go.Sort
def bare (o : Vw.Ob) : Vw.Ob := { o with L := ⟨o.L.d, none, 0, o.L.xs⟩, lp := none, lc := 0, mp := none, mc := 0, C := ⟨o.C.d, none, 0, o.C.xs⟩, ap := none, ac := 0 }
theorem obB_of {a b : Vw.Ob} (h : bare a = bare b) : Vw.obB a b = true := by
 have e := h
 unfold bare at e
 simp only [Vw.Ob.mk.injEq, Vw.Lab.mk.injEq, true_and] at e
 unfold Vw.obB Vw.infB Vw.sameS Vw.eqP Vw.stB Vw.refB Vw.u16
 simp [e]
def expI (r c t : Int) : Nat -> Vw.Ob
 | 0 => { tellO ⟨r, 1, 1099511627776, 2, 1, 2, [], [c, t]⟩ none 0 with ls := [c, t] }
 | 1 => tellO (Ho.newOb c 6 1 2 []) none 0
 | _ => tellT (Ho.newOb t 4 1 2 []) none 0
structure Bth (lo : Nat) (W : World) (K : Kn) (r c t : Int) (kb rb rm dr al : Nat) : Prop where
 hK : KAt lo W K
 hF : KFirst K r c t
 hD : KDev W K c
 hR : RKS W lo kb rb rm dr (.slice (some ⟨al, 0, none⟩) 3 3) r c t (Ho.A2 r c t)
 hA : W.heap[al]? = some (.cells (all3 r c t).toArray 91 (0, 0))
theorem KDev.below {W X : World} {K : Kn} {c : Int} (h : KDev W K c) (hb : Below W.heap.size W X) : KDev X K c := by
 obtain ⟨B, h1, h2, h3⟩ := h
 exact ⟨B, h1.same (hb.block _ h1.lt), (hb.block B (Array.getElem?_eq_some_iff.1 h2).1).trans h2, h3⟩
theorem Bth.below {lo : Nat} {W X : World} {K : Kn} {r c t : Int} {kb rb rm dr al : Nat} (h : Bth lo W K r c t kb rb rm dr al) (hb : Below W.heap.size W X) : Bth lo X K r c t kb rb rm dr al :=
 ⟨h.hK.below hb, h.hF, h.hD.below hb, h.hR.below hb, (hb.block al (Array.getElem?_eq_some_iff.1 h.hA).1).trans h.hA⟩
def Good3 (r c t : Int) : Prop := Ho.isCt r = true /\ Ho.isCt c = true /\ Ho.isCt t = true /\ r ≠ c /\ r ≠ t /\ c ≠ t
theorem i64_of {n : Int} (h : Ho.isCt n = true) : Ho.i64 n := by
 unfold Ho.isCt at h; simp at h; unfold Ho.i64; omega
theorem kObj_any {lo : Nat} {W : World} {K : Kn} {r c t : Int} {kb rb rm dr al : Nat} (h : Bth lo W K r c t kb rb rm dr al) (hg : Good3 r c t) (i : Nat) (hi : i < 3) :
 Calls Tryz.prog 25 #[.pointer (some ⟨K.kb, 0, none⟩), .int .i64 ((ids3 r c t).getD i 0)] W fun e W' => ∃ o : Vw.Ob, e = .returned (.tuple #[.agg o.cs, .bool true]) /\ Vw.ObOk W' o /\ bare o = expI r c t i /\ Below W.heap.size W W' := by
 obtain ⟨g1, g2, g3, g4, g5, g6⟩ := hg
 have nilI : ∀ X : World, Vw.IntsAt X none [] := fun X j hj => by simp at hj
 have nilC : ∀ X : World, Vw.CatsAt X none [] := fun X j hj => by simp at hj
 have nilM : ∀ X : World, Vw.MsAt X none [] := fun X j hj => by simp at hj
 match i, hi with
 | 0, _ =>
  obtain ⟨x, hT, ho⟩ := h.hF.tR
  have hm := Object_box h.hK r (i64_of g1) x hT (by rw [ho]) (by rw [ho]; show 0 <= 16; decide) (by rw [ho]; show 2 < 1000000; decide)
  refine hm.mono ?_
  rintro e W' ⟨p, cap, lp, lc, rfl, ⟨h1, -⟩, ⟨h2, -⟩, hb⟩
  rw [ho] at h1 h2 |-
  exact ⟨_, rfl, ⟨rfl, h1, Nat.zero_le _, h2, by show 2 <= maxLen; decide, nilM _, Nat.zero_le _, nilC _, Nat.zero_le _, nilI _, Nat.zero_le _⟩, rfl, hb⟩
 | 1, _ =>
  obtain ⟨x, hT, ho⟩ := h.hF.tC
  obtain ⟨B, d1, d2, -⟩ := h.hD
  have hm := Object_dev h.hK c (i64_of g2) x hT (by rw [ho]; rfl) (by rw [ho]; show 0 <= 16; decide) d1 (B := B) (by unfold Wa.updF; rw [if_pos rfl]) d2
  refine hm.mono ?_
  rintro e W' ⟨p, cap, rfl, ⟨h1, -⟩, hb⟩
  rw [ho] at h1 |-
  exact ⟨_, rfl, ⟨rfl, h1, Nat.zero_le _, nilI _, Nat.zero_le _, nilM _, Nat.zero_le _, nilC _, Nat.zero_le _, nilI _, Nat.zero_le _⟩, rfl, hb⟩
 | 2, _ =>
  obtain ⟨x, hT, ho⟩ := h.hF.tT
  obtain ⟨B, hB⟩ := h.hF.fT
  have hm := Object_thr h.hK t (i64_of g3) x hT (by rw [ho]; rfl) (by rw [ho]; show 0 <= 16; decide) (by rw [ho]; rfl) B (by rw [hB]; unfold Wa.updF; rw [if_pos rfl]) (by rw [h.hF.th]) (by rw [h.hF.all]; rfl) (by rw [h.hF.al])
  refine hm.mono ?_
  rintro e W' ⟨p, cap, rfl, ⟨h1, -⟩, hb⟩
  rw [ho] at h1 |-
  exact ⟨_, rfl, ⟨rfl, h1, Nat.zero_le _, nilI _, Nat.zero_le _, nilM _, Nat.zero_le _, nilC _, Nat.zero_le _, nilI _, Nat.zero_le _⟩, rfl, hb⟩
theorem rObj_any {lo : Nat} {W : World} {K : Kn} {r c t : Int} {kb rb rm dr al : Nat} (h : Bth lo W K r c t kb rb rm dr al) (hg : Good3 r c t) (i : Nat) (hi : i < 3) :
 Calls Tryz.prog 26 #[.pointer (some ⟨kb, 0, none⟩), .int .i64 ((ids3 r c t).getD i 0)] W fun e W' => ∃ o : Vw.Ob, e = .returned (.tuple #[.agg o.cs, .bool true]) /\ Vw.ObOk W' o /\ bare o = expI r c t i /\ Below W.heap.size W W' := by
 obtain ⟨g1, g2, g3, g4, g5, g6⟩ := hg
 have nilI : ∀ (X : World) p, Vw.IntsAt X p [] := fun X p j hj => by simp at hj
 have nilC : ∀ X : World, Vw.CatsAt X none [] := fun X j hj => by simp at hj
 have nilM : ∀ X : World, Vw.MsAt X none [] := fun X j hj => by simp at hj
 have hinv := Ho.A2_inv g1 g2 g3 g4 g5 g6
 match i, hi with
 | 0, hi =>
  have e1 := Ho.A2_r (r := r) (c := c) g5
  have hm := rObject_any h.hR h.hA hinv r 0 hi rfl (fun j hj => by omega) _ e1 rfl
  refine hm.mono ?_
  rintro e W' ⟨p, cap, lp, lc, ap, rfl, h1, h2, hb⟩
  have hl : Ho.listS (Ho.A2 r c t) r = [c, t] := by unfold Ho.listS; rw [e1]; rfl
  rw [hl] at h2 |-
  exact ⟨_, rfl, ⟨rfl, h1, Nat.zero_le _, h2, by show 2 <= maxLen; decide, nilM _, Nat.zero_le _, nilC _, Nat.zero_le _, nilI _ _, Nat.zero_le _⟩, rfl, hb⟩
 | 1, hi =>
  have e1 := Ho.A2_c (r := r) (c := c) (t := t) g4 g6
  have hm := rObject_any h.hR h.hA hinv c 1 hi rfl (fun j hj => by obtain rfl : j = 0 := (by omega); exact g4) _ e1 rfl
  refine hm.mono ?_
  rintro e W' ⟨p, cap, lp, lc, ap, rfl, h1, h2, hb⟩
  have hl : Ho.listS (Ho.A2 r c t) c = [] := by unfold Ho.listS; rw [e1]; rfl
  rw [hl] at h2 |-
  exact ⟨_, rfl, ⟨rfl, h1, Nat.zero_le _, h2, Nat.zero_le _, nilM _, Nat.zero_le _, nilC _, Nat.zero_le _, nilI _ _, Nat.zero_le _⟩, rfl, hb⟩
 | 2, hi =>
  have e1 := Ho.A2_t r c t
  have hm := rObject_any h.hR h.hA hinv t 2 hi rfl (fun j hj => by
   match j, hj with
   | 0, _ => exact g5
   | 1, _ => exact g6) _ e1 rfl
  refine hm.mono ?_
  rintro e W' ⟨p, cap, lp, lc, ap, rfl, h1, h2, hb⟩
  have hl : Ho.listS (Ho.A2 r c t) t = [] := by unfold Ho.listS; rw [e1]; rfl
  rw [hl] at h2 |-
  exact ⟨_, rfl, ⟨rfl, h1, Nat.zero_le _, h2, Nat.zero_le _, nilM _, Nat.zero_le _, nilC _, Nat.zero_le _, nilI _ _, Nat.zero_le _⟩, rfl, hb⟩
end Go.Proofs.YtmgfakfiiaeofaaGreat
/-
  DERIVED: THE SHELF's CONTRACTS AT THIS DUMP, IN PLAIN WORDS (tools/lay-plain.mjs out of 'TryzKeys.lean', which tools/lay-shelf.mjs wrote): THE SAME DECLARATIONS UNDER THE SAME NAMES: 'import', 'namespace', 'open', 'def', 'theorem' AND NOTHING ELSE: no command of the shelf's: FOR A HAND-IN. Each laying: the table of numbers ('.._ren') and one theorem, a field a fact of the dump's own or the kernel's comparison; each contract: ONE APPLICATION.
-/
namespace Go.Proofs
open Go.Shelf
def Tryz.keysA_ren : Go.Shelf.Ren := ⟨fun | 7 => 103 | 10 => 160 | n => n, fun | 23 => 111 | 26 => 3 | 3 => 105 | 28 => 167 | 0 => 0 | 27 => 166 | 33 => 32 | 4 => 4 | n => n, fun | n => n⟩
theorem Tryz.keysA : Go.Proofs.SlLaysZI.n7 Tryz.prog Tryz.keysA_ren := {
 mixed := by kernel_rfl
 f7 := ⟨Tryz.f103.name, by decide, Tryz.func103.trans (congrArg some (by kernel_rfl))⟩
 f10 := ⟨Tryz.f160.name, by decide, Tryz.func160.trans (congrArg some (by kernel_rfl))⟩
 t0 := Tryz.underlying0
 a0 := Tryz.isAgg0
 z0 := Tryz.sizeOf0
 v0 := Tryz.zeroValue0
 t4 := Tryz.underlying4
 a4 := Tryz.isAgg4
 z4 := Tryz.sizeOf4
 v4 := Tryz.zeroValue4
 t23 := Tryz.underlying111
 a23 := Tryz.isAgg111
 z23 := Tryz.sizeOf111
 v23 := Tryz.zeroValue111
 t26 := Tryz.underlying3
 a26 := Tryz.isAgg3
 z26 := Tryz.sizeOf3
 v26 := Tryz.zeroValue3
 t27 := Tryz.underlying166
 a27 := Tryz.isAgg166
 z27 := Tryz.sizeOf166
 v27 := Tryz.zeroValue166
 t28 := Tryz.underlying167
 a28 := Tryz.isAgg167
 z28 := Tryz.sizeOf167
 v28 := Tryz.zeroValue167
 t33 := Tryz.underlying32
 a33 := Tryz.isAgg32
 z33 := Tryz.sizeOf32
 v33 := Tryz.zeroValue32 }
def Tryz.sortedA_ren : Go.Shelf.Ren := ⟨fun | 6 => 102 | 8 => 158 | 9 => 159 | 11 => 210 | 13 => 212 | 12 => 211 | 23 => 253 | 24 => 254 | 14 => 244 | 15 => 245 | 16 => 246 | 17 => 247 | 18 => 248 | 19 => 249 | 20 => 250 | 21 => 251 | 22 => 252 | 25 => 274 | 26 => 275 | 27 => 276 | 28 => 277 | 29 => 278 | 30 => 279 | 31 => 286 | n => n, fun | 26 => 3 | 28 => 167 | 24 => 37 | 0 => 0 | 3 => 3 | 37 => 282 | 48 => 315 | 50 => 65 | 4 => 4 | 40 => 309 | 39 => 308 | 45 => 224 | 5 => 5 | 9 => 9 | 51 => 341 | 55 => 345 | 57 => 356 | 58 => 357 | 33 => 32 | n => n, fun | n => n⟩
theorem Tryz.sortedA : Go.Proofs.SlLaysZI.n6 Tryz.prog Tryz.sortedA_ren := {
 mixed := by kernel_rfl
 f6 := ⟨Tryz.f102.name, by decide, Tryz.func102.trans (congrArg some (by kernel_rfl))⟩
 f8 := ⟨Tryz.f158.name, by decide, Tryz.func158.trans (congrArg some (by kernel_rfl))⟩
 f11 := ⟨Tryz.f210.name, by decide, Tryz.func210.trans (congrArg some (by kernel_rfl))⟩
 t0 := Tryz.underlying0
 a0 := Tryz.isAgg0
 z0 := Tryz.sizeOf0
 v0 := Tryz.zeroValue0
 t24 := Tryz.underlying37
 a24 := Tryz.isAgg37
 z24 := Tryz.sizeOf37
 v24 := Tryz.zeroValue37
 t26 := Tryz.underlying3
 a26 := Tryz.isAgg3
 z26 := Tryz.sizeOf3
 v26 := Tryz.zeroValue3
 t28 := Tryz.underlying167
 a28 := Tryz.isAgg167
 z28 := Tryz.sizeOf167
 v28 := Tryz.zeroValue167
 i26 := by kernel_rfl }
def Tryz.sortA_ren : Go.Shelf.Ren := ⟨fun | 5 => 159 | 8 => 212 | 7 => 211 | 19 => 253 | 20 => 254 | 10 => 244 | 11 => 245 | 12 => 246 | 13 => 247 | 14 => 248 | 15 => 249 | 16 => 250 | 17 => 251 | 18 => 252 | 30 => 274 | 31 => 275 | 32 => 276 | 33 => 277 | 34 => 278 | 35 => 279 | 40 => 286 | n => n, fun | 23 => 37 | 25 => 3 | 3 => 3 | 32 => 282 | 22 => 37 | 0 => 0 | 44 => 315 | 46 => 65 | 4 => 4 | 36 => 309 | 35 => 308 | 41 => 224 | 5 => 5 | 9 => 9 | 53 => 341 | 57 => 345 | 63 => 356 | 64 => 357 | n => n, fun | n => n⟩
theorem Tryz.sortA : Go.Proofs.SlLaysM.n5 Tryz.prog Tryz.sortA_ren := {
 mixed := by kernel_rfl
 f5 := ⟨Tryz.f159.name, by decide, Tryz.func159.trans (congrArg some (by kernel_rfl))⟩
 f7 := ⟨Tryz.f211.name, by decide, Tryz.func211.trans (congrArg some (by kernel_rfl))⟩
 f8 := Tryz.func212.trans (congrArg some (by kernel_rfl))
 f10 := ⟨Tryz.f244.name, by decide, Tryz.func244.trans (congrArg some (by kernel_rfl))⟩
 f11 := ⟨Tryz.f245.name, by decide, Tryz.func245.trans (congrArg some (by kernel_rfl))⟩
 f12 := ⟨Tryz.f246.name, by decide, Tryz.func246.trans (congrArg some (by kernel_rfl))⟩
 f13 := ⟨Tryz.f247.name, by decide, Tryz.func247.trans (congrArg some (by kernel_rfl))⟩
 f14 := ⟨Tryz.f248.name, by decide, Tryz.func248.trans (congrArg some (by kernel_rfl))⟩
 f15 := ⟨Tryz.f249.name, by decide, Tryz.func249.trans (congrArg some (by kernel_rfl))⟩
 f16 := ⟨Tryz.f250.name, by decide, Tryz.func250.trans (congrArg some (by kernel_rfl))⟩
 f17 := ⟨Tryz.f251.name, by decide, Tryz.func251.trans (congrArg some (by kernel_rfl))⟩
 f18 := ⟨Tryz.f252.name, by decide, Tryz.func252.trans (congrArg some (by kernel_rfl))⟩
 f19 := Tryz.func253.trans (congrArg some (by kernel_rfl))
 f20 := Tryz.func254.trans (congrArg some (by kernel_rfl))
 f30 := ⟨Tryz.f274.name, by decide, Tryz.func274.trans (congrArg some (by kernel_rfl))⟩
 f31 := Tryz.func275.trans (congrArg some (by kernel_rfl))
 f32 := Tryz.func276.trans (congrArg some (by kernel_rfl))
 f33 := ⟨Tryz.f277.name, by decide, Tryz.func277.trans (congrArg some (by kernel_rfl))⟩
 f34 := ⟨Tryz.f278.name, by decide, Tryz.func278.trans (congrArg some (by kernel_rfl))⟩
 f35 := ⟨Tryz.f279.name, by decide, Tryz.func279.trans (congrArg some (by kernel_rfl))⟩
 f40 := ⟨Tryz.f286.name, by decide, Tryz.func286.trans (congrArg some (by kernel_rfl))⟩
 t0 := Tryz.underlying0
 a0 := Tryz.isAgg0
 z0 := Tryz.sizeOf0
 v0 := Tryz.zeroValue0
 t3 := Tryz.underlying3
 a3 := Tryz.isAgg3
 z3 := Tryz.sizeOf3
 v3 := Tryz.zeroValue3
 t4 := Tryz.underlying4
 a4 := Tryz.isAgg4
 z4 := Tryz.sizeOf4
 v4 := Tryz.zeroValue4
 t5 := Tryz.underlying5
 a5 := Tryz.isAgg5
 z5 := Tryz.sizeOf5
 v5 := Tryz.zeroValue5
 t9 := Tryz.underlying9
 a9 := Tryz.isAgg9
 z9 := Tryz.sizeOf9
 v9 := Tryz.zeroValue9
 t22 := Tryz.underlying37
 a22 := Tryz.isAgg37
 z22 := Tryz.sizeOf37
 v22 := Tryz.zeroValue37
 t23 := Tryz.underlying37
 a23 := Tryz.isAgg37
 z23 := Tryz.sizeOf37
 v23 := Tryz.zeroValue37
 t25 := Tryz.underlying3
 a25 := Tryz.isAgg3
 z25 := Tryz.sizeOf3
 v25 := Tryz.zeroValue3
 t32 := Tryz.underlying282
 a32 := Tryz.isAgg282
 z32 := Tryz.sizeOf282
 v32 := Tryz.zeroValue282
 t35 := Tryz.underlying308
 a35 := Tryz.isAgg308
 z35 := Tryz.sizeOf308
 v35 := Tryz.zeroValue308
 t36 := Tryz.underlying309
 a36 := Tryz.isAgg309
 z36 := Tryz.sizeOf309
 v36 := Tryz.zeroValue309
 t41 := Tryz.underlying224
 a41 := Tryz.isAgg224
 z41 := Tryz.sizeOf224
 v41 := Tryz.zeroValue224
 t44 := Tryz.underlying315
 a44 := Tryz.isAgg315
 z44 := Tryz.sizeOf315
 v44 := Tryz.zeroValue315
 t46 := Tryz.underlying65
 a46 := Tryz.isAgg65
 z46 := Tryz.sizeOf65
 v46 := Tryz.zeroValue65
 t53 := Tryz.underlying341
 a53 := Tryz.isAgg341
 z53 := Tryz.sizeOf341
 v53 := Tryz.zeroValue341
 t57 := Tryz.underlying345
 a57 := Tryz.isAgg345
 z57 := Tryz.sizeOf345
 v57 := Tryz.zeroValue345
 t63 := Tryz.underlying356
 a63 := Tryz.isAgg356
 z63 := Tryz.sizeOf356
 v63 := Tryz.zeroValue356
 t64 := Tryz.underlying357
 a64 := Tryz.isAgg357
 z64 := Tryz.sizeOf357
 v64 := Tryz.zeroValue357 }
end Go.Proofs
/- Ids of package hold: all numbers, rising. -/
namespace Go.Proofs.YtmgfakfiiaeofaaGreat.Ho
open Go.RowKit Go.Maps Go.Sort Go.Shelf
theorem sortsI (m : Nat) : AnyZI.SortsIn Tryz.prog Tryz.sortedA_ren Fence.wide m :=
 ⟨fun blk off cap ss W hH hblk hsz => callsIn_wide.2 (AnyM.slices_Sort_int Tryz.sortA blk off cap ss W hH hblk hsz),
  fun p cap W => callsIn_wide.2 (AnyM.slices_Sort_int_none Tryz.sortA p cap W)⟩
def idsD (D : DataW Unit) : List Int := (intKeys D).mergeSort (fun x y => decide (x <= y))
set_option maxRecDepth 100000 in
set_option maxHeartbeats 1000000 in
theorem Ids_any {w : World} {base tb mb : Nat} {D : DataW Unit} {T : Tab} (h : TAt w base tb mb D T) (hsz : Maps.size D < 1000000) :
 Calls Tryz.prog 47 #[.pointer (some ⟨tb, 0, none⟩)] w fun e w' => ∃ v, e = .returned v /\ w'.ownsRow w.heap.size 3 1 v (idsD D).length (ivs (idsD D)) /\ Below w.heap.size w w' := by
 have c0 : w.cell? ⟨tb, 0, none⟩ = some (.map (some mb)) := by simp [World.cell?, h.blk]
 have hown := h.map
 have hmax : Maps.size D <= maxLen := by unfold maxLen; omega
 have hbytes : Maps.size D * 8 <= 140737488355328 := by omega
 clear h
 refine (callsIn_wide (n := 6)).1 ?_
 have hbl := hown.lt
 have hseq : SeqGives Fence.wide 2 Tryz.prog 160 #[.pointer (some ⟨w.heap.size, 0, none⟩)] encZ (fun ss => ss.Perm (intKeys D)) (Maps.size D) (w.alloc (.cells #[.map (some mb)] 111)) :=
  AnyZI.keys_gives (ρ := Tryz.keysA_ren) { Tryz.keysA with } Fence.wide _ trivial rfl (by omega) w.heap.size mb _ D _ (by simp) (by simp) (by
   obtain ⟨es, clock, hb, Ft, hs, hD⟩ := hown
   exact ⟨es, clock, (Below.heap_alloc _ _ mb hbl).trans hb, Ft, hs, hD⟩)
 have cK : ∀ mb W, CallsIn Fence.wide 5 Tryz.prog 103 #[.map mb] W fun e w' => e = .returned (.func (.func 160) #[] #[.pointer (some ⟨W.heap.size, 0, none⟩)]) /\ w' = W.alloc (.cells #[.map mb] 111) := fun mb W => AnyZI.keys_in Tryz.keysA Fence.wide 5 trivial rfl mb W
 have cS := AnyZI.sorted_in Tryz.sortedA Fence.wide 5 trivial trivial trivial trivial rfl (by omega) (sortsI _) (enters_of Tryz.func159 (by kernel_rfl) rfl) 160 #[.pointer (some ⟨w.heap.size, 0, none⟩)] trivial (enters_of Tryz.func160 (by kernel_rfl) rfl) _ _ hmax hbytes _ hseq
 change CallsIn _ _ Tryz.prog 102 _ _ _ at cS
 have hfK : Fence.wide.fn 103 := trivial
 have hfS : Fence.wide.fn 102 := trivial
 refine callsIn_of_wp Tryz.func47 rfl trivial ?_ rfl
 simp only [Tryz.ntmps47, List.size_toArray, List.length_cons, List.length_nil, Nat.reduceAdd, Nat.reduceSub, Array.replicate_succ, Array.replicate_zero, List.push_toArray, List.append_toArray, List.nil_append, List.cons_append]
 clear hown hseq
 gi_wp2_with (first
  | (gi_at_call 103; refine (cK _ _).mono ?_; rintro e w' ⟨rfl, rfl⟩)
  | (gi_at_call 102; refine cS.mono ?_; rintro e w' ⟨v, ss, rfl, hS, hrow, hnil, hb⟩))
 go_ret
 refine ⟨v, rfl, ?_, ((Below.refl _ w).alloc (Nat.le_refl _) _).trans (hb.mono (by simp))⟩
 have hr := ownsRow_base_a hrow (show w.heap.size <= _ by simp)
 have e1 : ss.mergeSort (fun x y => decide (x <= y)) = idsD D := mergeSort_of_perm_i hS
 rw [e1] at hr
 have e2 : ss.length = (idsD D).length := by rw [<- e1, List.length_mergeSort]
 rw [e2] at hr
 exact hr
end Go.Proofs.YtmgfakfiiaeofaaGreat.Ho
/- Ids, Ticks and Drawn of a kernel. -/
namespace Go.Proofs.YtmgfakfiiaeofaaGreat.Ho
open Go.RowKit Go.Sort
open Go.Maps (Keyed)
theorem keysD {w : World} {base tb mb : Nat} {D : DataW Unit} {T : Tab} (h : TAt w base tb mb D T) : (intKeys D).Nodup /\ (∀ k, k ∈ intKeys D ↔ (T k).isSome = true) /\ (intKeys D).length = Maps.size D := by
 obtain ⟨es, hD, hpw, _⟩ := h.map.entries keyedI
 obtain ⟨es', hD', hko⟩ := h.map.keysOf
 obtain rfl : es = es' := by rw [hD] at hD'; simpa using hD'
 have hk : ∀ p ∈ es, ∃ x, p.1 = .int .i64 x := fun p hp => by obtain ⟨v, hv⟩ := hko p hp; obtain ⟨x, _, hx, _⟩ := Maps.keyOf_i64 ui hv; exact ⟨x, hx⟩
 have hhas := h.has
 rw [hD] at hhas |-
 refine ⟨?_, fun x => ?_, by rw [Maps.size_eq]; simp [intKeys]⟩
 · show (es.map fun p => Go.intOf p.1).Nodup
   refine List.pairwise_map.2 (hpw.imp_of_mem fun {p q} hp' hq' hne e => hne ?_)
   obtain ⟨a, ha⟩ := hk p hp'
   obtain ⟨b, hb⟩ := hk q hq'
   rw [ha, hb] at e |-
   exact congrArg _ e
 · rw [<- hhas x, Maps.has_eq, List.any_eq_true]
   show x ∈ (es.map fun p => Go.intOf p.1) ↔ _
   rw [List.mem_map]
   constructor
   · rintro ⟨p, hp', rfl⟩
     obtain ⟨a, ha⟩ := hk p hp'
     exact ⟨p, hp', by rw [ha]; simp [Lit.sameKey, Go.intOf]⟩
   · rintro ⟨p, hp', hs⟩
     obtain ⟨a, ha⟩ := hk p hp'
     rw [ha] at hs
     exact ⟨p, hp', by rw [ha]; simpa [Lit.sameKey, Go.intOf] using hs⟩
theorem ids_sorted {w : World} {base tb mb : Nat} {D : DataW Unit} {T : Tab} (h : TAt w base tb mb D T) : (idsD D).Pairwise (· < ·) /\ ∀ x, x ∈ idsD D ↔ (T x).isSome = true := by
 have hk := keysD h
 have hperm : (idsD D).Perm (intKeys D) := List.mergeSort_perm _ _
 have hnd : (idsD D).Nodup := (hperm.nodup_iff).2 hk.1
 have hle : (idsD D).Pairwise (fun x y => decide (x <= y) = true) := List.pairwise_mergeSort (fun a b c h1 h2 => by simp at *; omega) (fun a b => by simp; omega) _
 refine ⟨(List.Pairwise.and hle hnd).imp (fun h => by have := h.1; have := h.2; simp at *; omega), fun x => ?_⟩
 rw [hperm.mem_iff]
 exact hk.2.1 x
end Go.Proofs.YtmgfakfiiaeofaaGreat.Ho
namespace Go.Proofs.YtmgfakfiiaeofaaGreat
open Go.RowKit Go.Sort
set_option maxRecDepth 100000 in
theorem Ids_any {lo : Nat} {W : World} {K : Kn} (hK : KAt lo W K) (hz : Maps.size K.D < 1000000) : Calls Tryz.prog 21 #[.pointer (some ⟨K.kb, 0, none⟩)] W fun e W' => ∃ p c l, e = .returned (.slice p (List.length l) c) /\ Vw.IntsAt W' p l /\ (p = none -> c = 0) /\ l.Pairwise (· < ·) /\ (∀ x, x ∈ l ↔ (K.T x).isSome = true) /\ l.length < 1000000 /\ Below W.heap.size W W' := by
 have k0 : W.cell? ⟨K.kb, 0, none⟩ = some (.pointer (some ⟨K.tb, 0, none⟩)) := hK.cell 0
 have HI := Lib.hid (Ho.Ids_any hK.tab hz)
 have HS := Lib.hid (Ho.ids_sorted hK.tab)
 have HL : Hid ((Ho.idsD K.D).length < 1000000) := Lib.hid (by
  have hperm : (Ho.idsD K.D).Perm (intKeys K.D) := List.mergeSort_perm _ _
  rw [hperm.length_eq, (Ho.keysD hK.tab).2.2]; exact hz)
 clear hK
 go_enter Tryz.func21, Tryz.ntmps21
 go_wp2_with (go_at_call 47; refine HI.out.mono ?_; rintro e W2 ⟨v, rfl, hr, hb⟩)
 obtain ⟨p, c, hv, h1, h2, -⟩ := ints_of hr
 subst hv
 go_ret
 exact ⟨p, c, _, rfl, h1, h2, HS.out.1, HS.out.2, HL.out, hb⟩
set_option maxRecDepth 100000 in
theorem Ticks_any {lo : Nat} {W : World} {K : Kn} (hK : KAt lo W K) : Calls Tryz.prog 24 #[.pointer (some ⟨K.kb, 0, none⟩)] W fun e W' => e = .returned (.int .i64 K.ticks) /\ W' = W := by
 have k8 : W.cell? ⟨K.kb, 8, none⟩ = some (.int .i64 K.ticks) := hK.cell 8
 clear hK
 go_enter Tryz.func24, Tryz.ntmps24
 go_wp2
 go_ret
 exact ⟨rfl, rfl⟩
end Go.Proofs.YtmgfakfiiaeofaaGreat
namespace Go.Proofs.YtmgfakfiiaeofaaGreat.Ho
open Go.RowKit Go.Sort
theorem appI_at {X : World} {B : Nat} {v : Value} {l l' : List Int} {q : Option Addr} {c : Nat} (hown : X.ownsRow B 3 1 v l.length (ivs l)) (hs : SrcI X q l') (hl : l.length + l'.length < 1000000) (hB : B <= X.heap.size) (ty : TypeId) :
 ∃ v' X', (Builtin.append_ #[37, 37] ty #[v, .slice q l'.length c]).run Tryz.prog X = .ok v' X' /\ X'.ownsRow B 3 1 v' (l ++ l').length (ivs (l ++ l')) /\ X.grownBy X' v.ownBlock /\ (v'.ownBlock = v.ownBlock ∨ v'.ownBlock = some X.heap.size) := by
 obtain ⟨i0, hi, hz0, hz1, hz2⟩ := info_parts intInfo
 have hT : Tryz.prog.underlying 37 = some (.slice 3) := by kernel_rfl
 rcases hs with ⟨rfl, rfl⟩ | ⟨a, rfl, hc⟩
 · rw [List.append_nil]
   exact ⟨_, X, run_append_owned_none (P := Tryz.prog) X B 37 ty 3 i0 1 hT hi _ _ _ hown, hown, ⟨rfl, rfl, rfl, Nat.le_refl _, fun _ _ _ => rfl⟩, .inl rfl⟩
 · obtain ⟨v', w', hr, ho', hgw, _, hat⟩ := run_append_own_at (P := Tryz.prog) X B 37 ty 3 i0 (.int .i64 0) 1 8 hT hi hz0 hz1 hz2 rfl (by decide) v l.length (ivs l) hown a l'.length c (ivs l') (ivs_len _) hc (ivs_one _) (by unfold maxLen; omega) (by omega) hB
   exact ⟨v', w', hr, by rw [List.length_append, ivs_app]; exact ho', hgw, hat⟩
theorem wpList_appI {X : World} {ops : Array Oper} {rest : List Oper} {o : Oper} {a : Act} {Q : Exit -> Act -> World -> Prop} (hgd : o.guard = none) (s x : Operand)
 (ho : o.op = .call { callee := .builtin .append, args := #[s, x], argTypes := #[37, 37] }) (B : Nat) (v : Value) (l l' : List Int) (q : Option Addr) (c : Nat) (hs : a.eval s = v) (hown : X.ownsRow B 3 1 v l.length (ivs l)) (hx : a.eval x = .slice q l'.length c) (hsrc : SrcI X q l') (hl : l.length + l'.length < 1000000) (hB : B <= X.heap.size)
 (h : ∀ v' w', w'.ownsRow B 3 1 v' (l ++ l').length (ivs (l ++ l')) -> X.grownBy w' v.ownBlock -> (v'.ownBlock = v.ownBlock ∨ v'.ownBlock = some X.heap.size) -> wpList Tryz.prog ops Q rest (a.put o.dst v') w') : wpList Tryz.prog ops Q (o :: rest) a X := by
 obtain ⟨v', X', hr, ho', hg, hat⟩ := appI_at (c := c) hown hsrc hl hB o.type
 refine wpList_plain hgd fun K hK' => ?_
 unfold Oper.wp
 rw [exec_app ho hs hx hr]
 exact hK' _ _ (h v' X' ho' hg hat)
end Go.Proofs.YtmgfakfiiaeofaaGreat.Ho
