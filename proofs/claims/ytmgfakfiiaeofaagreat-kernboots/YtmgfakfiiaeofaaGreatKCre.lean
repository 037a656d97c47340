/- What create of package kern does with a segment. -/
import Derived.Test.YtmgfakfiiaeofaaGreatVwOb
import Derived.Test.YtmgfakfiiaeofaaGreatKBegin
/- Which call is done. -/
namespace Go.Proofs.YtmgfakfiiaeofaaGreat
open Go.RowKit Go.Sort
def rowsL : List Value := [.nilFunc, .func (.func 64) #[] #[], .func (.func 65) #[] #[], .func (.func 66) #[] #[], .func (.func 67) #[] #[], .func (.func 68) #[] #[], .func (.func 69) #[] #[], .func (.func 70) #[] #[], .func (.func 71) #[] #[], .func (.func 72) #[] #[], .func (.func 73) #[] #[], .func (.func 74) #[] #[], .func (.func 75) #[] #[], .func (.func 76) #[] #[], .func (.func 77) #[] #[], .func (.func 78) #[] #[], .func (.func 79) #[] #[], .func (.func 80) #[] #[], .func (.func 81) #[] #[], .func (.func 82) #[] #[], .func (.func 83) #[] #[], .func (.func 84) #[] #[], .func (.func 85) #[] #[], .func (.func 86) #[] #[], .func (.func 87) #[] #[], .func (.func 88) #[] #[], .func (.func 89) #[] #[], .func (.func 90) #[] #[], .func (.func 91) #[] #[], .func (.func 92) #[] #[], .func (.func 93) #[] #[], .func (.func 94) #[] #[], .func (.func 95) #[] #[]]
theorem infoR : (Tryz.prog.info? 161).map (·.size) = some 33 := by kernel_rfl
set_option maxRecDepth 100000 in
set_option maxHeartbeats 2000000 in
theorem rowOf_cell (w : World) : Calls Tryz.prog 29 #[.int .i64 5] w fun e w' => e = .returned (.func (.func 68) #[] #[]) /\ Below w.heap.size w w' := by
 have hl : rowsL.length = 33 := rfl
 have h1 : ∀ v ∈ rowsL, v.oneCell' = true := by decide
 have hg : rowsL[5]? = some (.func (.func 68) #[] #[]) := rfl
 have HI := Lib.hid infoR
 have HL : Hid (rowsL.toArray = #[.nilFunc, .func (.func 64) #[] #[], .func (.func 65) #[] #[], .func (.func 66) #[] #[], .func (.func 67) #[] #[], .func (.func 68) #[] #[], .func (.func 69) #[] #[], .func (.func 70) #[] #[], .func (.func 71) #[] #[], .func (.func 72) #[] #[], .func (.func 73) #[] #[], .func (.func 74) #[] #[], .func (.func 75) #[] #[], .func (.func 76) #[] #[], .func (.func 77) #[] #[], .func (.func 78) #[] #[], .func (.func 79) #[] #[], .func (.func 80) #[] #[], .func (.func 81) #[] #[], .func (.func 82) #[] #[], .func (.func 83) #[] #[], .func (.func 84) #[] #[], .func (.func 85) #[] #[], .func (.func 86) #[] #[], .func (.func 87) #[] #[], .func (.func 88) #[] #[], .func (.func 89) #[] #[], .func (.func 90) #[] #[], .func (.func 91) #[] #[], .func (.func 92) #[] #[], .func (.func 93) #[] #[], .func (.func 94) #[] #[], .func (.func 95) #[] #[]]) := Lib.hid rfl
 obtain ⟨RL, hRL⟩ : ∃ RL, rowsL = RL := ⟨_, rfl⟩
 rw [hRL] at hl h1 hg HL
 clear hRL
 go_enter Tryz.func29, Tryz.ntmps29
 go_wp2_with (refine Rg.wpList_store_new w _ _ rfl _ _ _ rfl RL rfl (congrArg Value.agg HL.out.symm) (by rw [hl]; rfl) (by rw [hl]; exact HI.out) h1 (fun W2 hB2 hA2 hs2 => ?_); refine Hid.out ?_)
 refine Lib.hid ?_
 have c : W2.cell? ⟨w.heap.size, 5, none⟩ = some (.func (.func 68) #[] #[]) := by
  have := hA2.cell hg
  rw [Nat.zero_add] at this; exact this
 have HB := Lib.hid hB2
 clear hB2 hA2 hs2 HL hl h1 hg
 go_wp2
 go_ret
 exact ⟨rfl, HB.out⟩
set_option maxRecDepth 100000 in
set_option maxHeartbeats 2000000 in
theorem rowOf_read (w : World) : Calls Tryz.prog 29 #[.int .i64 14] w fun e w' => e = .returned (.func (.func 77) #[] #[]) /\ Below w.heap.size w w' := by
 have hl : rowsL.length = 33 := rfl
 have h1 : ∀ v ∈ rowsL, v.oneCell' = true := by decide
 have hg : rowsL[14]? = some (.func (.func 77) #[] #[]) := rfl
 have HI := Lib.hid infoR
 have HL : Hid (rowsL.toArray = #[.nilFunc, .func (.func 64) #[] #[], .func (.func 65) #[] #[], .func (.func 66) #[] #[], .func (.func 67) #[] #[], .func (.func 68) #[] #[], .func (.func 69) #[] #[], .func (.func 70) #[] #[], .func (.func 71) #[] #[], .func (.func 72) #[] #[], .func (.func 73) #[] #[], .func (.func 74) #[] #[], .func (.func 75) #[] #[], .func (.func 76) #[] #[], .func (.func 77) #[] #[], .func (.func 78) #[] #[], .func (.func 79) #[] #[], .func (.func 80) #[] #[], .func (.func 81) #[] #[], .func (.func 82) #[] #[], .func (.func 83) #[] #[], .func (.func 84) #[] #[], .func (.func 85) #[] #[], .func (.func 86) #[] #[], .func (.func 87) #[] #[], .func (.func 88) #[] #[], .func (.func 89) #[] #[], .func (.func 90) #[] #[], .func (.func 91) #[] #[], .func (.func 92) #[] #[], .func (.func 93) #[] #[], .func (.func 94) #[] #[], .func (.func 95) #[] #[]]) := Lib.hid rfl
 obtain ⟨RL, hRL⟩ : ∃ RL, rowsL = RL := ⟨_, rfl⟩
 rw [hRL] at hl h1 hg HL
 clear hRL
 go_enter Tryz.func29, Tryz.ntmps29
 go_wp2_with (refine Rg.wpList_store_new w _ _ rfl _ _ _ rfl RL rfl (congrArg Value.agg HL.out.symm) (by rw [hl]; rfl) (by rw [hl]; exact HI.out) h1 (fun W2 hB2 hA2 hs2 => ?_); refine Hid.out ?_)
 refine Lib.hid ?_
 have c : W2.cell? ⟨w.heap.size, 14, none⟩ = some (.func (.func 77) #[] #[]) := by
  have := hA2.cell hg
  rw [Nat.zero_add] at this; exact this
 have HB := Lib.hid hB2
 clear hB2 hA2 hs2 HL hl h1 hg
 go_wp2
 go_ret
 exact ⟨rfl, HB.out⟩
set_option maxRecDepth 100000 in
set_option maxHeartbeats 2000000 in
theorem rowOf_write (w : World) : Calls Tryz.prog 29 #[.int .i64 15] w fun e w' => e = .returned (.func (.func 78) #[] #[]) /\ Below w.heap.size w w' := by
 have hl : rowsL.length = 33 := rfl
 have h1 : ∀ v ∈ rowsL, v.oneCell' = true := by decide
 have hg : rowsL[15]? = some (.func (.func 78) #[] #[]) := rfl
 have HI := Lib.hid infoR
 have HL : Hid (rowsL.toArray = #[.nilFunc, .func (.func 64) #[] #[], .func (.func 65) #[] #[], .func (.func 66) #[] #[], .func (.func 67) #[] #[], .func (.func 68) #[] #[], .func (.func 69) #[] #[], .func (.func 70) #[] #[], .func (.func 71) #[] #[], .func (.func 72) #[] #[], .func (.func 73) #[] #[], .func (.func 74) #[] #[], .func (.func 75) #[] #[], .func (.func 76) #[] #[], .func (.func 77) #[] #[], .func (.func 78) #[] #[], .func (.func 79) #[] #[], .func (.func 80) #[] #[], .func (.func 81) #[] #[], .func (.func 82) #[] #[], .func (.func 83) #[] #[], .func (.func 84) #[] #[], .func (.func 85) #[] #[], .func (.func 86) #[] #[], .func (.func 87) #[] #[], .func (.func 88) #[] #[], .func (.func 89) #[] #[], .func (.func 90) #[] #[], .func (.func 91) #[] #[], .func (.func 92) #[] #[], .func (.func 93) #[] #[], .func (.func 94) #[] #[], .func (.func 95) #[] #[]]) := Lib.hid rfl
 obtain ⟨RL, hRL⟩ : ∃ RL, rowsL = RL := ⟨_, rfl⟩
 rw [hRL] at hl h1 hg HL
 clear hRL
 go_enter Tryz.func29, Tryz.ntmps29
 go_wp2_with (refine Rg.wpList_store_new w _ _ rfl _ _ _ rfl RL rfl (congrArg Value.agg HL.out.symm) (by rw [hl]; rfl) (by rw [hl]; exact HI.out) h1 (fun W2 hB2 hA2 hs2 => ?_); refine Hid.out ?_)
 refine Lib.hid ?_
 have c : W2.cell? ⟨w.heap.size, 15, none⟩ = some (.func (.func 78) #[] #[]) := by
  have := hA2.cell hg
  rw [Nat.zero_add] at this; exact this
 have HB := Lib.hid hB2
 clear hB2 hA2 hs2 HL hl h1 hg
 go_wp2
 go_ret
 exact ⟨rfl, HB.out⟩
open Classical in
noncomputable def ownA (P : Nat -> Prop) (g : KTag) (own : Nat -> Option KTag) (k : Nat) : Option KTag := if P k then some g else own k
theorem ownA_yes {P : Nat -> Prop} {g : KTag} {own : Nat -> Option KTag} {k : Nat} (h : P k) : ownA P g own k = some g := by unfold ownA; rw [if_pos h]
theorem ownA_no {P : Nat -> Prop} {g : KTag} {own : Nat -> Option KTag} {k : Nat} (h : ¬ P k) : ownA P g own k = own k := by unfold ownA; rw [if_neg h]
theorem seg_own {W : World} {lo B : Nat} {d : List UInt8} {own own' : Nat -> Option KTag} {g : KTag} (h : SegAt W lo B d own g) (hk : ∀ k, own k = some g -> own' k = some g) : SegAt W lo B d own' g := by
 obtain ⟨ls, h0, h1, h2, h3⟩ := h
 exact ⟨ls, h0, hk B h1, fun x hx => hk _ (h2 x hx), fun c t f a n cp hc hs => hk _ (h3 c t f a n cp hc hs)⟩
theorem KAt.made {lo : Nat} {W W' : World} {K : Kn} (h : KAt lo W K) {D' : DataW Unit} {T' : Ho.Tab} (hT : Ho.TAt W' K.base K.tb K.mb D' T') (hF : Ho.Fm W W' (Ho.tfoot K.tb K.mb K.T) (Ho.tfoot K.tb K.mb T')) :
 KAt lo W' { K with D := D', T := T', own := ownA (Ho.tfoot K.tb K.mb T') .tab K.own } := by
 have hlo : lo <= W.heap.size := Nat.le_of_lt (Nat.lt_of_le_of_lt (h.lt K.kb (by rw [h.okb]; simp)).1 (h.lt K.kb (by rw [h.okb]; simp)).2)
 have nf : ∀ {k g}, K.own k = some g -> g ≠ .tab -> ¬ Ho.tfoot K.tb K.mb K.T k := fun {k g} e hg hf => hg (by rw [h.ot k hf] at e; exact (Option.some.inj e).symm)
 have nf' : ∀ {k g}, K.own k = some g -> g ≠ .tab -> ¬ Ho.tfoot K.tb K.mb T' k := fun {k g} e hg hf => by
  rcases hF.new k hf with h1 | h1
  · exact nf e hg h1
  · have := (h.lt k (by rw [e]; simp)).2; omega
 have ks : ∀ {k g}, K.own k = some g -> g ≠ .tab -> W'.heap[k]? = W.heap[k]? := fun {k g} e hg => hF.same k (h.lt k (by rw [e]; simp)).2 (nf e hg)
 have ko : ∀ {k g}, K.own k = some g -> g ≠ .tab -> ownA (Ho.tfoot K.tb K.mb T') .tab K.own k = some g := fun {k g} e hg => (ownA_no (nf' e hg)).trans e
 refine ⟨(ks h.okb (by simp)).trans h.blk, hT, h.rms.same hF.size (fun k _ hf => ks (h.orm k hf) (by simp)), h.mS.same (ks h.oS (by simp)), h.mT.same (ks h.oT (by simp)), h.mR.same (ks h.oR (by simp)), fun id B hB => ?_, fun id B hB => ?_, ko h.okb (by simp), fun k hf => ownA_yes hf, fun k hf => ko (h.orm k hf) (by simp), ko h.oS (by simp), ko h.oP (by simp), ko h.oT (by simp), ko h.oG (by simp), ko h.oD (by simp), ko h.oR (by simp), fun k hk => ?_⟩
 · obtain ⟨q1, q2, q3, q4, q5⟩ := h.thr id B hB
   exact ⟨(ks q2 (by simp)).trans q1, ko q2 (by simp), q3, lv_keep q4 hF.size (fun k e => ks (q5 k e) (by simp)), fun k e => ko (q5 k e) (by simp)⟩
 · obtain ⟨b, q1, q2⟩ := h.sgs id B hB
   exact ⟨b, q1, seg_own (seg_keep q2 (fun k e => ks e (by simp))) (fun k e => ko e (by simp))⟩
 · by_cases hf : Ho.tfoot K.tb K.mb T' k
   · refine ⟨?_, (hT.lt hf).2⟩
     rcases hF.new k hf with h1 | h1
     · exact (h.lt k (by rw [h.ot k h1]; simp)).1
     · omega
   · change ownA (Ho.tfoot K.tb K.mb T') .tab K.own k ≠ none at hk
     rw [ownA_no hf] at hk
     exact ⟨(h.lt k hk).1, Nat.lt_of_lt_of_le (h.lt k hk).2 hF.size⟩
theorem KAt.keepBut {lo : Nat} {W W' : World} {K : Kn} (h : KAt lo W K) {m : Nat} (hg : W.grownBy W' (some m)) : ∀ {k g}, K.own k = some g -> k ≠ m -> W'.heap[k]? = W.heap[k]? := fun {k _} e hk => hg.block k (h.lt k (by rw [e]; simp)).2 (fun e' => hk (Option.some.inj e'))
theorem KAt.drew {lo : Nat} {W W' : World} {K : Kn} (h : KAt lo W K) {n' : Nat} {S' : Int -> Bool} (hS : SAt W' K.mr n' S') (hg : W.grownBy W' (some K.mr)) : KAt lo W' { K with nR := n', S := S' } := by
 have hz := hg.size
 have ne : ∀ {k g}, K.own k = some g -> g ≠ .mp 7 -> k ≠ K.mr := fun {k g} e hg' hk => hg' (by rw [hk, h.oR] at e; exact (Option.some.inj e).symm)
 have ks : ∀ {k g}, K.own k = some g -> g ≠ .mp 7 -> W'.heap[k]? = W.heap[k]? := fun {k g} e hg' => h.keepBut hg e (ne e hg')
 refine ⟨(ks h.okb (by simp)).trans h.blk, h.tab.same (fun k hf => ks (h.ot k hf) (by simp)), h.rms.same hz (fun k _ hf => ks (h.orm k hf) (by simp)), h.mS.same (ks h.oS (by simp)), h.mT.same (ks h.oT (by simp)), hS, fun id B hB => ?_, fun id B hB => ?_, h.okb, h.ot, h.orm, h.oS, h.oP, h.oT, h.oG, h.oD, h.oR, fun k hk => ⟨(h.lt k hk).1, Nat.lt_of_lt_of_le (h.lt k hk).2 hz⟩⟩
 · obtain ⟨q1, q2, q3, q4, q5⟩ := h.thr id B hB
   exact ⟨(ks q2 (by simp)).trans q1, q2, q3, lv_keep q4 hz (fun k e => ks (q5 k e) (by simp)), q5⟩
 · obtain ⟨b, q1, q2⟩ := h.sgs id B hB
   exact ⟨b, q1, seg_keep q2 (fun k e => ks e (by simp))⟩
def segF (W : World) (B : Nat) (ls : List (Nat × Bool)) (k : Nat) : Prop := k = B ∨ (∃ x ∈ ls, x.1 = k) ∨ ∃ c t f a n cp, W.heap[B]? = some (.cells c t f) /\ c[1]? = some (.slice (some a) n cp) /\ a.block = k
theorem KAt.newSeg {lo : Nat} {W W' : World} {K : Kn} (h : KAt lo W K) {n' : Nat} {id : Int} {B b : Nat} {d : List UInt8} {ls : List (Nat × Bool)} (hS : Wa.MAt W' 3 K.ms n' (Wa.updF K.fS (Wa.ky id) (some B))) (hg : W.grownBy W' (some K.ms)) (hno : K.fS (Wa.ky id) = none) (hlo : lo <= b)
 (hB : Pg.BAt Pg.N0 W b B d ls) (hf : ∀ k, segF W B ls k -> K.own k = none /\ lo <= k /\ k < W.heap.size) :
 KAt lo W' { K with nS := n', fS := Wa.updF K.fS (Wa.ky id) (some B), sd := fun i => if i = id then d else K.sd i, own := ownA (segF W B ls) (.sg id) K.own } := by
 have hz := hg.size
 have ne : ∀ {k g}, K.own k = some g -> g ≠ .mp 2 -> k ≠ K.ms := fun {k g} e hg' hk => hg' (by rw [hk, h.oS] at e; exact (Option.some.inj e).symm)
 have ks : ∀ {k g}, K.own k = some g -> g ≠ .mp 2 -> W'.heap[k]? = W.heap[k]? := fun {k g} e hg' => h.keepBut hg e (ne e hg')
 have ko : ∀ {k g}, K.own k = some g -> ownA (segF W B ls) (.sg id) K.own k = some g := fun {k g} e => (ownA_no (fun hk => by rw [(hf k hk).1] at e; cases e)).trans e
 have nms : ∀ k, segF W B ls k -> k ≠ K.ms := fun k hk e => by have := (hf k hk).1; rw [e, h.oS] at this; cases this
 have kf : ∀ k, segF W B ls k -> W'.heap[k]? = W.heap[k]? := fun k hk => hg.block k (hf k hk).2.2 (fun e => nms k hk (Option.some.inj e))
 refine ⟨(ks h.okb (by simp)).trans h.blk, h.tab.same (fun k hf' => ks (h.ot k hf') (by simp)), h.rms.same hz (fun k _ hf' => ks (h.orm k hf') (by simp)), hS, h.mT.same (ks h.oT (by simp)), h.mR.same (ks h.oR (by simp)), fun i C hC => ?_, fun i C hC => ?_, ko h.okb, fun k hf' => ko (h.ot k hf'), fun k hf' => ko (h.orm k hf'), ko h.oS, ko h.oP, ko h.oT, ko h.oG, ko h.oD, ko h.oR, fun k hk => ?_⟩
 · obtain ⟨q1, q2, q3, q4, q5⟩ := h.thr i C hC
   exact ⟨(ks q2 (by simp)).trans q1, ko q2, q3, lv_keep q4 hz (fun k e => ks (q5 k e) (by simp)), fun k e => ko (q5 k e)⟩
 · change Wa.updF K.fS (Wa.ky id) (some B) (Wa.ky i) = some C at hC
   by_cases hi : i = id
   · subst hi
     have hCB : C = B := by unfold Wa.updF at hC; rw [if_pos rfl] at hC; exact (Option.some.inj hC).symm
     subst hCB
     refine ⟨b, hlo, ?_⟩
     show SegAt W' b C (if i = i then d else K.sd i) _ _
     rw [if_pos rfl]
     have hs : SegAt W b C d (ownA (segF W C ls) (.sg i) K.own) (.sg i) := ⟨ls, hB, ownA_yes (.inl rfl), fun x hx => ownA_yes (.inr (.inl ⟨x, hx, rfl⟩)), fun c t f a n cp hc hs => ownA_yes (.inr (.inr ⟨c, t, f, a, n, cp, hc, hs, rfl⟩))⟩
     refine seg_keep hs (fun k e => ?_)
     by_cases hk : segF W C ls k
     · exact kf k hk
     · change ownA (segF W C ls) (.sg i) K.own k = some (.sg i) at e
       rw [ownA_no hk] at e; exact ks e (by simp)
   · have hne : Wa.ky i ≠ Wa.ky id := fun e => hi (by injection e)
     have hC' : K.fS (Wa.ky i) = some C := by unfold Wa.updF at hC; rwa [if_neg hne] at hC
     obtain ⟨b', q1, q2⟩ := h.sgs i C hC'
     refine ⟨b', q1, ?_⟩
     show SegAt W' b' C (if i = id then d else K.sd i) _ _
     rw [if_neg hi]
     exact seg_own (seg_keep q2 (fun k e => ks e (by simp))) (fun k e => ko e)
 · by_cases hk' : segF W B ls k
   · exact ⟨(hf k hk').2.1, Nat.lt_of_lt_of_le (hf k hk').2.2 hz⟩
   · change ownA (segF W B ls) (.sg id) K.own k ≠ none at hk
     rw [ownA_no hk'] at hk
     exact ⟨(h.lt k hk).1, Nat.lt_of_lt_of_le (h.lt k hk).2 hz⟩
theorem unitE_inv {v : Value} {d : DataW Unit} {ps : List MemPlace} (h : unitE v = some (d, ps)) : v = .agg #[] := by
 unfold unitE at h
 split at h
 · split at h
   · rename_i cs hc
     rw [Array.size_eq_zero_iff.1 hc]
   · cases h
 · cases h
theorem SAt.look {w : World} {m n : Nat} {S : Int -> Bool} (h : SAt w m n S) (x : Int) (hx : Wa.i64 x) : (Instr.lookup 79 (.map (some m)) (.int .i64 x) true).run Tryz.prog w = .ok (.tuple #[.agg #[], .bool (S x)]) w := by
 obtain ⟨D, h1, _, h3⟩ := h
 obtain ⟨v, ps, hrun, hv⟩ := World.ownsMap.look_ok h1 keyedI umU (z := .agg #[]) (by kernel_rfl) (zd := .agg []) (zp := []) rfl (Wa.keyI hx)
 rw [hrun, unitE_inv hv, h3]
set_option maxRecDepth 100000 in
theorem Drawn_any {lo : Nat} {W : World} {K : Kn} (hK : KAt lo W K) (x : Int) (hx : Wa.i64 x) : Calls Tryz.prog 8 #[.pointer (some ⟨K.kb, 0, none⟩), .int .i64 x] W fun e W' => e = .returned (.bool (K.S x)) /\ Below W.heap.size W W' := by
 have k7 : W.cell? ⟨K.kb, 7, none⟩ = some (.map (some K.mr)) := hK.cell 7
 have hl := hK.mR.look x hx
 clear hK
 go_enter Tryz.func8, Tryz.ntmps8
 go_wp2
 go_ret
 exact ⟨rfl, by first | exact (Below.refl _ _).alloc (Nat.le_refl _) _ | go_grown⟩
set_option maxRecDepth 100000 in
set_option maxHeartbeats 1000000 in
theorem mayLink_any {lo cb : Nat} {W : World} {K : Kn} {x : Ask} {y : Who} {dr : Int} (hC : ClAt W cb K.kb x y dr) (hK : KAt lo W K) (hTh : K.fT (Wa.ky y.id) = some y.B) (xs : List (Int × Int)) (hw : Pa.LV (y.d, xs) (.agg #[.int .i64 y.d, y.v]) W)
 (i0 i1 i2 i3 i4 bd : Int) (bv : Value) (bx : List (Int × Int)) (hb : Pa.LV (bd, bx) (.agg #[.int .i64 bd, bv]) W) (ld : Int) (lv : Value) (lx : List (Int × Int)) (hl : Pa.LV (ld, lx) (.agg #[.int .i64 ld, lv]) W) :
 Calls Tryz.prog 131 #[.pointer (some ⟨cb, 0, none⟩), .agg #[.int .i64 i0, .int .i64 i1, .int .i64 i2, .int .i64 i3, .int .i64 i4, .int .i64 bd, bv], .agg #[.int .i64 ld, lv]] W fun e W' => e = .returned (.int .i64 (Pa.makeI (y.d, xs) ((K.th y.id).cd, (K.th y.id).xs) (bd, bx) (ld, lx))) /\ Below W.heap.size W W' := by
 obtain ⟨pb, cpb, hbv, hb1, hb2, hb3⟩ := id hb
 obtain ⟨pl, cpl, hlv, hl1, hl2, hl3⟩ := id hl
 simp at hbv hlv
 subst hbv
 subst hlv
 obtain ⟨W0, hW0⟩ : ∃ W0, (W.alloc (.cells #[.int .i64 i0, .int .i64 i1, .int .i64 i2, .int .i64 i3, .int .i64 i4, .int .i64 bd, .slice pb bx.length cpb] 89)).alloc (.cells #[.int .i64 ld, .slice pl lx.length cpl] 46) = W0 := ⟨_, rfl⟩
 have hb0 : Below W.heap.size W W0 := by rw [<- hW0]; go_grown
 have hi4 : W0.heap[W.heap.size]? = some (.cells #[.int .i64 i0, .int .i64 i1, .int .i64 i2, .int .i64 i3, .int .i64 i4, .int .i64 bd, .slice pb bx.length cpb] 89 (0, 0)) := by rw [<- hW0]; rw [Below.heap_alloc _ _ _ (by simp)]; exact heap_alloc_new _ _
 have hi5 : W0.heap[W.heap.size + 1]? = some (.cells #[.int .i64 ld, .slice pl lx.length cpl] 46 (0, 0)) := by rw [<- hW0]; have := heap_alloc_new (W.alloc (.cells #[.int .i64 i0, .int .i64 i1, .int .i64 i2, .int .i64 i3, .int .i64 i4, .int .i64 bd, .slice pb bx.length cpb] 89)) (.cells #[.int .i64 ld, .slice pl lx.length cpl] 46); rwa [show (W.alloc (.cells #[.int .i64 i0, .int .i64 i1, .int .i64 i2, .int .i64 i3, .int .i64 i4, .int .i64 bd, .slice pb bx.length cpb] 89)).heap.size = W.heap.size + 1 from by simp] at this
 have hC0 := hC.below hb0
 have hK0 := hK.below hb0
 obtain ⟨t1, -, -, t4, -⟩ := hK0.thr y.id y.B hTh
 have q5 : W0.cell? ⟨W.heap.size, 5, none⟩ = some (.int .i64 bd) := by simp [World.cell?, hi4]
 have q6 : W0.cell? ⟨W.heap.size, 6, none⟩ = some (.slice pb bx.length cpb) := by simp [World.cell?, hi4]
 have p0 : W0.cell? ⟨W.heap.size + 1, 0, none⟩ = some (.int .i64 ld) := by simp [World.cell?, hi5]
 have p1 : W0.cell? ⟨W.heap.size + 1, 1, none⟩ = some (.slice pl lx.length cpl) := by simp [World.cell?, hi5]
 have w21 : W0.cell? ⟨cb, 21, none⟩ = some (.pointer (some ⟨y.B, 0, none⟩)) := hC0.cell 21
 have w23 : W0.cell? ⟨cb, 23, none⟩ = some (.int .i64 y.d) := hC0.cell 23
 have w24 : W0.cell? ⟨cb, 24, none⟩ = some y.v := hC0.cell 24
 have th0 : W0.cell? ⟨y.B, 0, none⟩ = some (.int .i64 (K.th y.id).cd) := by simp [World.cell?, t1, thC]
 have th1 : W0.cell? ⟨y.B, 1, none⟩ = some (K.th y.id).cv := by simp [World.cell?, t1, thC]
 have HM := Lib.hid (fun n => Pa.Make_c (w := W0.drewN n) ((hw.below hb0).below (drew_below _ W0 n)) (t4.below (drew_below _ W0 n)) ((hb.below hb0).below (drew_below _ W0 n)) ((hl.below hb0).below (drew_below _ W0 n)))
 have HB0 := Lib.hid hb0
 clear hC hK hC0 hK0 t1 t4 hw hb hl hb0 hi4 hi5 hb1 hb2 hb3 hl1 hl2 hl3
 go_enter Tryz.func131, Tryz.ntmps131
 go_upto_region 1 with fail
 clear hW0
 refine Ko.wp_region_tail_d 16 (by kernel_rfl) (by kernel_rfl) ?_
 simp only [List.take_succ_cons, List.take_zero, List.drop_succ_cons, List.drop_zero]
 repeat (go_big_quiet_step (fail))
 refine wpQuiet_nil ?_
 intro _ hw'
 obtain ⟨nz, hw''⟩ := hw'
 subst hw''
 go_wp2_with (go_at_call 179; refine (HM.out _).mono ?_; rintro e W1 ⟨v', rfl, hb1, rfl⟩)
 go_ret
 exact ⟨rfl, HB0.out.trans (((drew_below _ W0 nz).trans hb1).mono HB0.out.size)⟩
set_option maxRecDepth 100000 in
set_option maxHeartbeats 1000000 in
theorem mayCreate_any {lo cb : Nat} {W : World} {K : Kn} {x : Ask} {y : Who} {dr : Int} (hC : ClAt W cb K.kb x y dr) (hK : KAt lo W K) (hTh : K.fT (Wa.ky y.id) = some y.B) (kd id : Int) (h4 : kd ≠ 4) (h5 : kd ≠ 5) (hid : Ho.i64 id) (r : Ho.Rc) (hT : K.T id = some r) (hk : r.ob.kind = 1) (hl : r.ob.cats.length <= 16)
 (xs : List (Int × Int)) (hw : Pa.LV (y.d, xs) (.agg #[.int .i64 y.d, y.v]) W) (hs : Pa.seesS y.d r.ob.df xs r.ob.cats = true) (lx : List (Int × Int)) (hL : Pa.LV (x.ld, lx) (.agg #[.int .i64 x.ld, x.lv]) W) (hf : Pa.freeS x.ld lx = true) :
 Calls Tryz.prog 176 #[.pointer (some ⟨cb, 0, none⟩), .int .i64 kd, .int .i64 id] W fun e W' => e = .returned (.int .i64 (Pa.makeI (y.d, xs) ((K.th y.id).cd, (K.th y.id).xs) (r.ob.df, r.ob.cats) (x.ld, lx))) /\ Below W.heap.size W W' := by
 have HCo := Lib.hid (container_ok hC hK id hid r hT hk hl xs hw hs)
 have HC := Lib.hid hC
 have HK := Lib.hid hK
 have HW := Lib.hid hw
 have HL := Lib.hid hL
 have hb4 : (kd != 4) = true := by simpa using h4
 have hb5 : (kd != 5) = true := by simpa using h5
 clear hC hK hw hL
 go_enter Tryz.func176, Tryz.ntmps176
 go_wp2_with (go_at_call 130; refine HCo.out.mono ?_; rintro e W1 ⟨v, rfl, hlv1, hb1⟩; refine Hid.out ?_)
 refine Lib.hid ?_
 have hlv0 := hlv1
 obtain ⟨pv1, cv1, hv1, hv2, hv3, hv4⟩ := hlv0
 simp at hv1
 subst hv1
 have HLv := Lib.hid hlv1
 unfold Ho.infoV
 rw [hk]
 have Hk := Lib.hid hk
 clear hk
 obtain ⟨W2, hW2⟩ : ∃ W2, W1.alloc (.cells #[.int .i64 r.ob.id, .int .i64 1, .int .i64 r.ob.quota, .int .i64 r.ob.used, .int .i64 r.ob.links, .int .i64 r.ob.df, .slice pv1 r.ob.cats.length cv1] 89) = W2 := ⟨_, rfl⟩
 have hb2 : Below W1.heap.size W1 W2 := by rw [<- hW2]; exact (Below.refl _ _).alloc (Nat.le_refl _) _
 have hi7 : W2.heap[W1.heap.size]? = some (.cells #[.int .i64 r.ob.id, .int .i64 1, .int .i64 r.ob.quota, .int .i64 r.ob.used, .int .i64 r.ob.links, .int .i64 r.ob.df, .slice pv1 r.ob.cats.length cv1] 89 (0, 0)) := by rw [<- hW2]; exact heap_alloc_new _ _
 have hz7 : W1.heap.size < W2.heap.size := by rw [<- hW2]; simp
 have hb02 : Below W.heap.size W W2 := hb1.trans (hb2.mono hb1.size)
 obtain ⟨i7, hi7e⟩ : ∃ i7, W1.heap.size = i7 := ⟨_, rfl⟩
 have HLv2 := Lib.hid (hlv1.below hb2)
 have HC2 := Lib.hid (HC.out.below hb02)
 have HK2 := Lib.hid (HK.out.below hb02)
 have HW2 := Lib.hid (HW.out.below hb02)
 have hL2 := HL.out.below hb02
 have HL2 := Lib.hid hL2
 have HB2 := Lib.hid hb02
 rw [hi7e] at hi7 hz7
 have c9 : W2.cell? ⟨cb, 9, none⟩ = some (.int .i64 x.ld) := HC2.out.cell 9
 have c10 : W2.cell? ⟨cb, 10, none⟩ = some x.lv := HC2.out.cell 10
 have HFr := Lib.hid (Pa.Free_c hL2)
 clear hb1 hb2 hb02 hL2 hlv1 hv2 hv3 hv4 HCo
 go_upto_region 4 with fail
 clear hW2 hi7e
 go_wp2_with (go_at_call 174; refine HFr.out.mono ?_; rintro e W3 ⟨v', rfl, hb3, rfl⟩; rw [hf]; refine Hid.out ?_)
 refine Lib.hid ?_
 have hb03 : Below W.heap.size W W3 := HB2.out.trans (hb3.mono HB2.out.size)
 obtain ⟨⟨z0, z1, z2, z3, z4, z5, z6⟩, -⟩ := info7 ((hb3.block i7 hz7).trans hi7)
 have d9 : W3.cell? ⟨cb, 9, none⟩ = some (.int .i64 x.ld) := (HC.out.below hb03).cell 9
 have d10 : W3.cell? ⟨cb, 10, none⟩ = some x.lv := (HC.out.below hb03).cell 10
 have HM := Lib.hid (fun n => mayLink_any (W := W3.drewN n) ((HC.out.below hb03).below (drew_below _ W3 n)) ((HK.out.below hb03).below (drew_below _ W3 n)) hTh xs ((HW.out.below hb03).below (drew_below _ W3 n)) r.ob.id 1 r.ob.quota r.ob.used r.ob.links r.ob.df _ r.ob.cats ((HLv2.out.below hb3).below (drew_below _ W3 n)) x.ld _ lx ((HL.out.below hb03).below (drew_below _ W3 n)))
 have HB3 := Lib.hid hb03
 clear hb3 hb03 c9 c10 hi7 hz7
 go_upto_region 7 with fail
 refine Ko.wp_region_tail_d 7 (by kernel_rfl) (by kernel_rfl) ?_
 simp only [List.take_succ_cons, List.take_zero, List.drop_succ_cons, List.drop_zero]
 repeat (go_big_quiet_step (fail))
 refine wpQuiet_nil ?_
 intro _ hw'
 obtain ⟨nz, hw''⟩ := hw'
 subst hw''
 go_wp2_with (go_at_call 131; refine (HM.out _).mono ?_; rintro e W4 ⟨rfl, hb4'⟩)
 go_ret
 exact ⟨rfl, HB3.out.trans (((drew_below _ W3 nz).trans hb4').mono HB3.out.size)⟩
def toldZ : Array Value := #[.int .i64 0, .string ⟨#[]⟩, .int .i64 0, .slice none 0 0, .int .i64 0, .slice none 0 0, .slice none 0 0, .slice none 0 0]
theorem Pg.BAt.below' {W : World} {b B : Nat} {d : List UInt8} {ls : List (Nat × Bool)} (h : Pg.BAt Pg.N0 W b B d ls) (W' : World) (he : W'.heap = W.heap) : Pg.BAt Pg.N0 W' b B d ls := by
 obtain ⟨v, hv, hrow⟩ := h.blk
 refine ⟨⟨v, by rw [he]; exact hv, hrow.1, ?_⟩, fun i x hi => ⟨by rw [he]; exact (h.pgs i x hi).1, (h.pgs i x hi).2⟩, h.dis, h.len, h.cnt, h.bb, ⟨fun _ h => h.elim, fun _ _ h => h, fun _ _ _ _ _ _ _ _ h => h⟩⟩
 rcases hrow.2 with h | ⟨g, cap, cur, e, q1, q2, q3⟩
 · exact .inl h
 · exact .inr ⟨g, cap, cur, e, q1, by rw [he]; exact q2, q3⟩
theorem bat_keep {W W' : World} {b B : Nat} {d : List UInt8} {ls : List (Nat × Bool)} (h : Pg.BAt Pg.N0 W b B d ls) (hk : ∀ k, segF W B ls k -> W'.heap[k]? = W.heap[k]?) : Pg.BAt Pg.N0 W' b B d ls := by
 obtain ⟨v, hv, hrow⟩ := h.blk
 refine ⟨⟨v, (hk B (.inl rfl)).trans hv, hrow.1, ?_⟩, fun i x hi => ⟨(hk x.1 (.inr (.inl ⟨x, List.mem_of_getElem? hi, rfl⟩))).trans (h.pgs i x hi).1, (h.pgs i x hi).2⟩, h.dis, h.len, h.cnt, h.bb, ⟨fun _ h => h.elim, fun _ _ h => h, fun _ _ _ _ _ _ _ _ h => h⟩⟩
 rcases hrow.2 with h | ⟨g, cap, cur, e, q1, q2, q3⟩
 · exact .inl h
 · exact .inr ⟨g, cap, cur, e, q1, (hk g (.inr (.inr ⟨_, _, _, ⟨g, 0, none⟩, ls.length, cap, hv, by rw [e]; rfl, rfl⟩))).trans q2, q3⟩
theorem segF_same {W W' : World} {B : Nat} {ls : List (Nat × Bool)} {k : Nat} (hB : W'.heap[B]? = W.heap[B]?) (h : segF W' B ls k) : segF W B ls k := by
 rcases h with h | h | ⟨c, t, f, a, n, cp, h1, h2, h3⟩
 · exact .inl h
 · exact .inr (.inl h)
 · exact .inr (.inr ⟨c, t, f, a, n, cp, hB.symm.trans h1, h2, h3⟩)
set_option maxRecDepth 100000 in
theorem cell1_any {lo cb p1 p4 : Nat} {W : World} {K : Kn} {x : Ask} {y : Who} {dr : Int} (hC : ClAt W cb K.kb x y dr) (hK : KAt lo W K) (h1 : W.cell? ⟨p1, 0, none⟩ = some (.pointer (some ⟨cb, 0, none⟩))) (B : Nat) (h4 : W.cell? ⟨p4, 0, none⟩ = some (.pointer (some ⟨B, 0, none⟩))) (id : Int) (hid : Wa.i64 id) (hno : K.fS (Wa.ky id) = none) (hn : K.nS < 1000000)
 (b : Nat) (hlo : lo <= b) (d : List UInt8) (ls : List (Nat × Bool)) (hB : Pg.BAt Pg.N0 W b B d ls) (hf : ∀ k, segF W B ls k -> K.own k = none /\ lo <= k /\ k < W.heap.size) :
 Calls Tryz.prog 123 #[.int .i64 id, .pointer (some ⟨p4, 0, none⟩), .pointer (some ⟨p1, 0, none⟩)] W fun e W' => e = .returned (.tuple #[]) /\ KAt lo W' { K with nS := K.nS + 1, fS := Wa.updF K.fS (Wa.ky id) (some B), sd := fun i => if i = id then d else K.sd i, own := ownA (segF W B ls) (.sg id) K.own } /\ Below lo W W' /\ ∀ k, k < W.heap.size -> k ≠ K.ms -> W'.heap[k]? = W.heap[k]? := by
 have c0 : W.cell? ⟨cb, 0, none⟩ = some (.pointer (some ⟨K.kb, 0, none⟩)) := hC.cell 0
 have k2 : W.cell? ⟨K.kb, 2, none⟩ = some (.map (some K.ms)) := hK.cell 2
 have HK := Lib.hid hK
 have HF := Lib.hid hf
 have HB := Lib.hid hB
 have Hlo := Lib.hid hlo
 clear hC hK hf hB hlo
 go_enter Tryz.func123, Tryz.ntmps123
 go_upto_region 0 with fail
 refine Ko.wp_region_tail_d 9 (by kernel_rfl) (by kernel_rfl) ?_
 simp only [List.take_succ_cons, List.take_zero, List.drop_succ_cons, List.drop_zero]
 repeat (go_big_quiet_step (fail))
 refine wpQuiet_nil ?_
 intro _ hw'
 obtain ⟨nz, hw''⟩ := hw'
 subst hw''
 have hKn := HK.out.below (drew_below _ W nz)
 obtain ⟨X', hrun, hM', hgr, hsz⟩ := hKn.mS.put (T := 62) (e := 142) keyedI (by kernel_rfl) hn (Wa.keyI hid) B
 rw [hno] at hM'
 have hK' := hKn.newSeg (id := id) (b := b) (d := d) (ls := ls) (n' := K.nS + 1) (by simpa using hM') hgr hno Hlo.out (Pg.BAt.below' HB.out (W.drewN nz) rfl) HF.out
 have hlo' : lo <= K.ms := (HK.out.lt K.ms (by rw [HK.out.oS]; simp)).1
 have hb' : Below lo W X' := (drew_below lo W nz).trans ((Wa.Fm.of_grown hgr).below (Nat.le_of_lt (Nat.lt_of_le_of_lt hlo' (HK.out.lt K.ms (by rw [HK.out.oS]; simp)).2)) (fun k hk e => by omega))
 have HK' := Lib.hid hK'
 have HOt : Hid (∀ k, k < W.heap.size -> k ≠ K.ms -> X'.heap[k]? = W.heap[k]?) := Lib.hid (fun k h1 h2 => hgr.block k h1 (fun e => h2 (Option.some.inj e)))
 have HB' := Lib.hid hb'
 clear hM' hgr hsz hK' hb' hKn
 go_wp2
 exact bodyPost_end (v := .tuple #[]) (by simp [results, Tryz.results123]) rfl ⟨rfl, HK'.out, HB'.out, HOt.out⟩
end Go.Proofs.YtmgfakfiiaeofaaGreat
