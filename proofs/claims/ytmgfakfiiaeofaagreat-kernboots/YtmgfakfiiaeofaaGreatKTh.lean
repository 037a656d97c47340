/- What tellThread of package kern adds of a thread that has just begun. -/
import Derived.Test.YtmgfakfiiaeofaaGreatSq
import Derived.Test.YtmgfakfiiaeofaaGreatKoCst
import Derived.Test.YtmgfakfiiaeofaaGreatWaAlr
import Derived.Test.YtmgfakfiiaeofaaGreatKBegin
namespace Go.Proofs.YtmgfakfiiaeofaaGreat
open Go.RowKit Go.Sort
def tellT (b : Ho.Ob) (p : Option Addr) (cap : Nat) : Vw.Ob := { tellO b p cap with C := ⟨4, none, 0, []⟩ }
theorem infoRef : (Tryz.prog.info? 43).map (·.size) = some 2 := by kernel_rfl
theorem infoLab : (Tryz.prog.info? 46).map (·.size) = some 2 := by kernel_rfl
theorem infoSta : (Tryz.prog.info? 68).map (·.size) = some 17 := by kernel_rfl
def z17 : List Value := [.int .u64 0, .int .u64 0, .int .u64 0, .int .u64 0, .int .u64 0, .int .u64 0, .int .u64 0, .int .u64 0, .int .u64 0, .int .u64 0, .int .u64 0, .int .u64 0, .int .u64 0, .int .u64 0, .int .u64 0, .int .u64 0, .int .u64 0]
theorem exec_call1 {o : Oper} {ev : Operand -> Value} {f : Nat} {x0 : Operand} {ts : Array TypeId} {v0 : Value} {w : World} (ho : o.op = .call { callee := .value (.func f), args := #[x0], argTypes := ts }) (hf : ev (.func f) = .func (.func f) #[] #[]) (h0 : ev x0 = v0) (eg : ∀ args w, (callFunc f args).run Tryz.prog w = .ok (.enter f args) w) : (execOp ev o).run Tryz.prog w = .ok (.enter f #[v0]) w := by
 unfold execOp
 simp [ho, resolve, invoke, hf, h0, eg, go_sem]
theorem exec_load_mid {P : Program} {ρ : Operand -> Value} {o : Oper} {ty : TypeId} {x : Operand} (ho : o.op = .load ty x) {b off : Nat} {cs : List Value} {d : TypeDesc} {w : World} (hx : ρ x = .pointer (some ⟨b, off, none⟩)) (hc : w.rangeAt b off cs) (hu : P.underlying ty = some d) (hd : d.isRow = true) (hi : (P.info? ty).map (·.size) = some cs.length) :
 (execOp ρ o).run P w = .ok (.value (.agg cs.toArray)) w := by
 unfold execOp
 simp only [ho, hx, Instr.loadAt, Instr.sureAddr, Sem.run_bind, Sem.run_pure, Result.andThen_ok, run_loadVar_mid w b off ty cs d hc hu hd hi]
theorem at_cell {w : World} {b : Nat} {L : List Value} (h : Rg.At w b 0 L) {j : Nat} {v : Value} (hv : L[j]? = some v) : w.cell? ⟨b, j, none⟩ = some v := by
 have := h.cell hv
 rwa [Nat.zero_add] at this
theorem at_fz {w : World} {b : Nat} {L : List Value} (h : Rg.At w b 0 L) {j : Nat} (hj : j < L.length) : w.frozen? ⟨b, j, none⟩ = false := by
 have := h.fz j hj
 rwa [Nat.zero_add] at this
def LfT (ob : Ho.Ob) (sp : Option Addr) (c : Nat) (b : Bool) : List Value := match b with | false => (tellO ob sp c).cl | true => (tellT ob sp c).cl
theorem KAt.oth {lo : Nat} {W X : World} {K : Kn} (h : KAt lo W K) {b : Nat} (hb : K.own b = none) (hO : Rg.Oth b W X) : KAt lo X K :=
 h.keep hO.size (fun k hk => hO.block k (h.lt k hk).2 (fun e => by rw [e] at hk; exact hk hb))
set_option maxRecDepth 100000 in
set_option maxHeartbeats 8000000 in
theorem tellThread_new {lo : Nat} {W : World} {K : Kn} (hK : KAt lo W K) (x : Int) (hx : Wa.i64 x) (B : Nat) (hT : K.fT (Wa.ky x) = some B) (hth : K.th x = ⟨4, .slice none 0 0, [], 0, 0, List.replicate 17 0, false⟩) (hw : Wa.whereA K.all x = none) (hal : K.al x = [])
 (ob : Ho.Ob) (sp : Option Addr) (c : Nat) (hid : ob.id = x) (b8 : Nat) (hb8 : K.own b8 = none) (hA : Rg.At W b8 0 (tellO ob sp c).cl) :
 Calls Tryz.prog 53 #[.pointer (some ⟨K.kb, 0, none⟩), .pointer (some ⟨b8, 0, none⟩)] W fun e W' => e = .returned (.tuple #[]) /\ Rg.Oth b8 W W' /\ Rg.At W' b8 0 (tellT ob sp c).cl := by
 have hlk : ∀ X, KAt lo X K -> (Instr.lookup 71 (.map (some K.mt)) (.int .i64 x) false).run Tryz.prog X = .ok (.pointer (some ⟨B, 0, none⟩)) X := fun X hX => by
  have h5 := hX.mT.look (T := 71) (e := 64) keyedI (by kernel_rfl) (by kernel_rfl) (Wa.keyI hx)
  rw [hT] at h5
  exact h5
 have HK := Lib.hid hK
 have Hb8 := Lib.hid hb8
 have hbz : b8 < W.heap.size := hA.lt (by rw [show (tellO ob sp c).cl.length = 38 from rfl]; decide)
 have HA := Lib.hid hA
 obtain ⟨t1, t2, t3, t4, t5⟩ := hK.thr x B hT
 have hBn : B ≠ b8 := fun e => by rw [e, hb8] at t2; cases t2
 have hBz : B < W.heap.size := (Array.getElem?_eq_some_iff.1 t1).1
 have hkz : K.kb < W.heap.size := (Array.getElem?_eq_some_iff.1 hK.blk).1
 have hkn : K.kb ≠ b8 := fun e => by have := hK.okb; rw [e, hb8] at this; cases this
 have k4 : W.cell? ⟨K.kb, 4, none⟩ = some (.map (some K.mt)) := hK.cell 4
 have o0 : W.cell? ⟨b8, 0, none⟩ = some (.int .i64 x) := by
  have := hA.cell (j := 0) (v := .int .i64 x) (by rw [<- hid]; rfl)
  rwa [Nat.zero_add] at this
 have hl0 : ∀ n, (Instr.lookup 71 (.map (some K.mt)) (.int .i64 x) false).run Tryz.prog (W.drewN n) = .ok (.pointer (some ⟨B, 0, none⟩)) (W.drewN n) := fun n => hlk _ (hK.below ⟨rfl, rfl, rfl, Nat.le_refl _, fun _ _ => rfl⟩)
 have HLk := Lib.hid hlk
 have HT1 := Lib.hid t1
 rw [hth] at t1
 have HF : Hid (∀ Y : World, Y.heap[B]? = W.heap[B]? -> (Y.cell? ⟨B, 0, none⟩ = some (.int .i64 4) /\ Y.cell? ⟨B, 1, none⟩ = some (.slice none 0 0) /\ Y.cell? ⟨B, 2, none⟩ = some (.int .i64 0) /\ Y.cell? ⟨B, 3, none⟩ = some (.int .i64 0)) /\ Y.rangeAt B 4 z17) := Lib.hid (fun Y hY => by
  have e := hY.trans t1
  refine ⟨⟨by simp [World.cell?, e, thC], by simp [World.cell?, e, thC], by simp [World.cell?, e, thC], by simp [World.cell?, e, thC]⟩, fun j v hv => ?_⟩
  have hj : j < 17 := (List.getElem?_eq_some_iff.1 hv).1
  have e2 : z17 = ((thC ⟨4, .slice none 0 0, [], 0, 0, List.replicate 17 0, false⟩).toList.drop 4).take 17 := rfl
  rw [e2, List.getElem?_take_of_lt hj, List.getElem?_drop] at hv
  simp only [World.cell?, e]
  rw [<- Array.getElem?_toList]
  exact hv)
 have HTh := Lib.hid hth
 have HLen : Hid (∀ bq : Bool, (LfT ob sp c bq).length = 38) := Lib.hid (fun bq => by cases bq <;> rfl)
 have HS18 : Hid (∀ bq : Bool, (LfT ob sp c bq).take 10 ++ [.int .i64 4, .slice none 0 0] ++ (LfT ob sp c bq).drop (10 + [(.int .i64 4 : Value), .slice none 0 0].length) = LfT ob sp c true) := Lib.hid (fun bq => by cases bq <;> rfl)
 have HS21 : Hid (∀ bq : Bool, (LfT ob sp c bq).take 12 ++ [.int .i64 0, .int .i64 0] ++ (LfT ob sp c bq).drop (12 + [(.int .i64 0 : Value), .int .i64 0].length) = LfT ob sp c bq) := Lib.hid (fun bq => by cases bq <;> rfl)
 have HS24 : Hid (∀ bq : Bool, (LfT ob sp c bq).take 14 ++ z17 ++ (LfT ob sp c bq).drop (14 + z17.length) = LfT ob sp c bq) := Lib.hid (fun bq => by cases bq <;> rfl)
 have HLT : Hid ((tellT ob sp c).cl.length = 38) := Lib.hid rfl
 have HLen2 : Hid (∀ bq : Bool, ((fun _ : Bool => (tellT ob sp c).cl) bq).length = 38) := Lib.hid (fun _ => rfl)
 have HT33 : Hid (∀ bq : Bool, ((fun _ : Bool => (tellT ob sp c).cl) bq).take 33 ++ [.int .i64 0] ++ ((fun _ : Bool => (tellT ob sp c).cl) bq).drop (33 + [(.int .i64 0 : Value)].length) = (tellT ob sp c).cl) := Lib.hid (fun _ => rfl)
 have HT34 : Hid (∀ bq : Bool, ((fun _ : Bool => (tellT ob sp c).cl) bq).take 34 ++ [.int .i64 0] ++ ((fun _ : Bool => (tellT ob sp c).cl) bq).drop (34 + [(.int .i64 0 : Value)].length) = (tellT ob sp c).cl) := Lib.hid (fun _ => rfl)
 have HT35 : Hid (∀ bq : Bool, ((fun _ : Bool => (tellT ob sp c).cl) bq).take 35 ++ [.slice none 0 0] ++ ((fun _ : Bool => (tellT ob sp c).cl) bq).drop (35 + [(.slice none 0 0 : Value)].length) = (tellT ob sp c).cl) := Lib.hid (fun _ => rfl)
 have HTid : Hid ((tellT ob sp c).cl[0]? = some (.int .i64 x)) := Lib.hid (by rw [<- hid]; rfl)
 have HT32 : Hid ((tellT ob sp c).cl[32]? = some (.int .i64 0) /\ (tellT ob sp c).cl.set 32 (.int .i64 0) = (tellT ob sp c).cl) := Lib.hid ⟨rfl, rfl⟩
 have HP : Hid (∀ bq : Bool, (LfT ob sp c bq)[0]? = some (.int .i64 x)) := Lib.hid (fun bq => by rw [<- hid]; cases bq <;> rfl)
 have Hbz := Lib.hid hbz
 have HBn := Lib.hid hBn
 have HBz := Lib.hid hBz
 have Hkz := Lib.hid hkz
 have Hkn := Lib.hid hkn
 have HW := Lib.hid hw
 have HAl := Lib.hid hal
 have HTf := Lib.hid hT
 have HId := Lib.hid hid
 clear hlk hA hK hb8 t2 t3 t4 t5 hth hw hal hT hid
 go_enter Tryz.func53, Tryz.ntmps53
 go_upto_region 0 with fail
 refine Ko.wp_region_tail_d 10 (by kernel_rfl) (by kernel_rfl) ?_
 simp only [List.take_succ_cons, List.take_zero, List.drop_succ_cons, List.drop_zero]
 repeat (go_big_quiet_step (fail))
 refine wpQuiet_nil ?_
 intro _ hw'
 obtain ⟨nz, hw''⟩ := hw'
 subst hw''
 clear hl0 k4 o0 t1 hbz hBn hBz hkz hkn
 obtain ⟨W1, hW1⟩ : ∃ W1, W.drewN nz = W1 := ⟨_, rfl⟩
 have HO1 : Hid (Rg.Oth b8 W W1) := Lib.hid (by rw [<- hW1]; exact Rg.Oth.drewN _ _ _)
 have HA1 : Hid (Rg.At W1 b8 0 (tellO ob sp c).cl) := Lib.hid (by rw [<- hW1]; exact HA.out.of_block rfl)
 rw [hW1]
 clear hW1 HA
 have HZ1 : Hid (b8 < W1.heap.size) := Lib.hid (Nat.lt_of_lt_of_le Hbz.out HO1.out.size)
 have HZB1 : Hid (B < W1.heap.size) := Lib.hid (Nat.lt_of_lt_of_le HBz.out HO1.out.size)
 have HWB1 : Hid (W1.heap[B]? = W.heap[B]?) := Lib.hid (HO1.out.block B HBz.out HBn.out)
 have HAt0 : Hid (Rg.At W1 b8 0 (LfT ob sp c false)) := HA1
 have HInf18 := Lib.hid infoLab
 have HInf21 := Lib.hid infoRef
 have HInf24 := Lib.hid infoSta
 go_upto_region 1 with fail
 refine Ko.wp_region_cst (fun d => match d with | 15 => .pointer (some ⟨b8, 0, none⟩) | 16 => .pointer (some ⟨b8, 0, none⟩) | 17 => .pointer (some ⟨b8, 0, none⟩) | 18 => .pointer (some ⟨B, 0, none⟩) | 19 => .pointer (some ⟨B, 0, none⟩) | 20 => .pointer (some ⟨B, 0, none⟩) | 21 => .agg #[.int .i64 4, .slice none 0 0] | 22 => .agg #[.int .i64 4, .slice none 0 0] | 23 => .pointer (some ⟨B, 0, none⟩) | 24 => .pointer (some ⟨B, 0, none⟩) | 25 => .pointer (some ⟨B, 2, none⟩) | 26 => .agg #[.int .i64 0, .int .i64 0] | 27 => .pointer (some ⟨B, 0, none⟩) | 28 => .pointer (some ⟨B, 0, none⟩) | 29 => .pointer (some ⟨B, 4, none⟩) | 30 => .agg z17.toArray | 31 => .pointer (some ⟨b8, 0, none⟩) | 32 => .pointer (some ⟨b8, 10, none⟩) | 33 => .pointer (some ⟨b8, 0, none⟩) | 34 => .pointer (some ⟨b8, 12, none⟩) | 35 => .pointer (some ⟨b8, 0, none⟩) | 36 => .pointer (some ⟨b8, 14, none⟩) | _ => undef) (fun li Wq => Rg.Oth b8 W1 Wq /\ Rg.At Wq b8 0 (LfT ob sp c (li.getD 18 false))) (by kernel_rfl) (by kernel_rfl) (by kernel_rfl) ?_ ?_ ?_
 · exact ⟨⟨rfl, rfl, rfl, Nat.le_refl _, fun _ _ _ => rfl⟩, HAt0.out.of_block rfl⟩
 · intro a' X li hJ hs hk i o ho hli hdn hG hcb
   obtain ⟨hO, hA⟩ := hJ
   match i, ho with
   | 0, ho =>
    cases ho
    have g1 : a'.eval (.tmp 1) = .pointer (some ⟨b8, 0, none⟩) := hk 1 (by kernel_rfl)
    generalize a'.eval = ev at g1 |-
    refine ⟨rfl, .inl ⟨15, X, rfl, ?_, fun li' h1 h2 => ⟨hO, by rw [h2 18 (by decide)]; exact hA⟩⟩⟩
    clear hG hk hdn hcb hO hA hs
    go_simp
   | 1, ho =>
    cases ho
    have g1 : a'.eval (.tmp 1) = .pointer (some ⟨b8, 0, none⟩) := hk 1 (by kernel_rfl)
    generalize a'.eval = ev at g1 |-
    refine ⟨rfl, .inl ⟨16, X, rfl, ?_, fun li' h1 h2 => ⟨hO, by rw [h2 18 (by decide)]; exact hA⟩⟩⟩
    clear hG hk hdn hcb hO hA hs
    go_simp
   | 2, ho =>
    cases ho
    have g1 : a'.eval (.tmp 1) = .pointer (some ⟨b8, 0, none⟩) := hk 1 (by kernel_rfl)
    generalize a'.eval = ev at g1 |-
    refine ⟨rfl, .inl ⟨17, X, rfl, ?_, fun li' h1 h2 => ⟨hO, by rw [h2 18 (by decide)]; exact hA⟩⟩⟩
    clear hG hk hdn hcb hO hA hs
    go_simp
   | 3, ho =>
    cases ho
    have g4 : a'.eval (.tmp 4) = .pointer (some ⟨B, 0, none⟩) := hk 4 (by kernel_rfl)
    generalize a'.eval = ev at g4 |-
    refine ⟨rfl, .inl ⟨18, X, rfl, ?_, fun li' h1 h2 => ⟨hO, by rw [h2 18 (by decide)]; exact hA⟩⟩⟩
    clear hG hk hdn hcb hO hA hs
    go_simp
   | 4, ho =>
    cases ho
    have g18 : a'.eval (.tmp 18) = .pointer (some ⟨B, 0, none⟩) := hG 3 18 (hdn ⟨3, .data⟩ (by simp) rfl) rfl
    generalize a'.eval = ev at g18 |-
    refine ⟨rfl, .inl ⟨19, X, rfl, ?_, fun li' h1 h2 => ⟨hO, by rw [h2 18 (by decide)]; exact hA⟩⟩⟩
    clear hG hk hdn hcb hO hA hs
    go_simp
   | 5, ho =>
    cases ho
    have g19 : a'.eval (.tmp 19) = .pointer (some ⟨B, 0, none⟩) := hG 4 19 (hdn ⟨4, .data⟩ (by simp) rfl) rfl
    generalize a'.eval = ev at g19 |-
    refine ⟨rfl, .inl ⟨20, X, rfl, ?_, fun li' h1 h2 => ⟨hO, by rw [h2 18 (by decide)]; exact hA⟩⟩⟩
    clear hG hk hdn hcb hO hA hs
    go_simp
   | 6, ho =>
    cases ho
    have g20 : a'.eval (.tmp 20) = .pointer (some ⟨B, 0, none⟩) := hG 5 20 (hdn ⟨5, .data⟩ (by simp) rfl) rfl
    have hh : ∀ k, k < W1.heap.size -> k ≠ b8 -> X.heap[k]? = W1.heap[k]? := hO.block
    obtain ⟨⟨x0, x1, x2, x3⟩, x4⟩ := HF.out X ((hO.block B HZB1.out HBn.out).trans HWB1.out)
    generalize a'.eval = ev at g20 |-
    refine ⟨rfl, .inl ⟨21, X, rfl, ?_, fun li' h1 h2 => ⟨hO, by rw [h2 18 (by decide)]; exact hA⟩⟩⟩
    clear hG hk hdn hcb hO hA hs
    go_simp
   | 7, ho =>
    cases ho
    have g21 : a'.eval (.tmp 21) = .agg #[.int .i64 4, .slice none 0 0] := hG 6 21 (hdn ⟨6, .data⟩ (by simp) rfl) rfl
    have hbX := Nat.lt_of_lt_of_le HZ1.out hO.size
    refine ⟨rfl, .inr (.inr ⟨22, 54, #[.agg #[.int .i64 4, .slice none 0 0]], rfl, ?_, ?_⟩)⟩
    · have gF : a'.eval (.func 54) = .func (.func 54) #[] #[] := rfl
      generalize a'.eval = ev at gF g21 |-
      exact exec_call1 rfl gF g21 (enters_of Tryz.func54 (by kernel_rfl) rfl)
    · refine (copied_nil 4 X).mono ?_
      rintro e W4 ⟨rfl, p1⟩
      exact ⟨rfl, fun li' h1 h2 => ⟨hO.trans (Rg.Oth.of_below p1), by rw [h2 18 (by decide)]; exact hA.of_block (p1.block b8 hbX)⟩⟩
   | 8, ho =>
    cases ho
    have g4 : a'.eval (.tmp 4) = .pointer (some ⟨B, 0, none⟩) := hk 4 (by kernel_rfl)
    generalize a'.eval = ev at g4 |-
    refine ⟨rfl, .inl ⟨23, X, rfl, ?_, fun li' h1 h2 => ⟨hO, by rw [h2 18 (by decide)]; exact hA⟩⟩⟩
    clear hG hk hdn hcb hO hA hs
    go_simp
   | 9, ho =>
    cases ho
    have g23 : a'.eval (.tmp 23) = .pointer (some ⟨B, 0, none⟩) := hG 8 23 (hdn ⟨8, .data⟩ (by simp) rfl) rfl
    generalize a'.eval = ev at g23 |-
    refine ⟨rfl, .inl ⟨24, X, rfl, ?_, fun li' h1 h2 => ⟨hO, by rw [h2 18 (by decide)]; exact hA⟩⟩⟩
    clear hG hk hdn hcb hO hA hs
    go_simp
   | 10, ho =>
    cases ho
    have g24 : a'.eval (.tmp 24) = .pointer (some ⟨B, 0, none⟩) := hG 9 24 (hdn ⟨9, .data⟩ (by simp) rfl) rfl
    generalize a'.eval = ev at g24 |-
    refine ⟨rfl, .inl ⟨25, X, rfl, ?_, fun li' h1 h2 => ⟨hO, by rw [h2 18 (by decide)]; exact hA⟩⟩⟩
    clear hG hk hdn hcb hO hA hs
    go_simp
   | 11, ho =>
    cases ho
    have g25 : a'.eval (.tmp 25) = .pointer (some ⟨B, 2, none⟩) := hG 10 25 (hdn ⟨10, .data⟩ (by simp) rfl) rfl
    have hh : ∀ k, k < W1.heap.size -> k ≠ b8 -> X.heap[k]? = W1.heap[k]? := hO.block
    obtain ⟨⟨x0, x1, x2, x3⟩, x4⟩ := HF.out X ((hO.block B HZB1.out HBn.out).trans HWB1.out)
    generalize a'.eval = ev at g25 |-
    refine ⟨rfl, .inl ⟨26, X, rfl, ?_, fun li' h1 h2 => ⟨hO, by rw [h2 18 (by decide)]; exact hA⟩⟩⟩
    clear hG hk hdn hcb hO hA hs
    go_simp
   | 12, ho =>
    cases ho
    have g4 : a'.eval (.tmp 4) = .pointer (some ⟨B, 0, none⟩) := hk 4 (by kernel_rfl)
    generalize a'.eval = ev at g4 |-
    refine ⟨rfl, .inl ⟨27, X, rfl, ?_, fun li' h1 h2 => ⟨hO, by rw [h2 18 (by decide)]; exact hA⟩⟩⟩
    clear hG hk hdn hcb hO hA hs
    go_simp
   | 13, ho =>
    cases ho
    have g27 : a'.eval (.tmp 27) = .pointer (some ⟨B, 0, none⟩) := hG 12 27 (hdn ⟨12, .data⟩ (by simp) rfl) rfl
    generalize a'.eval = ev at g27 |-
    refine ⟨rfl, .inl ⟨28, X, rfl, ?_, fun li' h1 h2 => ⟨hO, by rw [h2 18 (by decide)]; exact hA⟩⟩⟩
    clear hG hk hdn hcb hO hA hs
    go_simp
   | 14, ho =>
    cases ho
    have g28 : a'.eval (.tmp 28) = .pointer (some ⟨B, 0, none⟩) := hG 13 28 (hdn ⟨13, .data⟩ (by simp) rfl) rfl
    generalize a'.eval = ev at g28 |-
    refine ⟨rfl, .inl ⟨29, X, rfl, ?_, fun li' h1 h2 => ⟨hO, by rw [h2 18 (by decide)]; exact hA⟩⟩⟩
    clear hG hk hdn hcb hO hA hs
    go_simp
   | 15, ho =>
    cases ho
    have g29 : a'.eval (.tmp 29) = .pointer (some ⟨B, 4, none⟩) := hG 14 29 (hdn ⟨14, .data⟩ (by simp) rfl) rfl
    obtain ⟨-, x4⟩ := HF.out X ((hO.block B HZB1.out HBn.out).trans HWB1.out)
    refine ⟨rfl, .inl ⟨30, X, rfl, ?_, fun li' h1 h2 => ⟨hO, by rw [h2 18 (by decide)]; exact hA⟩⟩⟩
    clear hG hk hdn hcb hO hA hs
    exact exec_load_mid rfl g29 x4 Tryz.underlying68 rfl HInf24.out
   | 16, ho =>
    cases ho
    have g15 : a'.eval (.tmp 15) = .pointer (some ⟨b8, 0, none⟩) := hG 0 15 (hdn ⟨0, .data⟩ (by simp) rfl) rfl
    generalize a'.eval = ev at g15 |-
    refine ⟨rfl, .inl ⟨31, X, rfl, ?_, fun li' h1 h2 => ⟨hO, by rw [h2 18 (by decide)]; exact hA⟩⟩⟩
    clear hG hk hdn hcb hO hA hs
    go_simp
   | 17, ho =>
    cases ho
    have g31 : a'.eval (.tmp 31) = .pointer (some ⟨b8, 0, none⟩) := hG 16 31 (hdn ⟨16, .data⟩ (by simp) rfl) rfl
    generalize a'.eval = ev at g31 |-
    refine ⟨rfl, .inl ⟨32, X, rfl, ?_, fun li' h1 h2 => ⟨hO, by rw [h2 18 (by decide)]; exact hA⟩⟩⟩
    clear hG hk hdn hcb hO hA hs
    go_simp
   | 18, ho =>
    cases ho
    have g22 : a'.eval (.tmp 22) = .agg #[.int .i64 4, .slice none 0 0] := hG 7 22 (hdn ⟨7, .data⟩ (by simp) rfl) rfl
    have g32 : a'.eval (.tmp 32) = .pointer (some ⟨b8, 10, none⟩) := hG 17 32 (hdn ⟨17, .data⟩ (by simp) rfl) rfl
    obtain ⟨bq, hbq⟩ : ∃ bq, li.getD 18 false = bq := ⟨_, rfl⟩
    rw [hbq] at hA
    have hA2 := put_at hA (i := 10) (vs := [.int .i64 4, .slice none 0 0]) (by rw [HLen.out bq]; decide) (HS18.out bq)
    refine ⟨rfl, .inr (.inl ⟨X.setCells b8 10 [.int .i64 4, .slice none 0 0], rfl, ?_, fun li' h1 h2 => ⟨hO.trans (Rg.Oth.setCells _ _ _ _), by rw [h1]; exact hA2⟩⟩)⟩
    have hth : X.there b8 10 2 := fun j hj => by have := hA.there (10 + j) (by rw [HLen.out bq]; omega); rwa [Nat.zero_add] at this
    clear hG hk hdn hcb hO hA2 hA hbq
    exact exec_store_mid rfl g32 g22 (by exact hth) HInf18.out (all_oneCell_toArray (cs := [.int .i64 4, .slice none 0 0]) (by decide))
   | 19, ho =>
    cases ho
    have g16 : a'.eval (.tmp 16) = .pointer (some ⟨b8, 0, none⟩) := hG 1 16 (hdn ⟨1, .data⟩ (by simp) rfl) rfl
    generalize a'.eval = ev at g16 |-
    refine ⟨rfl, .inl ⟨33, X, rfl, ?_, fun li' h1 h2 => ⟨hO, by rw [h2 18 (by decide)]; exact hA⟩⟩⟩
    clear hG hk hdn hcb hO hA hs
    go_simp
   | 20, ho =>
    cases ho
    have g33 : a'.eval (.tmp 33) = .pointer (some ⟨b8, 0, none⟩) := hG 19 33 (hdn ⟨19, .data⟩ (by simp) rfl) rfl
    generalize a'.eval = ev at g33 |-
    refine ⟨rfl, .inl ⟨34, X, rfl, ?_, fun li' h1 h2 => ⟨hO, by rw [h2 18 (by decide)]; exact hA⟩⟩⟩
    clear hG hk hdn hcb hO hA hs
    go_simp
   | 21, ho =>
    cases ho
    have g26 : a'.eval (.tmp 26) = .agg #[.int .i64 0, .int .i64 0] := hG 11 26 (hdn ⟨11, .data⟩ (by simp) rfl) rfl
    have g34 : a'.eval (.tmp 34) = .pointer (some ⟨b8, 12, none⟩) := hG 20 34 (hdn ⟨20, .data⟩ (by simp) rfl) rfl
    obtain ⟨bq, hbq⟩ : ∃ bq, li.getD 18 false = bq := ⟨_, rfl⟩
    rw [hbq] at hA
    have hA2 := put_at hA (i := 12) (vs := [.int .i64 0, .int .i64 0]) (by rw [HLen.out bq]; decide) (HS21.out bq)
    refine ⟨rfl, .inr (.inl ⟨X.setCells b8 12 [.int .i64 0, .int .i64 0], rfl, ?_, fun li' h1 h2 => ⟨hO.trans (Rg.Oth.setCells _ _ _ _), by rw [h2 18 (by decide), hbq]; exact hA2⟩⟩)⟩
    have hth : X.there b8 12 2 := fun j hj => by have := hA.there (12 + j) (by rw [HLen.out bq]; omega); rwa [Nat.zero_add] at this
    clear hG hk hdn hcb hO hA2 hA hbq
    exact exec_store_mid rfl g34 g26 (by exact hth) HInf21.out (all_oneCell_toArray (cs := [.int .i64 0, .int .i64 0]) (by decide))
   | 22, ho =>
    cases ho
    have g17 : a'.eval (.tmp 17) = .pointer (some ⟨b8, 0, none⟩) := hG 2 17 (hdn ⟨2, .data⟩ (by simp) rfl) rfl
    generalize a'.eval = ev at g17 |-
    refine ⟨rfl, .inl ⟨35, X, rfl, ?_, fun li' h1 h2 => ⟨hO, by rw [h2 18 (by decide)]; exact hA⟩⟩⟩
    clear hG hk hdn hcb hO hA hs
    go_simp
   | 23, ho =>
    cases ho
    have g35 : a'.eval (.tmp 35) = .pointer (some ⟨b8, 0, none⟩) := hG 22 35 (hdn ⟨22, .data⟩ (by simp) rfl) rfl
    generalize a'.eval = ev at g35 |-
    refine ⟨rfl, .inl ⟨36, X, rfl, ?_, fun li' h1 h2 => ⟨hO, by rw [h2 18 (by decide)]; exact hA⟩⟩⟩
    clear hG hk hdn hcb hO hA hs
    go_simp
   | 24, ho =>
    cases ho
    have g30 : a'.eval (.tmp 30) = .agg z17.toArray := hG 15 30 (hdn ⟨15, .data⟩ (by simp) rfl) rfl
    have g36 : a'.eval (.tmp 36) = .pointer (some ⟨b8, 14, none⟩) := hG 23 36 (hdn ⟨23, .data⟩ (by simp) rfl) rfl
    obtain ⟨bq, hbq⟩ : ∃ bq, li.getD 18 false = bq := ⟨_, rfl⟩
    rw [hbq] at hA
    have hA2 := put_at hA (i := 14) (vs := z17) (by rw [HLen.out bq]; decide) (HS24.out bq)
    refine ⟨rfl, .inr (.inl ⟨X.setCells b8 14 z17, rfl, ?_, fun li' h1 h2 => ⟨hO.trans (Rg.Oth.setCells _ _ _ _), by rw [h2 18 (by decide), hbq]; exact hA2⟩⟩)⟩
    have hth : X.there b8 14 17 := fun j hj => by have := hA.there (14 + j) (by rw [HLen.out bq]; omega); rwa [Nat.zero_add] at this
    clear hG hk hdn hcb hO hA2 hA hbq
    exact exec_store_mid rfl g36 g30 (by exact hth) HInf24.out (all_oneCell_toArray (cs := z17) (by decide))
   | j + 25, ho => simp at ho
 · intro a' X li hJ hs hdf hk hall hG
   obtain ⟨hO, hA⟩ := hJ
   rw [hall 18 (by decide)] at hA
   obtain ⟨tm, df⟩ := a'
   obtain rfl : df = [] := hdf
   have htm := arr3 [.pointer (some ⟨K.kb, 0, none⟩), .pointer (some ⟨b8, 0, none⟩), undef, undef, .pointer (some ⟨B, 0, none⟩), .pointer (some ⟨K.kb, 0, none⟩), .pointer (some ⟨K.kb, 0, none⟩), .pointer (some ⟨K.kb, 4, none⟩), .map (some K.mt), .pointer (some ⟨b8, 0, none⟩), .pointer (some ⟨b8, 0, none⟩), .pointer (some ⟨b8, 0, none⟩), .pointer (some ⟨b8, 0, none⟩), .int .i64 x, .pointer (some ⟨B, 0, none⟩), .pointer (some ⟨b8, 0, none⟩), .pointer (some ⟨b8, 0, none⟩), .pointer (some ⟨b8, 0, none⟩), .pointer (some ⟨B, 0, none⟩), .pointer (some ⟨B, 0, none⟩), .pointer (some ⟨B, 0, none⟩), .agg #[.int .i64 4, .slice none 0 0], .agg #[.int .i64 4, .slice none 0 0], .pointer (some ⟨B, 0, none⟩), .pointer (some ⟨B, 0, none⟩), .pointer (some ⟨B, 2, none⟩), .agg #[.int .i64 0, .int .i64 0], .pointer (some ⟨B, 0, none⟩), .pointer (some ⟨B, 0, none⟩), .pointer (some ⟨B, 4, none⟩), .agg z17.toArray, .pointer (some ⟨b8, 0, none⟩), .pointer (some ⟨b8, 10, none⟩), .pointer (some ⟨b8, 0, none⟩), .pointer (some ⟨b8, 12, none⟩), .pointer (some ⟨b8, 0, none⟩), .pointer (some ⟨b8, 14, none⟩), undef, undef, undef, undef, undef, undef, undef, undef, undef, undef, undef, undef, undef, undef, undef, undef, undef, undef, undef, undef, undef, undef, undef, undef, undef, undef, undef, undef, undef, undef, undef, undef, undef, undef, undef, undef, undef, undef, undef, undef, undef, undef, undef] hs (ae 1 (by exact hk 0 rfl) (ae 2 (by exact hk 1 rfl) (ae 3 (by exact hk 2 rfl) (ae 4 (by exact hk 3 rfl) (ae 5 (by exact hk 4 rfl) (ae 6 (by exact hk 5 rfl) (ae 7 (by exact hk 6 rfl) (ae 8 (by exact hk 7 rfl) (ae 9 (by exact hk 8 rfl) (ae 10 (by exact hk 9 rfl) (ae 11 (by exact hk 10 rfl) (ae 12 (by exact hk 11 rfl) (ae 13 (by exact hk 12 rfl) (ae 14 (by exact hk 13 rfl) (ae 15 (by exact hk 14 rfl) (ae 16 (by exact hG 0 15 (by decide) rfl) (ae 17 (by exact hG 1 16 (by decide) rfl) (ae 18 (by exact hG 2 17 (by decide) rfl) (ae 19 (by exact hG 3 18 (by decide) rfl) (ae 20 (by exact hG 4 19 (by decide) rfl) (ae 21 (by exact hG 5 20 (by decide) rfl) (ae 22 (by exact hG 6 21 (by decide) rfl) (ae 23 (by exact hG 7 22 (by decide) rfl) (ae 24 (by exact hG 8 23 (by decide) rfl) (ae 25 (by exact hG 9 24 (by decide) rfl) (ae 26 (by exact hG 10 25 (by decide) rfl) (ae 27 (by exact hG 11 26 (by decide) rfl) (ae 28 (by exact hG 12 27 (by decide) rfl) (ae 29 (by exact hG 13 28 (by decide) rfl) (ae 30 (by exact hG 14 29 (by decide) rfl) (ae 31 (by exact hG 15 30 (by decide) rfl) (ae 32 (by exact hG 16 31 (by decide) rfl) (ae 33 (by exact hG 17 32 (by decide) rfl) (ae 34 (by exact hG 19 33 (by decide) rfl) (ae 35 (by exact hG 20 34 (by decide) rfl) (ae 36 (by exact hG 22 35 (by decide) rfl) (ae 37 (by exact hG 23 36 (by decide) rfl) (ae 38 (by exact hk 37 rfl) (ae 39 (by exact hk 38 rfl) (ae 40 (by exact hk 39 rfl) (ae 41 (by exact hk 40 rfl) (ae 42 (by exact hk 41 rfl) (ae 43 (by exact hk 42 rfl) (ae 44 (by exact hk 43 rfl) (ae 45 (by exact hk 44 rfl) (ae 46 (by exact hk 45 rfl) (ae 47 (by exact hk 46 rfl) (ae 48 (by exact hk 47 rfl) (ae 49 (by exact hk 48 rfl) (ae 50 (by exact hk 49 rfl) (ae 51 (by exact hk 50 rfl) (ae 52 (by exact hk 51 rfl) (ae 53 (by exact hk 52 rfl) (ae 54 (by exact hk 53 rfl) (ae 55 (by exact hk 54 rfl) (ae 56 (by exact hk 55 rfl) (ae 57 (by exact hk 56 rfl) (ae 58 (by exact hk 57 rfl) (ae 59 (by exact hk 58 rfl) (ae 60 (by exact hk 59 rfl) (ae 61 (by exact hk 60 rfl) (ae 62 (by exact hk 61 rfl) (ae 63 (by exact hk 62 rfl) (ae 64 (by exact hk 63 rfl) (ae 65 (by exact hk 64 rfl) (ae 66 (by exact hk 65 rfl) (ae 67 (by exact hk 66 rfl) (ae 68 (by exact hk 67 rfl) (ae 69 (by exact hk 68 rfl) (ae 70 (by exact hk 69 rfl) (ae 71 (by exact hk 70 rfl) (ae 72 (by exact hk 71 rfl) (ae 73 (by exact hk 72 rfl) (ae 74 (by exact hk 73 rfl) (ae 75 (by exact hk 74 rfl) (ae 76 (by exact hk 75 rfl) (ae 77 (by exact hk 76 rfl) (ae 78 (by exact hk 77 rfl) (ae 79 (by exact hk 78 rfl) (ae 80 (by exact hk 79 rfl) az))))))))))))))))))))))))))))))))))))))))))))))))))))))))))))))))))))))))))))))))
   subst htm
   clear hG hk hs hall
   have HO2 : Hid (Rg.Oth b8 W X) := Lib.hid (HO1.out.trans hO)
   have HA2 : Hid (Rg.At X b8 0 (tellT ob sp c).cl) := Lib.hid hA
   have HZ2 : Hid (b8 < X.heap.size) := Lib.hid (Nat.lt_of_lt_of_le Hbz.out HO2.out.size)
   have o0 : X.cell? ⟨b8, 0, none⟩ = some (.int .i64 x) := at_cell HA2.out HTid.out
   have HD := Lib.hid (does_runs (HK.out.oth Hb8.out HO2.out) x hx B HTf.out (by rw [HTh.out]) HW.out)
   clear hO hA HA1 HAt0 HO1 HZ1 HZB1 HWB1 HLen HS18 HS21 HS24 HP
   go_upto_region 2 with fail
   go_wp2_with (go_at_call 63; refine HD.out.mono ?_; rintro e X3 ⟨rfl, hb3⟩; refine Hid.out ?_)
   refine Lib.hid ?_
   have hA3 := HA2.out.below hb3 HZ2.out
   have f32 := at_fz hA3 (j := 32) (by rw [HLT.out]; decide)
   have c32 := at_cell hA3 HT32.out.1
   have HA3 := Lib.hid hA3
   have HB3 := Lib.hid hb3
   clear hA3 hb3 o0 HD
   go_upto_region 3 with fail
   obtain ⟨W4, hW4⟩ : ∃ W4, X3.setCell ⟨b8, 32, none⟩ (.int .i64 0) = W4 := ⟨_, rfl⟩
   have HO4 : Hid (Rg.Oth b8 W W4) := Lib.hid (by rw [<- hW4]; exact (HO2.out.trans (Rg.Oth.of_below HB3.out)).trans (Rg.Oth.setCell b8 32 X3 _))
   have HAt0 : Hid (Rg.At W4 b8 0 ((fun _ : Bool => (tellT ob sp c).cl) false)) := Lib.hid (by
    have := HA3.out.set 32 (.int .i64 0) (by rw [HLT.out]; decide)
    rw [Nat.zero_add, HT32.out.2, hW4] at this
    exact this)
   have HZ4 : Hid (b8 < W4.heap.size) := Lib.hid (Nat.lt_of_lt_of_le Hbz.out HO4.out.size)
   have HK4 := Lib.hid (HK.out.oth Hb8.out HO4.out)
   have k1 : W4.cell? ⟨K.kb, 1, none⟩ = some (.pointer (some ⟨K.rb, 0, none⟩)) := HK4.out.cell 1
   have HKz4 : Hid (K.kb < W4.heap.size) := Lib.hid (Nat.lt_of_lt_of_le Hkz.out HO4.out.size)
   have HLen := HLen2
   rw [hW4]
   clear hW4 HA3 HB3 HO2 HA2 HZ2 f32 c32
   refine Ko.wp_region_cst (fun d => match d with | 48 => .pointer (some ⟨b8, 0, none⟩) | 49 => .pointer (some ⟨b8, 0, none⟩) | 50 => .pointer (some ⟨K.kb, 0, none⟩) | 51 => .pointer (some ⟨K.kb, 0, none⟩) | 52 => .pointer (some ⟨K.kb, 1, none⟩) | 53 => .pointer (some ⟨K.rb, 0, none⟩) | 54 => .pointer (some ⟨b8, 0, none⟩) | 55 => .pointer (some ⟨b8, 0, none⟩) | 56 => .pointer (some ⟨b8, 0, none⟩) | 57 => .pointer (some ⟨b8, 0, none⟩) | 58 => .int .i64 x | 59 => .tuple #[.int .i64 0, .int .i64 0, .bool false] | 47 => .tuple #[.int .i64 0, .int .i64 0, .bool false] | 60 => .int .i64 0 | 61 => .int .i64 0 | 62 => .bool false | 63 => .pointer (some ⟨b8, 0, none⟩) | 64 => .pointer (some ⟨b8, 33, none⟩) | 65 => .pointer (some ⟨b8, 0, none⟩) | 66 => .pointer (some ⟨b8, 34, none⟩) | _ => undef) (fun li Wq => Rg.Oth b8 W4 Wq /\ Rg.At Wq b8 0 ((fun _ : Bool => (tellT ob sp c).cl) (false))) (by kernel_rfl) (by kernel_rfl) (by kernel_rfl) ?_ ?_ ?_
   · exact ⟨⟨rfl, rfl, rfl, Nat.le_refl _, fun _ _ _ => rfl⟩, HAt0.out.of_block rfl⟩
   · intro a' X li hJ hs hk i o ho hli hdn hG hcb
     obtain ⟨hO, hA⟩ := hJ
     match i, ho with
     | 0, ho =>
      cases ho
      have g1 : a'.eval (.tmp 1) = .pointer (some ⟨b8, 0, none⟩) := hk 1 (by kernel_rfl)
      generalize a'.eval = ev at g1 |-
      refine ⟨rfl, .inl ⟨48, X, rfl, ?_, fun li' h1 h2 => ⟨hO, hA⟩⟩⟩
      clear hG hk hdn hcb hO hA hs
      go_simp
     | 1, ho =>
      cases ho
      have g1 : a'.eval (.tmp 1) = .pointer (some ⟨b8, 0, none⟩) := hk 1 (by kernel_rfl)
      generalize a'.eval = ev at g1 |-
      refine ⟨rfl, .inl ⟨49, X, rfl, ?_, fun li' h1 h2 => ⟨hO, hA⟩⟩⟩
      clear hG hk hdn hcb hO hA hs
      go_simp
     | 2, ho =>
      cases ho
      have g0 : a'.eval (.tmp 0) = .pointer (some ⟨K.kb, 0, none⟩) := hk 0 (by kernel_rfl)
      generalize a'.eval = ev at g0 |-
      refine ⟨rfl, .inl ⟨50, X, rfl, ?_, fun li' h1 h2 => ⟨hO, hA⟩⟩⟩
      clear hG hk hdn hcb hO hA hs
      go_simp
     | 3, ho =>
      cases ho
      have g50 : a'.eval (.tmp 50) = .pointer (some ⟨K.kb, 0, none⟩) := hG 2 50 (hdn ⟨2, .data⟩ (by simp) rfl) rfl
      generalize a'.eval = ev at g50 |-
      refine ⟨rfl, .inl ⟨51, X, rfl, ?_, fun li' h1 h2 => ⟨hO, hA⟩⟩⟩
      clear hG hk hdn hcb hO hA hs
      go_simp
     | 4, ho =>
      cases ho
      have g51 : a'.eval (.tmp 51) = .pointer (some ⟨K.kb, 0, none⟩) := hG 3 51 (hdn ⟨3, .data⟩ (by simp) rfl) rfl
      generalize a'.eval = ev at g51 |-
      refine ⟨rfl, .inl ⟨52, X, rfl, ?_, fun li' h1 h2 => ⟨hO, hA⟩⟩⟩
      clear hG hk hdn hcb hO hA hs
      go_simp
     | 5, ho =>
      cases ho
      have g52 : a'.eval (.tmp 52) = .pointer (some ⟨K.kb, 1, none⟩) := hG 4 52 (hdn ⟨4, .data⟩ (by simp) rfl) rfl
      have hh : ∀ k, k < W4.heap.size -> k ≠ b8 -> X.heap[k]? = W4.heap[k]? := hO.block
      have kx := (World.cell?_of_block (a := ⟨K.kb, 1, none⟩) (hh K.kb HKz4.out Hkn.out)).trans k1; have ox := at_cell hA HTid.out
      generalize a'.eval = ev at g52 |-
      refine ⟨rfl, .inl ⟨53, X, rfl, ?_, fun li' h1 h2 => ⟨hO, hA⟩⟩⟩
      clear hG hk hdn hcb hO hA hs
      go_simp
     | 6, ho =>
      cases ho
      have g1 : a'.eval (.tmp 1) = .pointer (some ⟨b8, 0, none⟩) := hk 1 (by kernel_rfl)
      generalize a'.eval = ev at g1 |-
      refine ⟨rfl, .inl ⟨54, X, rfl, ?_, fun li' h1 h2 => ⟨hO, hA⟩⟩⟩
      clear hG hk hdn hcb hO hA hs
      go_simp
     | 7, ho =>
      cases ho
      have g54 : a'.eval (.tmp 54) = .pointer (some ⟨b8, 0, none⟩) := hG 6 54 (hdn ⟨6, .data⟩ (by simp) rfl) rfl
      generalize a'.eval = ev at g54 |-
      refine ⟨rfl, .inl ⟨55, X, rfl, ?_, fun li' h1 h2 => ⟨hO, hA⟩⟩⟩
      clear hG hk hdn hcb hO hA hs
      go_simp
     | 8, ho =>
      cases ho
      have g55 : a'.eval (.tmp 55) = .pointer (some ⟨b8, 0, none⟩) := hG 7 55 (hdn ⟨7, .data⟩ (by simp) rfl) rfl
      generalize a'.eval = ev at g55 |-
      refine ⟨rfl, .inl ⟨56, X, rfl, ?_, fun li' h1 h2 => ⟨hO, hA⟩⟩⟩
      clear hG hk hdn hcb hO hA hs
      go_simp
     | 9, ho =>
      cases ho
      have g56 : a'.eval (.tmp 56) = .pointer (some ⟨b8, 0, none⟩) := hG 8 56 (hdn ⟨8, .data⟩ (by simp) rfl) rfl
      generalize a'.eval = ev at g56 |-
      refine ⟨rfl, .inl ⟨57, X, rfl, ?_, fun li' h1 h2 => ⟨hO, hA⟩⟩⟩
      clear hG hk hdn hcb hO hA hs
      go_simp
     | 10, ho =>
      cases ho
      have g57 : a'.eval (.tmp 57) = .pointer (some ⟨b8, 0, none⟩) := hG 9 57 (hdn ⟨9, .data⟩ (by simp) rfl) rfl
      have hh : ∀ k, k < W4.heap.size -> k ≠ b8 -> X.heap[k]? = W4.heap[k]? := hO.block
      have kx := (World.cell?_of_block (a := ⟨K.kb, 1, none⟩) (hh K.kb HKz4.out Hkn.out)).trans k1; have ox := at_cell hA HTid.out
      generalize a'.eval = ev at g57 |-
      refine ⟨rfl, .inl ⟨58, X, rfl, ?_, fun li' h1 h2 => ⟨hO, hA⟩⟩⟩
      clear hG hk hdn hcb hO hA hs
      go_simp
     | 11, ho =>
      cases ho
      have g53 : a'.eval (.tmp 53) = .pointer (some ⟨K.rb, 0, none⟩) := hG 5 53 (hdn ⟨5, .data⟩ (by simp) rfl) rfl
      have g58 : a'.eval (.tmp 58) = .int .i64 x := hG 10 58 (hdn ⟨10, .data⟩ (by simp) rfl) rfl
      have hbX := Nat.lt_of_lt_of_le HZ4.out hO.size
      have hKX := HK4.out.oth Hb8.out hO
      refine ⟨rfl, .inr (.inr ⟨59, 111, #[.pointer (some ⟨K.rb, 0, none⟩), .int .i64 x], rfl, ?_, ?_⟩)⟩
      · have gF : a'.eval (.func 111) = .func (.func 111) #[] #[] := rfl
        generalize a'.eval = ev at gF g53 g58 |-
        exact exec_call2 rfl gF g53 g58 (enters_of Tryz.func111 (by kernel_rfl) rfl)
      · have h5 := Wa.Where_any X K.rb K.F K.all K.al K.N x hx hKX.rms
        rw [HW.out] at h5
        refine Calls.mono h5 ?_
        rintro e W5 ⟨rfl, p1⟩
        exact ⟨rfl, fun li' h1 h2 => ⟨hO.trans (Rg.Oth.of_below p1), hA.of_block (p1.block b8 hbX)⟩⟩
     | 12, ho =>
      cases ho
      have g59 : a'.eval (.tmp 59) = .tuple #[.int .i64 0, .int .i64 0, .bool false] := hG 11 59 (hdn ⟨11, .data⟩ (by simp) rfl) rfl
      generalize a'.eval = ev at g59 |-
      refine ⟨rfl, .inl ⟨47, X, rfl, ?_, fun li' h1 h2 => ⟨hO, hA⟩⟩⟩
      clear hG hk hdn hcb hO hA hs
      go_simp
     | 13, ho =>
      cases ho
      have g47 : a'.eval (.tmp 47) = .tuple #[.int .i64 0, .int .i64 0, .bool false] := hG 12 47 (hdn ⟨12, .data⟩ (by simp) rfl) rfl
      generalize a'.eval = ev at g47 |-
      refine ⟨rfl, .inl ⟨60, X, rfl, ?_, fun li' h1 h2 => ⟨hO, hA⟩⟩⟩
      clear hG hk hdn hcb hO hA hs
      go_simp
     | 14, ho =>
      cases ho
      have g47 : a'.eval (.tmp 47) = .tuple #[.int .i64 0, .int .i64 0, .bool false] := hG 12 47 (hdn ⟨12, .data⟩ (by simp) rfl) rfl
      generalize a'.eval = ev at g47 |-
      refine ⟨rfl, .inl ⟨61, X, rfl, ?_, fun li' h1 h2 => ⟨hO, hA⟩⟩⟩
      clear hG hk hdn hcb hO hA hs
      go_simp
     | 15, ho =>
      cases ho
      have g47 : a'.eval (.tmp 47) = .tuple #[.int .i64 0, .int .i64 0, .bool false] := hG 12 47 (hdn ⟨12, .data⟩ (by simp) rfl) rfl
      generalize a'.eval = ev at g47 |-
      refine ⟨rfl, .inl ⟨62, X, rfl, ?_, fun li' h1 h2 => ⟨hO, hA⟩⟩⟩
      clear hG hk hdn hcb hO hA hs
      go_simp
     | 16, ho =>
      cases ho
      have g48 : a'.eval (.tmp 48) = .pointer (some ⟨b8, 0, none⟩) := hG 0 48 (hdn ⟨0, .data⟩ (by simp) rfl) rfl
      generalize a'.eval = ev at g48 |-
      refine ⟨rfl, .inl ⟨63, X, rfl, ?_, fun li' h1 h2 => ⟨hO, hA⟩⟩⟩
      clear hG hk hdn hcb hO hA hs
      go_simp
     | 17, ho =>
      cases ho
      have g63 : a'.eval (.tmp 63) = .pointer (some ⟨b8, 0, none⟩) := hG 16 63 (hdn ⟨16, .data⟩ (by simp) rfl) rfl
      generalize a'.eval = ev at g63 |-
      refine ⟨rfl, .inl ⟨64, X, rfl, ?_, fun li' h1 h2 => ⟨hO, hA⟩⟩⟩
      clear hG hk hdn hcb hO hA hs
      go_simp
     | 18, ho =>
      cases ho
      have g60 : a'.eval (.tmp 60) = .int .i64 0 := hG 13 60 (hdn ⟨13, .data⟩ (by simp) rfl) rfl
      have g64 : a'.eval (.tmp 64) = .pointer (some ⟨b8, 33, none⟩) := hG 17 64 (hdn ⟨17, .data⟩ (by simp) rfl) rfl
      have hA2 := put_at hA (i := 33) (vs := [.int .i64 0]) (by rw [HLen.out false]; decide) (HT33.out false)
      refine ⟨rfl, .inr (.inl ⟨X.setCells b8 33 [.int .i64 0], rfl, ?_, fun li' h1 h2 => ⟨hO.trans (Rg.Oth.setCells _ _ _ _), hA2⟩⟩)⟩
      have hth : X.there b8 33 1 := fun j hj => by have := hA.there (33 + j) (by rw [HLen.out false]; omega); rwa [Nat.zero_add] at this
      obtain ⟨u, hu⟩ := Option.isSome_iff_exists.1 (hth 0 (by decide)).1
      have hfz := (hth 0 (by decide)).2
      generalize a'.eval = ev at g60 g64 |-
      clear hG hk hdn hcb hO hA2 hA hth
      simp only [Nat.add_zero] at hu hfz
      rw [<- Rg.setCell_one]
      go_simp
     | 19, ho =>
      cases ho
      have g49 : a'.eval (.tmp 49) = .pointer (some ⟨b8, 0, none⟩) := hG 1 49 (hdn ⟨1, .data⟩ (by simp) rfl) rfl
      generalize a'.eval = ev at g49 |-
      refine ⟨rfl, .inl ⟨65, X, rfl, ?_, fun li' h1 h2 => ⟨hO, hA⟩⟩⟩
      clear hG hk hdn hcb hO hA hs
      go_simp
     | 20, ho =>
      cases ho
      have g65 : a'.eval (.tmp 65) = .pointer (some ⟨b8, 0, none⟩) := hG 19 65 (hdn ⟨19, .data⟩ (by simp) rfl) rfl
      generalize a'.eval = ev at g65 |-
      refine ⟨rfl, .inl ⟨66, X, rfl, ?_, fun li' h1 h2 => ⟨hO, hA⟩⟩⟩
      clear hG hk hdn hcb hO hA hs
      go_simp
     | 21, ho =>
      cases ho
      have g61 : a'.eval (.tmp 61) = .int .i64 0 := hG 14 61 (hdn ⟨14, .data⟩ (by simp) rfl) rfl
      have g66 : a'.eval (.tmp 66) = .pointer (some ⟨b8, 34, none⟩) := hG 20 66 (hdn ⟨20, .data⟩ (by simp) rfl) rfl
      have hA2 := put_at hA (i := 34) (vs := [.int .i64 0]) (by rw [HLen.out false]; decide) (HT34.out false)
      refine ⟨rfl, .inr (.inl ⟨X.setCells b8 34 [.int .i64 0], rfl, ?_, fun li' h1 h2 => ⟨hO.trans (Rg.Oth.setCells _ _ _ _), hA2⟩⟩)⟩
      have hth : X.there b8 34 1 := fun j hj => by have := hA.there (34 + j) (by rw [HLen.out false]; omega); rwa [Nat.zero_add] at this
      obtain ⟨u, hu⟩ := Option.isSome_iff_exists.1 (hth 0 (by decide)).1
      have hfz := (hth 0 (by decide)).2
      generalize a'.eval = ev at g61 g66 |-
      clear hG hk hdn hcb hO hA2 hA hth
      simp only [Nat.add_zero] at hu hfz
      rw [<- Rg.setCell_one]
      go_simp
     | j + 22, ho => simp at ho
   · intro a' X li hJ hs hdf hk hall hG
     obtain ⟨hO, hA⟩ := hJ
     obtain ⟨tm, df⟩ := a'
     obtain rfl : df = [] := hdf
     have htm := arr3 [.pointer (some ⟨K.kb, 0, none⟩), .pointer (some ⟨b8, 0, none⟩), undef, undef, .pointer (some ⟨B, 0, none⟩), .pointer (some ⟨K.kb, 0, none⟩), .pointer (some ⟨K.kb, 0, none⟩), .pointer (some ⟨K.kb, 4, none⟩), .map (some K.mt), .pointer (some ⟨b8, 0, none⟩), .pointer (some ⟨b8, 0, none⟩), .pointer (some ⟨b8, 0, none⟩), .pointer (some ⟨b8, 0, none⟩), .int .i64 x, .pointer (some ⟨B, 0, none⟩), .pointer (some ⟨b8, 0, none⟩), .pointer (some ⟨b8, 0, none⟩), .pointer (some ⟨b8, 0, none⟩), .pointer (some ⟨B, 0, none⟩), .pointer (some ⟨B, 0, none⟩), .pointer (some ⟨B, 0, none⟩), .agg #[.int .i64 4, .slice none 0 0], .agg #[.int .i64 4, .slice none 0 0], .pointer (some ⟨B, 0, none⟩), .pointer (some ⟨B, 0, none⟩), .pointer (some ⟨B, 2, none⟩), .agg #[.int .i64 0, .int .i64 0], .pointer (some ⟨B, 0, none⟩), .pointer (some ⟨B, 0, none⟩), .pointer (some ⟨B, 4, none⟩), .agg z17.toArray, .pointer (some ⟨b8, 0, none⟩), .pointer (some ⟨b8, 10, none⟩), .pointer (some ⟨b8, 0, none⟩), .pointer (some ⟨b8, 12, none⟩), .pointer (some ⟨b8, 0, none⟩), .pointer (some ⟨b8, 14, none⟩), .pointer (some ⟨b8, 0, none⟩), .pointer (some ⟨K.kb, 0, none⟩), .pointer (some ⟨b8, 0, none⟩), .pointer (some ⟨b8, 0, none⟩), .pointer (some ⟨b8, 0, none⟩), .pointer (some ⟨b8, 0, none⟩), .int .i64 x, .int .i64 0, .pointer (some ⟨b8, 0, none⟩), .pointer (some ⟨b8, 32, none⟩), .tuple #[.int .i64 0, .int .i64 0, .bool false], .pointer (some ⟨b8, 0, none⟩), .pointer (some ⟨b8, 0, none⟩), .pointer (some ⟨K.kb, 0, none⟩), .pointer (some ⟨K.kb, 0, none⟩), .pointer (some ⟨K.kb, 1, none⟩), .pointer (some ⟨K.rb, 0, none⟩), .pointer (some ⟨b8, 0, none⟩), .pointer (some ⟨b8, 0, none⟩), .pointer (some ⟨b8, 0, none⟩), .pointer (some ⟨b8, 0, none⟩), .int .i64 x, .tuple #[.int .i64 0, .int .i64 0, .bool false], .int .i64 0, .int .i64 0, .bool false, .pointer (some ⟨b8, 0, none⟩), .pointer (some ⟨b8, 33, none⟩), .pointer (some ⟨b8, 0, none⟩), .pointer (some ⟨b8, 34, none⟩), undef, undef, undef, undef, undef, undef, undef, undef, undef, undef, undef, undef, undef] hs (ae 1 (by exact hk 0 rfl) (ae 2 (by exact hk 1 rfl) (ae 3 (by exact hk 2 rfl) (ae 4 (by exact hk 3 rfl) (ae 5 (by exact hk 4 rfl) (ae 6 (by exact hk 5 rfl) (ae 7 (by exact hk 6 rfl) (ae 8 (by exact hk 7 rfl) (ae 9 (by exact hk 8 rfl) (ae 10 (by exact hk 9 rfl) (ae 11 (by exact hk 10 rfl) (ae 12 (by exact hk 11 rfl) (ae 13 (by exact hk 12 rfl) (ae 14 (by exact hk 13 rfl) (ae 15 (by exact hk 14 rfl) (ae 16 (by exact hk 15 rfl) (ae 17 (by exact hk 16 rfl) (ae 18 (by exact hk 17 rfl) (ae 19 (by exact hk 18 rfl) (ae 20 (by exact hk 19 rfl) (ae 21 (by exact hk 20 rfl) (ae 22 (by exact hk 21 rfl) (ae 23 (by exact hk 22 rfl) (ae 24 (by exact hk 23 rfl) (ae 25 (by exact hk 24 rfl) (ae 26 (by exact hk 25 rfl) (ae 27 (by exact hk 26 rfl) (ae 28 (by exact hk 27 rfl) (ae 29 (by exact hk 28 rfl) (ae 30 (by exact hk 29 rfl) (ae 31 (by exact hk 30 rfl) (ae 32 (by exact hk 31 rfl) (ae 33 (by exact hk 32 rfl) (ae 34 (by exact hk 33 rfl) (ae 35 (by exact hk 34 rfl) (ae 36 (by exact hk 35 rfl) (ae 37 (by exact hk 36 rfl) (ae 38 (by exact hk 37 rfl) (ae 39 (by exact hk 38 rfl) (ae 40 (by exact hk 39 rfl) (ae 41 (by exact hk 40 rfl) (ae 42 (by exact hk 41 rfl) (ae 43 (by exact hk 42 rfl) (ae 44 (by exact hk 43 rfl) (ae 45 (by exact hk 44 rfl) (ae 46 (by exact hk 45 rfl) (ae 47 (by exact hk 46 rfl) (ae 48 (by exact hG 12 47 (by decide) rfl) (ae 49 (by exact hG 0 48 (by decide) rfl) (ae 50 (by exact hG 1 49 (by decide) rfl) (ae 51 (by exact hG 2 50 (by decide) rfl) (ae 52 (by exact hG 3 51 (by decide) rfl) (ae 53 (by exact hG 4 52 (by decide) rfl) (ae 54 (by exact hG 5 53 (by decide) rfl) (ae 55 (by exact hG 6 54 (by decide) rfl) (ae 56 (by exact hG 7 55 (by decide) rfl) (ae 57 (by exact hG 8 56 (by decide) rfl) (ae 58 (by exact hG 9 57 (by decide) rfl) (ae 59 (by exact hG 10 58 (by decide) rfl) (ae 60 (by exact hG 11 59 (by decide) rfl) (ae 61 (by exact hG 13 60 (by decide) rfl) (ae 62 (by exact hG 14 61 (by decide) rfl) (ae 63 (by exact hG 15 62 (by decide) rfl) (ae 64 (by exact hG 16 63 (by decide) rfl) (ae 65 (by exact hG 17 64 (by decide) rfl) (ae 66 (by exact hG 19 65 (by decide) rfl) (ae 67 (by exact hG 20 66 (by decide) rfl) (ae 68 (by exact hk 67 rfl) (ae 69 (by exact hk 68 rfl) (ae 70 (by exact hk 69 rfl) (ae 71 (by exact hk 70 rfl) (ae 72 (by exact hk 71 rfl) (ae 73 (by exact hk 72 rfl) (ae 74 (by exact hk 73 rfl) (ae 75 (by exact hk 74 rfl) (ae 76 (by exact hk 75 rfl) (ae 77 (by exact hk 76 rfl) (ae 78 (by exact hk 77 rfl) (ae 79 (by exact hk 78 rfl) (ae 80 (by exact hk 79 rfl) az))))))))))))))))))))))))))))))))))))))))))))))))))))))))))))))))))))))))))))))))
     subst htm
     clear hG hk hs hall
     obtain ⟨W6, hW6⟩ : ∃ W6, X = W6 := ⟨_, rfl⟩
     rw [hW6] at hO hA |-
     have HO6 : Hid (Rg.Oth b8 W W6) := Lib.hid (HO4.out.trans hO)
     have HAt0 : Hid (Rg.At W6 b8 0 ((fun _ : Bool => (tellT ob sp c).cl) false)) := Lib.hid hA
     have HZ4 : Hid (b8 < W6.heap.size) := Lib.hid (Nat.lt_of_lt_of_le Hbz.out HO6.out.size)
     have HK4 := Lib.hid (HK.out.oth Hb8.out HO6.out)
     have k1 : W6.cell? ⟨K.kb, 1, none⟩ = some (.pointer (some ⟨K.rb, 0, none⟩)) := HK4.out.cell 1
     have HKz4 : Hid (K.kb < W6.heap.size) := Lib.hid (Nat.lt_of_lt_of_le Hkz.out HO6.out.size)
     clear hO hA hW6
     go_upto_region 4 with fail
     refine Ko.wp_region_cst (fun d => match d with | 67 => .pointer (some ⟨b8, 0, none⟩) | 68 => .pointer (some ⟨K.kb, 0, none⟩) | 69 => .pointer (some ⟨K.kb, 0, none⟩) | 70 => .pointer (some ⟨K.kb, 1, none⟩) | 71 => .pointer (some ⟨K.rb, 0, none⟩) | 72 => .pointer (some ⟨b8, 0, none⟩) | 73 => .pointer (some ⟨b8, 0, none⟩) | 74 => .pointer (some ⟨b8, 0, none⟩) | 75 => .pointer (some ⟨b8, 0, none⟩) | 76 => .int .i64 x | 77 => .slice none 0 0 | 78 => .pointer (some ⟨b8, 0, none⟩) | 79 => .pointer (some ⟨b8, 35, none⟩) | _ => undef) (fun li Wq => Rg.Oth b8 W6 Wq /\ Rg.At Wq b8 0 ((fun _ : Bool => (tellT ob sp c).cl) (false))) (by kernel_rfl) (by kernel_rfl) (by kernel_rfl) ?_ ?_ ?_
     · exact ⟨⟨rfl, rfl, rfl, Nat.le_refl _, fun _ _ _ => rfl⟩, HAt0.out.of_block rfl⟩
     · intro a' X li hJ hs hk i o ho hli hdn hG hcb
       obtain ⟨hO, hA⟩ := hJ
       match i, ho with
       | 0, ho =>
        cases ho
        have g1 : a'.eval (.tmp 1) = .pointer (some ⟨b8, 0, none⟩) := hk 1 (by kernel_rfl)
        generalize a'.eval = ev at g1 |-
        refine ⟨rfl, .inl ⟨67, X, rfl, ?_, fun li' h1 h2 => ⟨hO, hA⟩⟩⟩
        clear hG hk hdn hcb hO hA hs
        go_simp
       | 1, ho =>
        cases ho
        have g0 : a'.eval (.tmp 0) = .pointer (some ⟨K.kb, 0, none⟩) := hk 0 (by kernel_rfl)
        generalize a'.eval = ev at g0 |-
        refine ⟨rfl, .inl ⟨68, X, rfl, ?_, fun li' h1 h2 => ⟨hO, hA⟩⟩⟩
        clear hG hk hdn hcb hO hA hs
        go_simp
       | 2, ho =>
        cases ho
        have g68 : a'.eval (.tmp 68) = .pointer (some ⟨K.kb, 0, none⟩) := hG 1 68 (hdn ⟨1, .data⟩ (by simp) rfl) rfl
        generalize a'.eval = ev at g68 |-
        refine ⟨rfl, .inl ⟨69, X, rfl, ?_, fun li' h1 h2 => ⟨hO, hA⟩⟩⟩
        clear hG hk hdn hcb hO hA hs
        go_simp
       | 3, ho =>
        cases ho
        have g69 : a'.eval (.tmp 69) = .pointer (some ⟨K.kb, 0, none⟩) := hG 2 69 (hdn ⟨2, .data⟩ (by simp) rfl) rfl
        generalize a'.eval = ev at g69 |-
        refine ⟨rfl, .inl ⟨70, X, rfl, ?_, fun li' h1 h2 => ⟨hO, hA⟩⟩⟩
        clear hG hk hdn hcb hO hA hs
        go_simp
       | 4, ho =>
        cases ho
        have g70 : a'.eval (.tmp 70) = .pointer (some ⟨K.kb, 1, none⟩) := hG 3 70 (hdn ⟨3, .data⟩ (by simp) rfl) rfl
        have hh : ∀ k, k < W6.heap.size -> k ≠ b8 -> X.heap[k]? = W6.heap[k]? := hO.block
        have kx := (World.cell?_of_block (a := ⟨K.kb, 1, none⟩) (hh K.kb HKz4.out Hkn.out)).trans k1; have ox := at_cell hA HTid.out
        generalize a'.eval = ev at g70 |-
        refine ⟨rfl, .inl ⟨71, X, rfl, ?_, fun li' h1 h2 => ⟨hO, hA⟩⟩⟩
        clear hG hk hdn hcb hO hA hs
        go_simp
       | 5, ho =>
        cases ho
        have g1 : a'.eval (.tmp 1) = .pointer (some ⟨b8, 0, none⟩) := hk 1 (by kernel_rfl)
        generalize a'.eval = ev at g1 |-
        refine ⟨rfl, .inl ⟨72, X, rfl, ?_, fun li' h1 h2 => ⟨hO, hA⟩⟩⟩
        clear hG hk hdn hcb hO hA hs
        go_simp
       | 6, ho =>
        cases ho
        have g72 : a'.eval (.tmp 72) = .pointer (some ⟨b8, 0, none⟩) := hG 5 72 (hdn ⟨5, .data⟩ (by simp) rfl) rfl
        generalize a'.eval = ev at g72 |-
        refine ⟨rfl, .inl ⟨73, X, rfl, ?_, fun li' h1 h2 => ⟨hO, hA⟩⟩⟩
        clear hG hk hdn hcb hO hA hs
        go_simp
       | 7, ho =>
        cases ho
        have g73 : a'.eval (.tmp 73) = .pointer (some ⟨b8, 0, none⟩) := hG 6 73 (hdn ⟨6, .data⟩ (by simp) rfl) rfl
        generalize a'.eval = ev at g73 |-
        refine ⟨rfl, .inl ⟨74, X, rfl, ?_, fun li' h1 h2 => ⟨hO, hA⟩⟩⟩
        clear hG hk hdn hcb hO hA hs
        go_simp
       | 8, ho =>
        cases ho
        have g74 : a'.eval (.tmp 74) = .pointer (some ⟨b8, 0, none⟩) := hG 7 74 (hdn ⟨7, .data⟩ (by simp) rfl) rfl
        generalize a'.eval = ev at g74 |-
        refine ⟨rfl, .inl ⟨75, X, rfl, ?_, fun li' h1 h2 => ⟨hO, hA⟩⟩⟩
        clear hG hk hdn hcb hO hA hs
        go_simp
       | 9, ho =>
        cases ho
        have g75 : a'.eval (.tmp 75) = .pointer (some ⟨b8, 0, none⟩) := hG 8 75 (hdn ⟨8, .data⟩ (by simp) rfl) rfl
        have hh : ∀ k, k < W6.heap.size -> k ≠ b8 -> X.heap[k]? = W6.heap[k]? := hO.block
        have kx := (World.cell?_of_block (a := ⟨K.kb, 1, none⟩) (hh K.kb HKz4.out Hkn.out)).trans k1; have ox := at_cell hA HTid.out
        generalize a'.eval = ev at g75 |-
        refine ⟨rfl, .inl ⟨76, X, rfl, ?_, fun li' h1 h2 => ⟨hO, hA⟩⟩⟩
        clear hG hk hdn hcb hO hA hs
        go_simp
       | 10, ho =>
        cases ho
        have g71 : a'.eval (.tmp 71) = .pointer (some ⟨K.rb, 0, none⟩) := hG 4 71 (hdn ⟨4, .data⟩ (by simp) rfl) rfl
        have g76 : a'.eval (.tmp 76) = .int .i64 x := hG 9 76 (hdn ⟨9, .data⟩ (by simp) rfl) rfl
        have hbX := Nat.lt_of_lt_of_le HZ4.out hO.size
        have hKX := HK4.out.oth Hb8.out hO
        refine ⟨rfl, .inr (.inr ⟨77, 112, #[.pointer (some ⟨K.rb, 0, none⟩), .int .i64 x], rfl, ?_, ?_⟩)⟩
        · have gF : a'.eval (.func 112) = .func (.func 112) #[] #[] := rfl
          generalize a'.eval = ev at gF g71 g76 |-
          exact exec_call2 rfl gF g71 g76 (enters_of Tryz.func112 (by kernel_rfl) rfl)
        · have h5 := Wa.Alerts_nil X K.rb K.F K.all K.al K.N x hx hKX.rms HAl.out
          refine Calls.mono h5 ?_
          rintro e W5 ⟨rfl, p1⟩
          exact ⟨rfl, fun li' h1 h2 => ⟨hO.trans (Rg.Oth.of_below p1), hA.of_block (p1.block b8 hbX)⟩⟩
       | 11, ho =>
        cases ho
        have g67 : a'.eval (.tmp 67) = .pointer (some ⟨b8, 0, none⟩) := hG 0 67 (hdn ⟨0, .data⟩ (by simp) rfl) rfl
        generalize a'.eval = ev at g67 |-
        refine ⟨rfl, .inl ⟨78, X, rfl, ?_, fun li' h1 h2 => ⟨hO, hA⟩⟩⟩
        clear hG hk hdn hcb hO hA hs
        go_simp
       | 12, ho =>
        cases ho
        have g78 : a'.eval (.tmp 78) = .pointer (some ⟨b8, 0, none⟩) := hG 11 78 (hdn ⟨11, .data⟩ (by simp) rfl) rfl
        generalize a'.eval = ev at g78 |-
        refine ⟨rfl, .inl ⟨79, X, rfl, ?_, fun li' h1 h2 => ⟨hO, hA⟩⟩⟩
        clear hG hk hdn hcb hO hA hs
        go_simp
       | 13, ho =>
        cases ho
        have g77 : a'.eval (.tmp 77) = .slice none 0 0 := hG 10 77 (hdn ⟨10, .data⟩ (by simp) rfl) rfl
        have g79 : a'.eval (.tmp 79) = .pointer (some ⟨b8, 35, none⟩) := hG 12 79 (hdn ⟨12, .data⟩ (by simp) rfl) rfl
        have hA2 := put_at hA (i := 35) (vs := [.slice none 0 0]) (by rw [HLen.out false]; decide) (HT35.out false)
        refine ⟨rfl, .inr (.inl ⟨X.setCells b8 35 [.slice none 0 0], rfl, ?_, fun li' h1 h2 => ⟨hO.trans (Rg.Oth.setCells _ _ _ _), hA2⟩⟩)⟩
        have hth : X.there b8 35 1 := fun j hj => by have := hA.there (35 + j) (by rw [HLen.out false]; omega); rwa [Nat.zero_add] at this
        obtain ⟨u, hu⟩ := Option.isSome_iff_exists.1 (hth 0 (by decide)).1
        have hfz := (hth 0 (by decide)).2
        generalize a'.eval = ev at g77 g79 |-
        clear hG hk hdn hcb hO hA2 hA hth
        simp only [Nat.add_zero] at hu hfz
        rw [<- Rg.setCell_one]
        go_simp
       | j + 14, ho => simp at ho
     · intro a' X li hJ hs hdf hk hall hG
       obtain ⟨hO, hA⟩ := hJ
       obtain ⟨tm, df⟩ := a'
       obtain rfl : df = [] := hdf
       have htm := arr3 [.pointer (some ⟨K.kb, 0, none⟩), .pointer (some ⟨b8, 0, none⟩), undef, undef, .pointer (some ⟨B, 0, none⟩), .pointer (some ⟨K.kb, 0, none⟩), .pointer (some ⟨K.kb, 0, none⟩), .pointer (some ⟨K.kb, 4, none⟩), .map (some K.mt), .pointer (some ⟨b8, 0, none⟩), .pointer (some ⟨b8, 0, none⟩), .pointer (some ⟨b8, 0, none⟩), .pointer (some ⟨b8, 0, none⟩), .int .i64 x, .pointer (some ⟨B, 0, none⟩), .pointer (some ⟨b8, 0, none⟩), .pointer (some ⟨b8, 0, none⟩), .pointer (some ⟨b8, 0, none⟩), .pointer (some ⟨B, 0, none⟩), .pointer (some ⟨B, 0, none⟩), .pointer (some ⟨B, 0, none⟩), .agg #[.int .i64 4, .slice none 0 0], .agg #[.int .i64 4, .slice none 0 0], .pointer (some ⟨B, 0, none⟩), .pointer (some ⟨B, 0, none⟩), .pointer (some ⟨B, 2, none⟩), .agg #[.int .i64 0, .int .i64 0], .pointer (some ⟨B, 0, none⟩), .pointer (some ⟨B, 0, none⟩), .pointer (some ⟨B, 4, none⟩), .agg z17.toArray, .pointer (some ⟨b8, 0, none⟩), .pointer (some ⟨b8, 10, none⟩), .pointer (some ⟨b8, 0, none⟩), .pointer (some ⟨b8, 12, none⟩), .pointer (some ⟨b8, 0, none⟩), .pointer (some ⟨b8, 14, none⟩), .pointer (some ⟨b8, 0, none⟩), .pointer (some ⟨K.kb, 0, none⟩), .pointer (some ⟨b8, 0, none⟩), .pointer (some ⟨b8, 0, none⟩), .pointer (some ⟨b8, 0, none⟩), .pointer (some ⟨b8, 0, none⟩), .int .i64 x, .int .i64 0, .pointer (some ⟨b8, 0, none⟩), .pointer (some ⟨b8, 32, none⟩), .tuple #[.int .i64 0, .int .i64 0, .bool false], .pointer (some ⟨b8, 0, none⟩), .pointer (some ⟨b8, 0, none⟩), .pointer (some ⟨K.kb, 0, none⟩), .pointer (some ⟨K.kb, 0, none⟩), .pointer (some ⟨K.kb, 1, none⟩), .pointer (some ⟨K.rb, 0, none⟩), .pointer (some ⟨b8, 0, none⟩), .pointer (some ⟨b8, 0, none⟩), .pointer (some ⟨b8, 0, none⟩), .pointer (some ⟨b8, 0, none⟩), .int .i64 x, .tuple #[.int .i64 0, .int .i64 0, .bool false], .int .i64 0, .int .i64 0, .bool false, .pointer (some ⟨b8, 0, none⟩), .pointer (some ⟨b8, 33, none⟩), .pointer (some ⟨b8, 0, none⟩), .pointer (some ⟨b8, 34, none⟩), .pointer (some ⟨b8, 0, none⟩), .pointer (some ⟨K.kb, 0, none⟩), .pointer (some ⟨K.kb, 0, none⟩), .pointer (some ⟨K.kb, 1, none⟩), .pointer (some ⟨K.rb, 0, none⟩), .pointer (some ⟨b8, 0, none⟩), .pointer (some ⟨b8, 0, none⟩), .pointer (some ⟨b8, 0, none⟩), .pointer (some ⟨b8, 0, none⟩), .int .i64 x, .slice none 0 0, .pointer (some ⟨b8, 0, none⟩), .pointer (some ⟨b8, 35, none⟩)] hs (ae 1 (by exact hk 0 rfl) (ae 2 (by exact hk 1 rfl) (ae 3 (by exact hk 2 rfl) (ae 4 (by exact hk 3 rfl) (ae 5 (by exact hk 4 rfl) (ae 6 (by exact hk 5 rfl) (ae 7 (by exact hk 6 rfl) (ae 8 (by exact hk 7 rfl) (ae 9 (by exact hk 8 rfl) (ae 10 (by exact hk 9 rfl) (ae 11 (by exact hk 10 rfl) (ae 12 (by exact hk 11 rfl) (ae 13 (by exact hk 12 rfl) (ae 14 (by exact hk 13 rfl) (ae 15 (by exact hk 14 rfl) (ae 16 (by exact hk 15 rfl) (ae 17 (by exact hk 16 rfl) (ae 18 (by exact hk 17 rfl) (ae 19 (by exact hk 18 rfl) (ae 20 (by exact hk 19 rfl) (ae 21 (by exact hk 20 rfl) (ae 22 (by exact hk 21 rfl) (ae 23 (by exact hk 22 rfl) (ae 24 (by exact hk 23 rfl) (ae 25 (by exact hk 24 rfl) (ae 26 (by exact hk 25 rfl) (ae 27 (by exact hk 26 rfl) (ae 28 (by exact hk 27 rfl) (ae 29 (by exact hk 28 rfl) (ae 30 (by exact hk 29 rfl) (ae 31 (by exact hk 30 rfl) (ae 32 (by exact hk 31 rfl) (ae 33 (by exact hk 32 rfl) (ae 34 (by exact hk 33 rfl) (ae 35 (by exact hk 34 rfl) (ae 36 (by exact hk 35 rfl) (ae 37 (by exact hk 36 rfl) (ae 38 (by exact hk 37 rfl) (ae 39 (by exact hk 38 rfl) (ae 40 (by exact hk 39 rfl) (ae 41 (by exact hk 40 rfl) (ae 42 (by exact hk 41 rfl) (ae 43 (by exact hk 42 rfl) (ae 44 (by exact hk 43 rfl) (ae 45 (by exact hk 44 rfl) (ae 46 (by exact hk 45 rfl) (ae 47 (by exact hk 46 rfl) (ae 48 (by exact hk 47 rfl) (ae 49 (by exact hk 48 rfl) (ae 50 (by exact hk 49 rfl) (ae 51 (by exact hk 50 rfl) (ae 52 (by exact hk 51 rfl) (ae 53 (by exact hk 52 rfl) (ae 54 (by exact hk 53 rfl) (ae 55 (by exact hk 54 rfl) (ae 56 (by exact hk 55 rfl) (ae 57 (by exact hk 56 rfl) (ae 58 (by exact hk 57 rfl) (ae 59 (by exact hk 58 rfl) (ae 60 (by exact hk 59 rfl) (ae 61 (by exact hk 60 rfl) (ae 62 (by exact hk 61 rfl) (ae 63 (by exact hk 62 rfl) (ae 64 (by exact hk 63 rfl) (ae 65 (by exact hk 64 rfl) (ae 66 (by exact hk 65 rfl) (ae 67 (by exact hk 66 rfl) (ae 68 (by exact hG 0 67 (by decide) rfl) (ae 69 (by exact hG 1 68 (by decide) rfl) (ae 70 (by exact hG 2 69 (by decide) rfl) (ae 71 (by exact hG 3 70 (by decide) rfl) (ae 72 (by exact hG 4 71 (by decide) rfl) (ae 73 (by exact hG 5 72 (by decide) rfl) (ae 74 (by exact hG 6 73 (by decide) rfl) (ae 75 (by exact hG 7 74 (by decide) rfl) (ae 76 (by exact hG 8 75 (by decide) rfl) (ae 77 (by exact hG 9 76 (by decide) rfl) (ae 78 (by exact hG 10 77 (by decide) rfl) (ae 79 (by exact hG 11 78 (by decide) rfl) (ae 80 (by exact hG 12 79 (by decide) rfl) az))))))))))))))))))))))))))))))))))))))))))))))))))))))))))))))))))))))))))))))))
       subst htm
       clear hG hk hs hall
       have HO7 : Hid (Rg.Oth b8 W X) := Lib.hid (HO6.out.trans hO)
       have HA7 : Hid (Rg.At X b8 0 (tellT ob sp c).cl) := Lib.hid hA
       clear hO hA
       go_wp2
       exact bodyPost_end (v := .tuple #[]) (by simp [results, Tryz.results53]) rfl ⟨rfl, HO7.out, HA7.out⟩
end Go.Proofs.YtmgfakfiiaeofaaGreat
