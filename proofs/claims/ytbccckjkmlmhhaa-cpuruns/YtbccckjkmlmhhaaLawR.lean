/- Whatever bytes are run, each step does what the document says. -/
import Derived.Test.YtbccckjkmlmhhaaRStore
import Derived.Test.YtbccckjkmlmhhaaMonoT6
import Derived.Test.YtbccckjkmlmhhaaPInv
import Derived.Test.YtbccckjkmlmhhaaLawB
import Derived.Test.YtbccckjkmlmhhaaEqS
import Derived.Lib.ConvBytes
import Derived.Deep.CutBlock
/- Step of the reference is the step. -/
namespace Go.Proofs.Ytbccckjkmlmhhaa
open Go.RowKit Go.Lib
theorem adI_nn (rb n : Int) : 0 ≤ adI rb n := by
  unfold adI
  rw [show ∀ x : Int, IntKind.u64.wrap x = x % 18446744073709551616 from fun x => by simp [IntKind.wrap, IntKind.bits, IntKind.signed]]
  omega
theorem rstep_any (r : List Int) (pc : Int) (d : List UInt8) (v : Value) (w : World) (hk : okR r pc) (hm : MemAt w v d) (hl : d.length ≤ 4096) :
    Calls Try.prog 12 #[.agg (stC r pc).toArray, v] w (RStepP w (stepS r pc d)) := by
  unfold stepS
  by_cases hf : pc + 4 ≤ d.length
  · rw [if_pos hf]
    cases hd : decC ⟨((d.drop pc.toNat).take 4).toArray⟩ with
    | none => exact rstep_broke r pc d v w hk hm hl hf hd
    | some c =>
      show Calls _ _ _ _ (RStepP w (doS c r pc d))
      by_cases hop : 18 ≤ c.op ∧ c.op ≤ 21
      · have hae := adI_nn (r.getD c.b.toNat 0) c.n
        obtain ⟨ad, had⟩ : ∃ ad : Nat, adI (r.getD c.b.toNat 0) c.n = ad := ⟨(adI (r.getD c.b.toNat 0) c.n).toNat, by omega⟩
        have hs8 : 0 < szI c.op ∧ szI c.op ≤ 8 := by unfold szI; split <;> omega
        by_cases hy : ad + szI c.op ≤ d.length
        · have hdo : doS c r pc d = if c.op = 18 ∨ c.op = 20 then (r.set c.a.toNat (numL ((d.drop ad).take (szI c.op)) : Nat), nxI pc, d, 0) else (r, nxI pc, over d ad (eightR (r.getD c.a.toNat 0) (szI c.op)), 0) := by
            unfold doS
            rw [if_neg (by omega), if_neg (by omega), if_neg (by omega), if_neg (by omega), if_pos hop, had, if_pos (by omega)]
            simp
          by_cases h18 : c.op = 18 ∨ c.op = 20
          · have hwa : wantS c.op c.n (r.getD c.a.toNat 0) (r.getD c.b.toNat 0) = ⟨false, ad, (szI c.op : Nat), ⟨#[]⟩⟩ := by
              unfold wantS szI
              rcases h18 with h | h
              · rw [if_pos h, if_pos (.inl h), had]; rfl
              · rw [if_neg (by omega), if_neg (by omega), if_pos h, if_neg (by omega), had]; rfl
            have := rstep_load r pc d v w c (szI c.op) ad hk hm hl hf hd rfl hwa had hy
            rw [if_pos h18] at hdo
            rw [hdo] at this ⊢
            exact this
          · have hwa : wantS c.op c.n (r.getD c.a.toNat 0) (r.getD c.b.toNat 0) = ⟨true, ad, (szI c.op : Nat), ⟨(eightR (r.getD c.a.toNat 0) (szI c.op)).toArray⟩⟩ := by
              unfold wantS szI
              by_cases h : c.op = 19
              · rw [if_neg (by omega), if_pos h, if_pos (.inr h), had]; rfl
              · rw [if_neg (by omega), if_neg h, if_neg (by omega), if_pos (by omega), if_neg (by omega), had]; rfl
            have := rstep_store r pc d v w c (szI c.op) ad (eightR (r.getD c.a.toNat 0) (szI c.op)) hk hm hl hf hd (by omega) rfl (eightR_len _ _) hwa had hy
            rw [if_neg h18] at hdo
            rw [hdo] at this ⊢
            exact this
        · have hdo : doS c r pc d = (r, pc, d, 3) := by
            unfold doS
            rw [if_neg (by omega), if_neg (by omega), if_neg (by omega), if_neg (by omega), if_pos hop, had, if_neg (by omega)]
          rw [hdo]
          obtain ⟨wb, sx, hwa⟩ : ∃ wb sx, wantS c.op c.n (r.getD c.a.toNat 0) (r.getD c.b.toNat 0) = ⟨wb, ad, (szI c.op : Nat), sx⟩ := by
            unfold wantS szI
            by_cases h1 : c.op = 18
            · exact ⟨_, _, by rw [if_pos h1, if_pos (.inl h1), had]; rfl⟩
            by_cases h2 : c.op = 19
            · exact ⟨_, _, by rw [if_neg h1, if_pos h2, if_pos (.inr h2), had]; rfl⟩
            by_cases h3 : c.op = 20
            · exact ⟨_, _, by rw [if_neg h1, if_neg h2, if_pos h3, if_neg (by omega), had]; rfl⟩
            · exact ⟨_, _, by rw [if_neg h1, if_neg h2, if_neg h3, if_pos (by omega), if_neg (by omega), had]; rfl⟩
          exact rstep_memno r pc d v w c (szI c.op) wb ad sx hk hm hl hf hd hs8 (by omega) hwa (by omega)
      · have := rstep_plain r pc d v w c hk hm hl hf hd hop
        have hdd : (doS c r pc d).2.2.1 = d := by
          unfold doS
          repeat (split; (first | rfl | skip))
          all_goals (first | rfl | omega)
        generalize doS c r pc d = x at this hdd ⊢
        obtain ⟨x1, x2, x3, x4⟩ := x
        simp only at hdd this
        subst hdd
        exact this
  · rw [if_neg hf]
    exact rstep_fault r pc d v w hk hm hl hf
end Go.Proofs.Ytbccckjkmlmhhaa
/- Over of the reference: step upon step. -/
namespace Go.Proofs.Ytbccckjkmlmhhaa
open Go.RowKit Go.Lib
/-- What a call of the reference's Over owes. -/
def ROverP (w : World) (x : List Int × Int × List UInt8 × Nat × Int) (e : Ending) (w' : World) : Prop :=
  ∃ v', e = .returned (.tuple #[stV x.1 x.2.1, v', .int .i64 x.2.2.2.1, .int .i64 x.2.2.2.2]) ∧ MemAt w' v' x.2.2.1 ∧ Below w.heap.size w w'
theorem results_rover (tmps : Array Value) (w : World) (g : Nat) (cs : Array Value) (x y z : Value) (h6 : tmps.getD 6 undef = .pointer (some ⟨g, 0, none⟩)) (hg : w.heap[g]? = some (.cells cs 25 (0, 0))) (hi : cs.size = 17)
    (h7 : tmps.getD 7 undef = x) (h8 : tmps.getD 8 undef = y) (h9 : tmps.getD 9 undef = z) : (results Try.f7 tmps).run Try.prog w = .ok (.tuple #[.agg cs, x, y, z]) w := by
  have hl := run_loadVar_row (P := Try.prog) w g 25 25 cs (0, 0) _ hg Try.underlying25 rfl (by rw [hi]; exact stInfo)
  have h6' : tmps[6]?.getD undef = .pointer (some ⟨g, 0, none⟩) := by simpa using h6
  have h7' : tmps[7]?.getD undef = x := by simpa using h7
  have h8' : tmps[8]?.getD undef = y := by simpa using h8
  have h9' : tmps[9]?.getD undef = z := by simpa using h9
  simp [results, Try.results7, h6', h7', h8', h9', asAddr, hl]
/-- Bytes don't lie in a state's block. -/
theorem memAt_ne {w : World} {v : Value} {d : List UInt8} (h : MemAt w v d) {k : Nat} {cs : Array Value} {t : TypeId} {f : Nat × Nat} (hk : w.heap[k]? = some (.cells cs t f)) (hc : ∀ u ∈ cs.toList, ∃ z, u = .int .u64 z) : ∀ B off, d ≠ [] → (∃ len cap, v = .slice (some ⟨B, off, none⟩) len cap) → B ≠ k := by
  rintro B off hd ⟨len, cap, he⟩ rfl
  obtain ⟨p, cap', h1, h2, h3⟩ := h
  rcases h3 with h3 | ⟨B', off', h3, h4, h5⟩
  · exact hd h3
  · rw [h1, h3] at he
    injection he with he1
    injection he1 with he2
    injection he2 with he3 he4
    subst he3
    have h0 := h5 0 (List.length_pos_iff.2 hd)
    simp only [World.cell?, hk] at h0
    have hm : (Value.int .u8 ((d[0]'(List.length_pos_iff.2 hd)).toNat : Int)) ∈ cs.toList := by
      rw [Array.mem_toList_iff]
      exact Array.mem_of_getElem? (by simpa using h0)
    obtain ⟨z, hz⟩ := hc _ hm
    cases hz
theorem stC_u64 (r : List Int) (pc : Int) : ∀ u ∈ (stC r pc).toArray.toList, ∃ z, u = .int .u64 z := by
  intro u hu
  unfold stC at hu
  simp at hu
  rcases hu with ⟨z, _, rfl⟩ | rfl
  · exact ⟨z, rfl⟩
  · exact ⟨pc, rfl⟩
abbrev zst : Array Value := #[.int .u64 0, .int .u64 0, .int .u64 0, .int .u64 0, .int .u64 0, .int .u64 0, .int .u64 0, .int .u64 0, .int .u64 0, .int .u64 0, .int .u64 0, .int .u64 0, .int .u64 0, .int .u64 0, .int .u64 0, .int .u64 0, .int .u64 0]
theorem zst_u64 : ∀ u ∈ zst.toList, ∃ z, u = .int .u64 z := by
  intro u hu
  simp at hu
  exact ⟨0, hu⟩
set_option maxRecDepth 100000 in
set_option maxHeartbeats 8000000 in
theorem rOver_any (n : Int) (r : List Int) (pc : Int) (d : List UInt8) (v : Value) (w : World) (hn : n ≤ 300) (hk : okR r pc) (hm : MemAt w v d) (hl : d.length ≤ 4096) :
    Calls Try.prog 7 #[v, stV r pc, .int .i64 n] w (ROverP w (overS n.toNat r pc d)) := by
  unfold stV
  obtain ⟨cs, hcs⟩ : ∃ cs, (stC r pc).toArray = cs := ⟨_, rfl⟩
  rw [hcs]
  obtain ⟨W, hW⟩ : ∃ W, (w.alloc (.cells cs 25)).alloc (.cells zst 25) = W := ⟨_, rfl⟩
  have hbW : Below w.heap.size w W := by rw [← hW]; go_grown
  have z1 : (w.alloc (.cells cs 25)).heap.size = w.heap.size + 1 := by simp
  have b0 : W.heap[w.heap.size]? = some (.cells cs 25 (0, 0)) := by
    rw [← hW]; exact (Lib.alloc_old _ _ _ (by simp)).trans (heap_new _ _)
  have b1 : W.heap[w.heap.size + 1]? = some (.cells zst 25 (0, 0)) := by
    rw [← hW, ← z1]; exact heap_new _ _
  have HN : Hid (overS n.toNat r pc d = plusK 0 (overS (n.toNat - 0) r pc d)) := rfl
  have HK := Lib.hid hk
  have HMW := Lib.hid (hm.below hbW)
  have HB0 : Hid (W.heap[w.heap.size]? = some (.cells (stC r pc).toArray 25 (0, 0))) := by rw [hcs]; exact b0
  have HB1 := Lib.hid b1
  have HBW := Lib.hid hbW
  clear hm z1 b0 b1 hbW
  go_enter Try.func7, Try.ntmps7
  go_wp2_with fail
  go_loopw [0, 10] (fun v x wr => ∃ (k : Nat) (r' : List Int) (pc' : Int) (d' : List UInt8), x = .int .i64 k ∧ k ≤ n.toNat ∧ okR r' pc' ∧ overS n.toNat r pc d = plusK k (overS (n.toNat - k) r' pc' d') ∧ d'.length ≤ 4096 ∧ MemAt wr v d' ∧ wr.heap[w.heap.size]? = some (.cells (stC r' pc').toArray 25 (0, 0)) ∧ wr.heap[w.heap.size + 1]? = some (.cells zst 25 (0, 0)) ∧ RowKit.Below w.heap.size w wr) (fun _ x _ => (n - RowKit.intOf x).toNat)
  case atStart => exact ⟨0, r, pc, d, rfl, Nat.zero_le _, HK.out, HN.out, hl, HMW.out, HB0.out, HB1.out, HBW.out⟩
  case round =>
    rename World => wr
    obtain ⟨k, r', pc', d', hx10, hkn, hk', ho, hl', hM, e0, e1, hB⟩ := hrel
    subst hx10
    clear HMW HB0 HB1 HBW hW
    have hr' := hk'.1
    have hsz : (Try.prog.info? 25).map (·.size) = some (stC r' pc').toArray.size := by rw [stC_size hr']; exact stInfo
    have hone := stC_one r' pc'
    have HQ : Hid ((stC r' pc').toArray.size = 17) := stC_size hr'
    have HUr := Lib.hid (stC_u64 r' pc')
    by_cases hlt : (k : Int) < n
    · have HS := Lib.hid (rstep_any r' pc' d' u0 wr hk' hM hl')
      obtain ⟨x, hx⟩ : ∃ x, stepS r' pc' d' = x := ⟨_, rfl⟩
      rw [hx] at HS
      have HX := Lib.hid hx
      have hok := stepS_ok (d := d') hk'
      rw [hx] at hok
      obtain ⟨r2, pc2, d2, what⟩ := x
      simp only at hok
      obtain ⟨m, hm⟩ : ∃ m, n.toNat - k = m + 1 := ⟨n.toNat - k - 1, by omega⟩
      have hm2 : n.toNat - (k + 1) = m := by omega
      have HS' : Hid (Calls Try.prog 12 #[.agg (stC r' pc').toArray, u0] wr fun e w' => ∃ v', e = .returned (.tuple #[.agg (stC r2 pc2).toArray, v', .int .i64 what]) ∧ MemAt w' v' d2 ∧ RowKit.Below wr.heap.size wr w') := HS
      have csz : (Try.prog.info? 25).map (·.size) = some (stC r2 pc2).toArray.size := by rw [stC_size hok.1.1]; exact stInfo
      have cone := stC_one r2 pc2
      have CQ : Hid ((stC r2 pc2).toArray.size = 17) := stC_size hok.1.1
      have HU2 := Lib.hid (stC_u64 r2 pc2)
      have HST : Hid (stV r2 pc2 = .agg (stC r2 pc2).toArray) := rfl
      have HO := Lib.hid ho
      have HBr := Lib.hid hB
      have hzr := hB.size
      have E0 := Lib.hid e0
      have E1 := Lib.hid e1
      have hl2 : d2.length ≤ 4096 := by rw [hok.2]; exact hl'
      clear HS hx ho hB hM hcs HUr
      obtain ⟨cm, cmE⟩ : ∃ c', (stC r2 pc2).toArray = c' := ⟨_, rfl⟩
      rw [cmE] at csz cone CQ HS' HU2 HST
      go_wp2_with (first
        | (refine wpList_load_row rfl 25 _ rfl w.heap.size rfl 25 _ (0, 0) _ e0 Try.underlying25 rfl hsz ?_)
        | (go_at_call 12; refine HS'.out.mono ?_; rintro e w4 ⟨v4, rfl, hM4, hB4⟩; refine Hid.out ?_))
      refine Lib.hid ?_
      obtain ⟨W7, hW7, n7, hb7⟩ := state_laid w4 cm
      have hn6 := heap_new w4 (.cells zst 25)
      have HW7 := Lib.hid hW7
      have hB7 := hB4.trans (hb7.mono hB4.size)
      have g0 := (hB7.block _ (Array.getElem?_eq_some_iff.1 E0.out).1).trans E0.out
      have g1 := (hB7.block _ (Array.getElem?_eq_some_iff.1 E1.out).1).trans E1.out
      have m7 := hM4.below hb7
      have hne0 := memAt_ne m7 g0 (stC_u64 r' pc')
      have m8 := memAt_setRow m7 hne0 cm
      have k0 := heap_setRow W7 w.heap.size _ cm _ g0
      have k1 : (W7.setRow w.heap.size cm).heap[w.heap.size + 1]? = some (.cells zst 25 (0, 0)) := (heap_setRow_ne _ _ _ (by omega)).trans g1
      have hb8 : RowKit.Below w.heap.size w (W7.setRow w.heap.size cm) := below_setRow (HBr.out.trans (hB7.mono hzr)) (Nat.le_refl _) cm
      have M8 := Lib.hid m8
      have K0 := Lib.hid k0
      have K1 := Lib.hid k1
      have HB8 := Lib.hid hb8
      clear hW7 hB4 hb7 hM4 m7 hne0 m8 hb8 hB7 e0 e1
      by_cases hwh : what = 0
      · subst hwh
        have HO2 : Hid (overS n.toNat r pc d = plusK (k + 1) (overS (n.toNat - (k + 1)) r2 pc2 d2)) := by
          simp only [Hid]
          rw [HO.out, hm, hm2, overS_ran HX.out, plusK_plusK, Nat.add_comm 1 k]
        clear HO HX hm hm2
        go_wp2_with (first
          | (refine wpList_store_row rfl 25 _ _ rfl w4.heap.size cm rfl rfl 25 _ hn6 csz (by rw [CQ.out]; rfl) cone ?_; rw [HW7.out])
          | (refine wpList_load_row rfl 25 _ rfl w4.heap.size rfl 25 _ (0, 0) _ n7 Try.underlying25 rfl csz ?_)
          | (refine wpList_store_row rfl 25 _ _ rfl w.heap.size cm rfl rfl 25 _ g0 csz (by rw [CQ.out]; exact HQ.out) cone ?_))
        go_roundw
        case rel => exact ⟨k + 1, r2, pc2, d2, by go_num, by omega, hok.1, HO2.out, hl2, M8.out, by rw [cmE]; exact K0.out, K1.out, HB8.out⟩
        case measure => simp only [RowKit.intOf]; omega
      · have HO2 : Hid (overS n.toNat r pc d = (r2, pc2, d2, k, what)) := by
          simp only [Hid]
          rw [HO.out, hm, overS_stop HX.out hwh]
          simp [plusK]
        clear HO HX hm hm2
        have hwb : (what == 0) = false := by simpa using hwh
        have hwb2 : (what != 0) = true := by simpa using hwh
        have M9 := Lib.hid (memAt_setRow M8.out (memAt_ne M8.out K1.out zst_u64) cm)
        have HB9 := Lib.hid (below_setRow HB8.out (g := w.heap.size + 1) (by omega) cm)
        have K9 := Lib.hid (heap_setRow _ _ _ cm _ K1.out)
        go_wp2_with (first
          | (refine wpList_store_row rfl 25 _ _ rfl w4.heap.size cm rfl rfl 25 _ hn6 csz (by rw [CQ.out]; rfl) cone ?_; rw [HW7.out])
          | (refine wpList_load_row rfl 25 _ rfl w4.heap.size rfl 25 _ (0, 0) _ n7 Try.underlying25 rfl csz ?_)
          | (refine wpList_store_row rfl 25 _ _ rfl w.heap.size cm rfl rfl 25 _ g0 csz (by rw [CQ.out]; exact HQ.out) cone ?_)
          | (refine wpList_load_row rfl 25 _ rfl w.heap.size rfl 25 _ (0, 0) _ k0 Try.underlying25 rfl csz ?_)
          | (refine wpList_store_row rfl 25 _ _ rfl (w.heap.size + 1) cm rfl rfl 25 _ k1 csz (by rw [CQ.out]; rfl) cone ?_))
        refine bodyPost_ret (results_rover _ _ (w.heap.size + 1) cm v4 (.int .i64 k) (.int .i64 what) rfl K9.out CQ.out rfl rfl rfl) rfl ?_
        rw [HO2.out]
        exact ⟨v4, by rw [HST.out], M9.out, HB9.out⟩
    · have hkn2 : k = n.toNat := by omega
      have HO2 : Hid (overS n.toNat r pc d = (r', pc', d', n.toNat, 0)) := by
        simp only [Hid]
        rw [ho, hkn2, Nat.sub_self]
        simp [overS, plusK]
      have HST : Hid (stV r' pc' = .agg (stC r' pc').toArray) := rfl
      have HMx : Hid (Value.int .i64 (max n 0) = .int .i64 (n.toNat : Int)) := by simp only [Hid]; congr 1; omega
      have M9 := Lib.hid (memAt_setRow hM (memAt_ne hM e1 zst_u64) (stC r' pc').toArray)
      have HB9 := Lib.hid (below_setRow hB (g := w.heap.size + 1) (by omega) (stC r' pc').toArray)
      have K9 := Lib.hid (heap_setRow _ _ _ (stC r' pc').toArray _ e1)
      generalize (stC r' pc').toArray = cs2 at *
      clear hM ho hB hcs
      go_wp2_with (first
        | (refine wpList_load_row rfl 25 _ rfl w.heap.size rfl 25 _ (0, 0) _ e0 Try.underlying25 rfl hsz ?_)
        | (refine wpList_store_row rfl 25 _ _ rfl (w.heap.size + 1) cs2 rfl rfl 25 _ e1 hsz (by rw [HQ.out]; rfl) hone ?_))
      refine bodyPost_ret (results_rover _ _ (w.heap.size + 1) cs2 u0 (.int .i64 (n.toNat : Int)) (.int .i64 0) rfl K9.out HQ.out rfl HMx.out rfl) rfl ?_
      rw [HO2.out]
      exact ⟨u0, by rw [HST.out], M9.out, HB9.out⟩
end Go.Proofs.Ytbccckjkmlmhhaa
/- Regions whose order is drawn, with one store among operations that keep all that is older. -/
namespace Go.Proofs.Ytbccckjkmlmhhaa
open Go.RowKit Go.Sort
def dstC (ops : Array Oper) (c n : Nat) : Bool := ((List.range ops.size).all fun i => i == c || match ops[i]? with | some o => (match o.dst with | some d => decide (d < n) | none => false) | none => true) && decide (dsts ops).Nodup && (match ops[c]? with | some o => o.dst.isNone | none => false)
section
variable {P : Program}
theorem dstC_of {ops : Array Oper} {c n : Nat} (h : dstC ops c n = true) {i : Nat} {o : Oper} (ho : ops[i]? = some o) (hi : i ≠ c) : ∃ d, o.dst = some d ∧ d < n := by
  unfold dstC at h
  rw [Bool.and_eq_true, Bool.and_eq_true, List.all_eq_true] at h
  have := h.1.1 i (List.mem_range.2 (Array.getElem?_eq_some_iff.1 ho).1)
  rw [ho] at this
  cases hd : o.dst with
  | none => simp [hd, hi] at this
  | some d => simp [hd, hi] at this; exact ⟨d, rfl, this⟩
theorem dstC_inj {ops : Array Oper} {c n : Nat} (h : dstC ops c n = true) {i j : Nat} {o o' : Oper} {d : Nat} (h1 : ops[i]? = some o) (h2 : ops[j]? = some o') (d1 : o.dst = some d) (d2 : o'.dst = some d) : i = j := by
  unfold dstC at h
  rw [Bool.and_eq_true, Bool.and_eq_true, decide_eq_true_eq] at h
  exact fm_inj h.1.2 (by rw [Array.getElem?_toList]; exact h1) (by rw [Array.getElem?_toList]; exact h2) d1 d2
theorem getD_one {li : Array Bool} {i : Nat} (h : li.getD i true = false) : li.getD i false = false := by
  rw [Array.getD_eq_getD_getElem?] at h ⊢
  cases hx : li[i]? with
  | none => rw [hx] at h; cases h
  | some b => rw [hx] at h; simpa using h
theorem getD_oneS {li : Array Bool} {i : Nat} (h : li.getD i true = false) : (li.setIfInBounds i true).getD i false = true := by
  rw [Array.getD_eq_getD_getElem?] at h ⊢
  cases hx : li[i]? with
  | none => rw [hx] at h; cases h
  | some b => rw [Array.getElem?_setIfInBounds_self_of_lt (Array.getElem?_eq_some_iff.1 hx).1]; rfl
theorem getD_oneN {li : Array Bool} {i j : Nat} (h : j ≠ i) : (li.setIfInBounds i true).getD j false = li.getD j false := by
  rw [Array.getD_eq_getD_getElem?, Array.getElem?_setIfInBounds_ne (Ne.symm h), ← Array.getD_eq_getD_getElem?]
/-- The law: the operation c stores, the others keep all that is older; J speaks of slot e0, which c waits for. -/
theorem wp_region_st {l : List Oper} {id : Nat} {Q : Exit → Act → World → Prop} {a : Act} {w : World} (f c x0 e0 : Nat) (R : World → World → Prop) (J : Act → World → Prop) (G : Nat → Value → World → Prop)
    (hm : P.follows .mixedOrders = true) (hback : backT l.toArray = true) (hdst : dstC l.toArray c a.tmps.size = true) (hneed : needB l.toArray f c x0 = true) (hx0 : (l[x0]?).bind (·.dst) = some e0) (hcl : c < l.length)
    (hRb : ∀ W W', Below W.heap.size W W' → R W W') (hRt : ∀ A B C, R A B → R B C → R A C)
    (hJ : ∀ a' d v W W', J a' W → d ≠ e0 → Below W.heap.size W W' → J (a'.put (some d) v) W')
    (hmono : ∀ k v W W', G k v W → R W W' → G k v W')
    (hstep : ∀ (a' : Act) (W : World), R w W → a'.tmps.size = a.tmps.size → (∀ k, (dsts l.toArray).contains k = false → a'.eval (.tmp k) = a.eval (.tmp k)) →
      ∀ (i : Nat) (o : Oper) (d : Nat), i ≠ c → l[i]? = some o → o.dst = some d →
      (∀ e ∈ o.after, Region.binds .any e = true → ∀ d', (l[e.on]?).bind (·.dst) = some d' → G d' (a'.eval (.tmp d')) W) →
      Region.wanted o (yielded l.toArray a'.tmps) = true ∧ ((∃ v W', (execOp a'.eval o).run P W = .ok (.value v) W' ∧ Below W.heap.size W W' ∧ G d v W') ∨
        (∃ f args, (execOp a'.eval o).run P W = .ok (.enter f args) W ∧ Calls P f args W fun e W' => ∃ v, e = .returned v ∧ Below W.heap.size W W' ∧ G d v W')))
    (hst : ∀ (a' : Act) (W : World), R w W → ∀ o, l[c]? = some o → (∀ e ∈ o.after, Region.binds .any e = true → ∀ d', (l[e.on]?).bind (·.dst) = some d' → G d' (a'.eval (.tmp d')) W) →
      Region.wanted o (yielded l.toArray a'.tmps) = true ∧ ∃ W', (execOp a'.eval o).run P W = .ok .skip W' ∧ R W W' ∧ J a' W')
    (hend : ∀ a' W, J a' W → R w W → a'.tmps.size = a.tmps.size → a'.defers = a.defers → (∀ k, (dsts l.toArray).contains k = false → a'.eval (.tmp k) = a.eval (.tmp k)) →
      (∀ (i d : Nat), i < l.length → (l[i]?).bind (·.dst) = some d → G d (a'.eval (.tmp d)) W) → Q .normal a' W) : (Code.region id l.toArray true).wp P Q a w := by
  refine wp_region_inv (fun li a' W => ClB l.toArray li ∧ li.size = l.length ∧ a'.tmps.size = a.tmps.size ∧ a'.defers = a.defers ∧ (∀ k, (dsts l.toArray).contains k = false → a'.eval (.tmp k) = a.eval (.tmp k)) ∧ R w W ∧ (∀ (i d : Nat), li.getD i false = true → (l[i]?).bind (·.dst) = some d → G d (a'.eval (.tmp d)) W) ∧ (li.getD c false = true → J a' W)) hm ?_ ?_ ?_
  · rintro li a' W i o ⟨hcb, hsz, hs, hdf, hk, hR, hG, hp⟩ hu ho hd
    have hlo : l[i]? = some o := by simpa using ho
    have hdeps : ∀ e ∈ o.after, Region.binds .any e = true → ∀ d', (l[e.on]?).bind (·.dst) = some d' → G d' (a'.eval (.tmp d')) W := fun e he hbd d' hd' => hG e.on d' (hd e he hbd) hd'
    by_cases hic : i = c
    · subst hic
      obtain ⟨hw, W', hr, hRW, hJW⟩ := hst a' W hR o hlo hdeps
      have hdn : o.dst = none := by
        have h := hdst
        unfold dstC at h
        rw [Bool.and_eq_true] at h
        have h2 := h.2
        rw [ho] at h2
        simpa using h2
      have hput : a'.put o.dst undef = a' := by rw [hdn]; rfl
      refine ⟨hw, .inr (.inl ⟨W', hr, hcb.set ho hd, by rw [Array.size_setIfInBounds]; exact hsz, by rw [hput]; exact hs, by rw [hput]; exact hdf, by rw [hput]; exact hk, hRt _ _ _ hR hRW, ?_, by rw [hput]; exact fun _ => hJW⟩)⟩
      intro j dj hj hdj
      rw [hput]
      by_cases hij : j = i
      · subst hij; rw [hlo] at hdj; rw [show (some o).bind (·.dst) = o.dst from rfl, hdn] at hdj; cases hdj
      · rw [getD_oneN hij] at hj
        exact hmono _ _ _ _ (hG j dj hj hdj) hRW
    · obtain ⟨d, hdo, hdn⟩ := dstC_of hdst ho hic
      obtain ⟨hw, h2⟩ := hstep a' W hR hs hk i o d hic hlo hdo hdeps
      have next : ∀ (v : Value) (W' : World), Below W.heap.size W W' → G d v W' →
          ClB l.toArray (li.setIfInBounds i true) ∧ (li.setIfInBounds i true).size = l.length ∧ (a'.put o.dst v).tmps.size = a.tmps.size ∧ (a'.put o.dst v).defers = a.defers ∧ (∀ k, (dsts l.toArray).contains k = false → (a'.put o.dst v).eval (.tmp k) = a.eval (.tmp k)) ∧ R w W' ∧ (∀ (j dj : Nat), (li.setIfInBounds i true).getD j false = true → (l[j]?).bind (·.dst) = some dj → G dj ((a'.put o.dst v).eval (.tmp dj)) W') ∧ ((li.setIfInBounds i true).getD c false = true → J (a'.put o.dst v) W') := by
        intro v W' hb hv
        rw [hdo]
        refine ⟨hcb.set ho hd, by rw [Array.size_setIfInBounds]; exact hsz, by simp only [Act.put]; rw [Array.size_setIfInBounds]; exact hs, by simp only [Act.put]; exact hdf, ?_, hRt _ _ _ hR (hRb _ _ hb), ?_, ?_⟩
        · intro k hkn
          rw [put_ne a' v (fun e => by rw [e, List.contains_iff_mem.2 (mem_dsts ho hdo)] at hkn; cases hkn)]
          exact hk k hkn
        · intro j dj hj hdj
          by_cases hij : j = i
          · subst hij
            rw [hlo] at hdj
            have : d = dj := Option.some.inj (hdo.symm.trans hdj)
            subst this
            rw [put_eq a' v (by rw [hs]; exact hdn)]
            exact hv
          · rw [getD_oneN hij] at hj
            have hne : dj ≠ d := by
              intro e
              subst e
              cases hoj : l[j]? with
              | none => rw [hoj] at hdj; cases hdj
              | some o' =>
                rw [hoj] at hdj
                exact hij (dstC_inj hdst (show l.toArray[j]? = some o' from by simpa using hoj) ho hdj hdo)
            rw [put_ne a' v hne]
            exact hmono _ _ _ _ (hG j dj hj hdj) (hRb _ _ hb)
        · intro hcd
          rw [getD_oneN (Ne.symm hic)] at hcd
          have hco : ∃ oc, l.toArray[c]? = some oc := ⟨l[c], by simp [hcl]⟩
          obtain ⟨oc, hoc⟩ := hco
          have hx := need_done hcb f c x0 oc hoc (hcb c oc hoc hcd) hneed
          refine hJ a' d v W W' (hp hcd) (fun e => ?_) hb
          subst e
          have hix : i = x0 := by
            cases hox : l[x0]? with
            | none => rw [hox] at hx0; cases hx0
            | some o' =>
              rw [hox] at hx0
              exact dstC_inj hdst ho (show l.toArray[x0]? = some o' from by simpa using hox) hdo hx0
          subst hix
          rw [getD_one hu] at hx
          cases hx
      refine ⟨hw, ?_⟩
      rcases h2 with ⟨v, W', hr, hb, hv⟩ | ⟨f', args, hr, hc⟩
      · exact .inl ⟨v, W', hr, next v W' hb hv⟩
      · exact .inr (.inr ⟨f', args, hr, hc.mono fun e W' ⟨v, he, hb, hv⟩ => ⟨v, he, next v W' hb hv⟩⟩)
  · rintro li a' W ⟨hcb, hsz, hs, hdf, hk, hR, hG, hp⟩ he
    have hall : ∀ j, j < l.length → li.getD j false = true := fun j hj => ready_nil_allT hback (by simpa using hsz) he j j (Nat.le_refl _) (by simpa using hj)
    exact hend a' W (hp (hall c hcl)) hR hs hdf hk (fun i d hi hd => hG i d (hall i hi) hd)
  · have h0 : ∀ i, (Array.replicate l.toArray.size false).getD i false = false := fun i => by
      rw [Array.getD_eq_getD_getElem?, Array.getElem?_replicate]; split <;> rfl
    refine ⟨?_, by simp, rfl, rfl, fun _ _ => rfl, hRb _ _ ((Below.refl w.heap.size w).drew), ?_, ?_⟩
    · intro i o _ hi; rw [h0] at hi; cases hi
    · intro i d hi; rw [h0] at hi; cases hi
    · intro hi; rw [h0] at hi; cases hi
end
end Go.Proofs.Ytbccckjkmlmhhaa
/- What a store of a state keeps. -/
namespace Go.Proofs.Ytbccckjkmlmhhaa
open Go.RowKit Go.Lib
theorem exec_load {o : Oper} {ev : Operand → Value} {ty : TypeId} {x : Operand} {g : Nat} {v : Value} {w : World} (ho : o.op = .load ty x) (hx : ev x = .pointer (some ⟨g, 0, none⟩)) (hl : (loadVar ty ⟨g, 0, none⟩).run Try.prog w = .ok v w) : (execOp ev o).run Try.prog w = .ok (.value v) w := by
  unfold execOp
  simp only [ho, hx, Instr.loadAt, Instr.sureAddr, Sem.run_bind, Sem.run_pure, Result.andThen_ok, hl]
theorem exec_store {o : Oper} {ev : Operand → Value} {ty : TypeId} {x y : Operand} {g : Nat} {v : Value} {w w' : World} (ho : o.op = .store ty x y) (hx : ev x = .pointer (some ⟨g, 0, none⟩)) (hy : ev y = v) (hl : (storeVar ty ⟨g, 0, none⟩ v).run Try.prog w = .ok () w') : (execOp ev o).run Try.prog w = .ok .skip w' := by
  unfold execOp
  simp only [ho, hx, hy, Instr.storeAt, Instr.sureAddr, Sem.run_bind, Sem.run_pure, Result.andThen_ok, hl]
/-- Only states' blocks at B or behind may turn, into states' blocks. -/
structure Rs (B : Nat) (X X' : World) : Prop where
  os : X'.os = X.os
  tape : X'.tape = X.tape
  output : X'.output = X.output
  size : X.heap.size ≤ X'.heap.size
  same : ∀ k, k < X.heap.size → X'.heap[k]? = X.heap[k]? ∨ (B ≤ k ∧ (∃ c, X.heap[k]? = some (.cells c 25 (0, 0)) ∧ c.size = 17 ∧ ∀ u ∈ c.toList, ∃ z, u = .int .u64 z) ∧ ∃ c, X'.heap[k]? = some (.cells c 25 (0, 0)) ∧ c.size = 17 ∧ ∀ u ∈ c.toList, ∃ z, u = .int .u64 z)
theorem Rs.below {B : Nat} {X X' : World} (h : Below X.heap.size X X') : Rs B X X' := ⟨h.os, h.tape, h.output, h.size, fun k hk => .inl (h.block k hk)⟩
theorem Rs.trans {B : Nat} {X Y Z : World} (h : Rs B X Y) (k : Rs B Y Z) : Rs B X Z := by
  refine ⟨k.os.trans h.os, k.tape.trans h.tape, k.output.trans h.output, Nat.le_trans h.size k.size, fun i hi => ?_⟩
  have hi2 := Nat.lt_of_lt_of_le hi h.size
  rcases h.same i hi with e1 | ⟨a1, a2, a3⟩ <;> rcases k.same i hi2 with e2 | ⟨b1, b2, b3⟩
  · exact .inl (e2.trans e1)
  · rw [e1] at b2; exact .inr ⟨b1, b2, b3⟩
  · rw [← e2] at a3; exact .inr ⟨a1, a2, a3⟩
  · exact .inr ⟨a1, a2, b3⟩
theorem Rs.mem {B : Nat} {X X' : World} {v : Value} {d : List UInt8} (h : MemAt X v d) (hr : Rs B X X') : MemAt X' v d := by
  obtain ⟨p, cap, h1, h2, h3⟩ := h
  refine ⟨p, cap, h1, h2, ?_⟩
  by_cases hd : d = []
  · exact .inl hd
  rcases h3 with h3 | ⟨b, off, q3, q4, q5⟩
  · exact .inl h3
  · refine .inr ⟨b, off, q3, Nat.lt_of_lt_of_le q4 hr.size, fun j hj => ?_⟩
    rcases hr.same b q4 with e | ⟨_, ⟨c, hc, _, hu⟩, _⟩
    · rw [← q5 j hj]; simp only [World.cell?, e]
    · exact absurd rfl (memAt_ne ⟨p, cap, h1, h2, .inr ⟨b, off, q3, q4, q5⟩⟩ hc hu b off hd ⟨_, _, by rw [h1, q3]⟩)
def Sb (B : Nat) (u : Value) (X : World) : Prop := ∃ gz c, u = .pointer (some ⟨gz, 0, none⟩) ∧ B ≤ gz ∧ X.heap[gz]? = some (.cells c 25 (0, 0)) ∧ c.size = 17 ∧ ∀ u ∈ c.toList, ∃ z, u = .int .u64 z
theorem Sb.rs {B : Nat} {u : Value} {X X' : World} (h : Sb B u X) (hr : Rs B X X') : Sb B u X' := by
  obtain ⟨gz, c, h1, h2, h3, h4, h5⟩ := h
  rcases hr.same gz (Array.getElem?_eq_some_iff.1 h3).1 with e | ⟨_, _, c', hc', h6, h7⟩
  · exact ⟨gz, c, h1, h2, e.trans h3, h4, h5⟩
  · exact ⟨gz, c', h1, h2, hc', h6, h7⟩
theorem Rs.set {B : Nat} {X : World} {gz : Nat} {c cs : Array Value} (h2 : B ≤ gz) (h3 : X.heap[gz]? = some (.cells c 25 (0, 0))) (h4 : c.size = 17) (h5 : ∀ u ∈ c.toList, ∃ z, u = .int .u64 z) (hs : cs.size = 17) (hu : ∀ u ∈ cs.toList, ∃ z, u = .int .u64 z) : Rs B X (X.setRow gz cs) := by
  refine ⟨rfl, rfl, rfl, by rw [size_setRow]; exact Nat.le_refl _, fun k hk => ?_⟩
  by_cases e : k = gz
  · subst e
    exact .inr ⟨h2, ⟨c, h3, h4, h5⟩, cs, heap_setRow _ _ _ _ _ h3, hs, hu⟩
  · exact .inl (heap_setRow_ne _ _ _ e)
theorem Rs.to {X X' : World} (h : Rs X.heap.size X X') : Below X.heap.size X X' :=
  ⟨h.os, h.tape, h.output, h.size, fun k hk => (h.same k hk).elim id (fun ⟨a, _⟩ => by omega)⟩
end Go.Proofs.Ytbccckjkmlmhhaa
namespace Go.Proofs.Ytbccckjkmlmhhaa
open Go.RowKit Go.Lib
theorem yielded_of {l : List Oper} {a' : Act} {j d : Nat} {b : Bool} {n : Nat} (hs : a'.tmps.size = n) (hd : (l[j]?).bind (·.dst) = some d) (hn : d < n) (hv : a'.eval (.tmp d) = .bool b) : yielded l.toArray a'.tmps j = some b := by
  unfold yielded
  simp only [List.getElem?_toArray]
  rw [hd]
  simp only [Option.bind_some]
  have hlt : d < a'.tmps.size := by omega
  simp only [Act.eval, Array.getD_eq_getD_getElem?, Array.getElem?_eq_getElem hlt, Option.getD_some] at hv
  rw [Array.getElem?_eq_getElem hlt, hv]
theorem want_yes {l : List Oper} {o : Oper} {a' : Act} {j d : Nat} {b : Bool} {n : Nat} (ho : o.guard = some (j, b)) (hs : a'.tmps.size = n) (hn : d < n) (hd : (l[j]?).bind (·.dst) = some d) (hv : a'.eval (.tmp d) = .bool b) : Region.wanted o (yielded l.toArray a'.tmps) = true := by
  unfold Region.wanted
  rw [ho]
  simp only
  rw [yielded_of hs hd hn hv]
  simp
theorem exec_call1 {o : Oper} {ev : Operand → Value} {f : Nat} {x0 : Operand} {ts : Array TypeId} {v0 : Value} {w : World} (ho : o.op = .call { callee := .value (.func f), args := #[x0], argTypes := ts }) (hf : ev (.func f) = .func (.func f) #[] #[]) (h0 : ev x0 = v0) (eg : ∀ args w, (callFunc f args).run Try.prog w = .ok (.enter f args) w) : (execOp ev o).run Try.prog w = .ok (.enter f #[v0]) w := by
  unfold execOp
  simp [ho, resolve, invoke, hf, h0, eg, go_sem]
theorem exec_call3 {o : Oper} {ev : Operand → Value} {f : Nat} {x0 x1 x2 : Operand} {ts : Array TypeId} {v0 v1 v2 : Value} {w : World} (ho : o.op = .call { callee := .value (.func f), args := #[x0, x1, x2], argTypes := ts }) (hf : ev (.func f) = .func (.func f) #[] #[]) (h0 : ev x0 = v0) (h1 : ev x1 = v1) (h2 : ev x2 = v2) (eg : ∀ args w, (callFunc f args).run Try.prog w = .ok (.enter f args) w) : (execOp ev o).run Try.prog w = .ok (.enter f #[v0, v1, v2]) w := by
  unfold execOp
  simp [ho, resolve, invoke, hf, h0, h1, h2, eg, go_sem]
theorem conv_mem {W : World} {v : Value} {d : List UInt8} (h : MemAt W v d) : Sem.run Try.prog (convert 31 9 v) W = .ok (.string ⟨d.toArray⟩) W := by
  obtain ⟨p, cap, rfl, _, h3⟩ := h
  cases p with
  | none =>
    rcases h3 with rfl | ⟨_, _, h, _⟩
    · rw [run_convert_bytes_string W 31 9 5 none _ cap Try.underlying31 Try.underlying5 Try.underlying9]
      rfl
    · cases h
  | some a =>
    refine run_convert_bytes_back (P := Try.prog) W 31 9 5 a cap d Try.underlying31 Try.underlying5 Try.underlying9 (fun j hj => ?_)
    rcases h3 with rfl | ⟨B, off, hp, _, hc⟩
    · simp at hj
    · cases hp
      rw [show (⟨B, off, none⟩ : Addr).add j = ⟨B, off + j, none⟩ from by unfold Addr.add; split <;> simp_all]
      exact hc j hj
theorem bw_below (w : World) (e : TypeId) (s : ByteArray) : Below w.heap.size w (Lib.bytesWorld w e s) :=
  ⟨rfl, rfl, rfl, by rw [Lib.bytesWorld_size]; omega, fun k hk => Lib.bytesWorld_at_old w e s k hk⟩
theorem memAt_conv (w : World) (s : ByteArray) : MemAt (Lib.bytesWorld w 5 s) (.slice (some ⟨w.heap.size, 0, none⟩) s.size (grownCap w s.size 0 5)) s.data.toList := by
  have hl : s.data.toList.length = s.size := by simp
  refine ⟨_, _, by rw [hl], by rw [hl]; exact grownCap_ge _ _ _ _, .inr ⟨w.heap.size, 0, rfl, by rw [Lib.bytesWorld_size]; omega, fun j hj => ?_⟩⟩
  rw [Nat.zero_add, Lib.bytesWorld_cell w 5 s j (by omega), List.getD_eq_getElem?_getD, List.getElem?_eq_getElem hj]
  rfl
theorem memL_extract (s : ByteArray) (m : Nat) (h : min s.size 4096 = m) : (s.extract 0 m).data.toList = memL s := by
  unfold memL
  rw [ByteArray.data_extract, Array.toList_extract, List.extract_eq_take_drop, List.drop_zero, Nat.sub_zero]
  have hl : s.data.toList.length = s.size := by simp
  by_cases hs : s.size ≤ 4096
  · rw [List.take_of_length_le (by omega), List.take_of_length_le (by omega)]
  · rw [show m = 4096 from by omega]
set_option maxRecDepth 100000 in
set_option maxHeartbeats 8000000 in
theorem CpuRuns_any (s : ByteArray) (r : List Int) (pc : Int) (n : Int) (w : World) (hs : s.size < 4611686018427387904) (hk : okR r pc) :
    Calls Try.prog 3 #[.string s, stV r pc, .int .i64 n] w fun e w' => e = .returned (.bool true) ∧ Below w.heap.size w w' := by
  have hr := hk.1
  have hd4 : (memL s).length ≤ 4096 := by rw [memL_len]; omega
  have HK := Lib.hid hk
  have HL := Lib.hid lives_any
  have HM := Lib.hid (fun w' => memory_any s w' hs)
  have HEx := Lib.hid (memL_extract s)
  generalize memL s = d at *
  have hsz : (Try.prog.info? 25).map (·.size) = some (stC r pc).toArray.size := by rw [stC_size hr]; exact stInfo
  have HS : Hid (stV r pc = .agg (stC r pc).toArray) := rfl
  unfold stV
  obtain ⟨cs, hcs⟩ : ∃ cs, (stC r pc).toArray = cs := ⟨_, rfl⟩
  rw [hcs] at hsz HS ⊢
  have hb1 : Below w.heap.size w (w.alloc (.cells cs 25)) := (Below.refl _ _).alloc (Nat.le_refl _) _
  have k1 : (w.alloc (.cells cs 25)).heap[w.heap.size]? = some (.cells cs 25 (0, 0)) := heap_new _ _
  have z1 : w.heap.size < (w.alloc (.cells cs 25)).heap.size := by simp
  go_enter Try.func3, Try.ntmps3
  go_upto_region 6 with (first
    | (go_at_call 4; refine (HL.out _).mono ?_; rintro e w2 ⟨rfl, hB2⟩)
    | (go_at_call 5; refine (HM.out _).mono ?_; rintro e w3 ⟨rfl, ⟨ls3, hA3⟩, hB3⟩))
  have q2 : Below w.heap.size w w2 := hb1.trans (hB2.mono hb1.size)
  have q3 : Below w.heap.size w w3 := q2.trans (hB3.mono q2.size)
  have k3 : w3.heap[w.heap.size]? = some (.cells cs 25 (0, 0)) := (hB3.block _ (Nat.lt_of_lt_of_le z1 hB2.size)).trans ((hB2.block _ z1).trans k1)
  have z2 : w.heap.size < w2.heap.size := Nat.lt_of_lt_of_le z1 hB2.size
  have hbw3 : w2.heap.size ≤ w3.heap.size := hB3.size
  generalize w2.heap.size = Bb at *
  obtain ⟨m, hm⟩ : ∃ m : Int, min n 300 = m := ⟨_, rfl⟩
  have hm3 : m ≤ 300 := by omega
  go_cut [2] from 21 to 22 (fun v2 wx => v2 = .int .i64 m ∧ wx = w3)
  case first =>
    clear HEx
    by_cases hn3 : 300 < n
    · obtain rfl : m = 300 := by omega
      go_wp2_with fail
      go_meet
      exact ⟨rfl, rfl⟩
    · obtain rfl : m = n := by omega
      have hn4 : ¬ (300 : Int) < m := hn3
      go_wp2_with fail
      go_meet
      exact ⟨rfl, rfl⟩
  case rest =>
    obtain ⟨hv2, hwc⟩ := hcut
    subst hv2 hwc
    rename World => w3
    clear hm
    have HO := Over_any Bb Bb m r pc d ls3 w3 (by omega) HK.out hA3
    rw [HS.out] at HO
    have hok := overS_ok m.toNat (d := d) HK.out
    have HRO := Lib.hid (fun v W (h : MemAt W v d) => rOver_any m r pc d v W hm3 HK.out h hd4)
    rw [HS.out] at HRO
    generalize overS m.toNat r pc d = x at HO HRO hok
    obtain ⟨r2, pc2, d2, kk, what⟩ := x
    simp only at HO hok
    obtain ⟨⟨hr2, _, _⟩, hdl⟩ := hok
    have hsz2 : (Try.prog.info? 25).map (·.size) = some (stC r2 pc2).toArray.size := by rw [stC_size hr2]; exact stInfo
    have hone := stC_one r2 pc2
    have HQ : Hid ((stC r2 pc2).toArray.size = 17) := stC_size hr2
    have HO' : Hid (Calls Try.prog 6 #[.pointer (some ⟨Bb, 0, none⟩), .agg cs, .int .i64 m] w3 fun e w' => e = .returned (.tuple #[.agg (stC r2 pc2).toArray, .int .i64 kk, .int .i64 what]) ∧ (∃ ls', BAt w' Bb Bb d2 ls') ∧ Below Bb w3 w') := HO.mono fun e w' hh => ⟨hh.1, hh.2.1, hh.2.2.1⟩
    have HRO' : Hid (∀ v W, MemAt W v d → Calls Try.prog 7 #[v, .agg cs, .int .i64 m] W fun e w' => ∃ v', e = .returned (.tuple #[.agg (stC r2 pc2).toArray, v', .int .i64 kk, .int .i64 what]) ∧ MemAt w' v' d2 ∧ Below W.heap.size W w') := HRO
    obtain ⟨cs2, hcs2⟩ : ∃ cs2, (stC r2 pc2).toArray = cs2 := ⟨_, rfl⟩
    rw [hcs2] at hsz2 hone HQ HO' HRO'
    have HES := Lib.hid (eq_st16 hr2 hcs2)
    have HPC := Lib.hid (st_pc16 hr2 hcs2)
    clear HO HRO hA3 k1 hB3 hB2 q2 hb1
    go_wp2_with (first
      | (refine wpList_load_row rfl 25 _ rfl w.heap.size rfl 25 _ (0, 0) _ k3 Try.underlying25 rfl hsz ?_)
      | (go_at_call 6; refine HO'.out.mono ?_; rintro e w5 ⟨rfl, ⟨ls5, hA5⟩, hB5⟩; refine Hid.out ?_))
    refine Lib.hid ?_
    obtain ⟨W6, hW6, n6, hb6⟩ := state_laid w5 cs2
    have hn5 := heap_new w5 (.cells #[.int .u64 0, .int .u64 0, .int .u64 0, .int .u64 0, .int .u64 0, .int .u64 0, .int .u64 0, .int .u64 0, .int .u64 0, .int .u64 0, .int .u64 0, .int .u64 0, .int .u64 0, .int .u64 0, .int .u64 0, .int .u64 0, .int .u64 0] 25)
    have HW6 := Lib.hid hW6
    have k5 : w5.heap[w.heap.size]? = some (.cells cs 25 (0, 0)) := (hB5.block _ z2).trans k3
    have k6 := (hb6.block _ (Array.getElem?_eq_some_iff.1 k5).1).trans k5
    have q5 : Below w.heap.size w w5 := q3.trans (hB5.mono (by omega))
    have q6 : Below w.heap.size w W6 := q5.trans (hb6.mono q5.size)
    have A6 := hA5.below hb6
    have Q6 := Lib.hid q6
    have HA6 := Lib.hid A6
    have N6 := Lib.hid n6
    clear hW6 hB5 hA5 hb6 q5 q6 A6 k5 k3
    go_upto_region 8 with (refine wpList_store_row rfl 25 _ _ rfl w5.heap.size cs2 rfl rfl 25 _ hn5 hsz2 (by rw [HQ.out]; rfl) hone ?_; rw [HW6.out])
    go_cut [11, 12, 13, 14] from 31 to 44 (fun v11 v12 v13 v14 wx => ∃ gq, v11 = .pointer (some ⟨gq, 0, none⟩) ∧ v13 = .int .i64 kk ∧ v14 = .int .i64 what ∧ MemAt wx v12 d2 ∧ wx.heap[gq]? = some (.cells cs2 25 (0, 0)) ∧ RowKit.Below W6.heap.size W6 wx)
    case first =>
      have HX0 : Hid (∀ X, RowKit.Below W6.heap.size W6 X → X.heap[w.heap.size]? = some (.cells cs 25 (0, 0))) := fun X hX => (hX.block _ (Array.getElem?_eq_some_iff.1 k6).1).trans k6
      clear k6
      have hu2 : ∀ u ∈ cs2.toList, ∃ z, u = .int .u64 z := by rw [← hcs2]; exact stC_u64 r2 pc2
      have HU2 := Lib.hid hu2
      clear hu2
      by_cases hs4 : s.size ≤ 4096
      · have hmm : s.data.toList = d := by
          have h := HEx.out s.size (by omega)
          simpa using h
        have hmn : min (s.size : Int) 4096 = (s.size : Int) := by omega
        refine wp_region_st 8 15 14 11 (Rs W6.heap.size) (fun (aq : Act) (Xq : World) => ∃ gz, aq.eval (.tmp 11) = .pointer (some ⟨gz, 0, none⟩) ∧ Xq.heap[gz]? = some (.cells cs2 25 (0, 0))) (fun kq uq Xq => match kq with | 32 => uq = .string s | 33 => uq = .string s | 34 => uq = .int .i64 (s.size : Int) | 35 => uq = .int .i64 (s.size : Int) | 36 => uq = .string s | 37 => (fun u (X : World) => MemAt X u d) (uq) Xq | 38 => uq = .agg cs | 39 => uq = .int .i64 m | 40 => (fun u (X : World) => ∃ v', u = .tuple #[.agg cs2, v', .int .i64 kk, .int .i64 what] ∧ MemAt X v' d2) (uq) Xq | 31 => (fun u (X : World) => ∃ v', u = .tuple #[.agg cs2, v', .int .i64 kk, .int .i64 what] ∧ MemAt X v' d2) (uq) Xq | 41 => uq = .agg cs2 | 42 => (fun u (X : World) => MemAt X u d2) (uq) Xq | 43 => uq = .int .i64 kk | 44 => uq = .int .i64 what | 11 => (Sb W6.heap.size) (uq) Xq | 12 => (fun u (X : World) => MemAt X u d2) (uq) Xq | 13 => uq = .int .i64 kk | 14 => uq = .int .i64 what | _ => True) (by kernel_rfl) (by kernel_rfl) (by kernel_rfl) (by kernel_rfl) rfl (by decide) (fun _ _ h => Rs.below h) (fun _ _ _ h k => Rs.trans h k) ?_ ?_ ?_ ?_ ?_
        · rintro a' d v W W' ⟨gz, h1, h2⟩ hd hb
          exact ⟨gz, by rw [put_ne a' v (Ne.symm hd)]; exact h1, (hb.block _ (Array.getElem?_eq_some_iff.1 h2).1).trans h2⟩
        · intro kq v W W' h hb
          revert h
          try dsimp only
          split
          · intro h; exact h
          · intro h; exact h
          · intro h; exact h
          · intro h; exact h
          · intro h; exact h
          · intro h; exact Rs.mem h hb
          · intro h; exact h
          · intro h; exact h
          · intro h; exact (by obtain ⟨v', h1, h2⟩ := h; exact ⟨v', h1, Rs.mem h2 hb⟩)
          · intro h; exact (by obtain ⟨v', h1, h2⟩ := h; exact ⟨v', h1, Rs.mem h2 hb⟩)
          · intro h; exact h
          · intro h; exact Rs.mem h hb
          · intro h; exact h
          · intro h; exact h
          · intro h; exact Sb.rs h hb
          · intro h; exact Rs.mem h hb
          · intro h; exact h
          · intro h; exact h
          · intro h; trivial
        · intro a' X hB hs hk i o d hic ho hd hG
          match i, ho, hic with
          | 0, ho, _ =>
            obtain rfl : _ = o := Option.some.inj ho
            obtain rfl : 32 = d := Option.some.inj hd
            have g0 : a'.eval (.tmp 0) = .string s := hk 0 (by kernel_rfl)
            obtain ⟨ev, hev⟩ : ∃ ev, a'.eval = ev := ⟨_, rfl⟩
            rw [hev] at g0 ⊢
            clear hev hG hk hs
            exact ⟨rfl, .inl ⟨.string s, X, by go_simp, Below.refl _ _, rfl⟩⟩
          | 1, ho, _ =>
            obtain rfl : _ = o := Option.some.inj ho
            obtain rfl : 33 = d := Option.some.inj hd
            have g0 : a'.eval (.tmp 0) = .string s := hk 0 (by kernel_rfl)
            obtain ⟨ev, hev⟩ : ∃ ev, a'.eval = ev := ⟨_, rfl⟩
            rw [hev] at g0 ⊢
            clear hev hG hk hs
            exact ⟨rfl, .inl ⟨.string s, X, by go_simp, Below.refl _ _, rfl⟩⟩
          | 2, ho, _ =>
            obtain rfl : _ = o := Option.some.inj ho
            obtain rfl : 34 = d := Option.some.inj hd
            have g33 : a'.eval (.tmp 33) = .string s := hG ⟨1, .data⟩ (by simp) rfl 33 rfl
            obtain ⟨ev, hev⟩ : ∃ ev, a'.eval = ev := ⟨_, rfl⟩
            rw [hev] at g33 ⊢
            clear hev hG hk hs
            exact ⟨rfl, .inl ⟨.int .i64 (s.size : Int), X, by go_simp, Below.refl _ _, rfl⟩⟩
          | 3, ho, _ =>
            obtain rfl : _ = o := Option.some.inj ho
            obtain rfl : 35 = d := Option.some.inj hd
            have g34 : a'.eval (.tmp 34) = .int .i64 (s.size : Int) := hG ⟨2, .data⟩ (by simp) rfl 34 rfl
            have k0 : a'.eval (.const (.int .i64 4096)) = (.int .i64 4096) := rfl
            obtain ⟨ev, hev⟩ : ∃ ev, a'.eval = ev := ⟨_, rfl⟩
            rw [hev] at g34 k0 ⊢
            clear hev hG hk hs
            exact ⟨rfl, .inl ⟨.int .i64 (s.size : Int), X, by go_simp, Below.refl _ _, rfl⟩⟩
          | 4, ho, _ =>
            obtain rfl : _ = o := Option.some.inj ho
            obtain rfl : 36 = d := Option.some.inj hd
            have g32 : a'.eval (.tmp 32) = .string s := hG ⟨0, .data⟩ (by simp) rfl 32 rfl
            have g35 : a'.eval (.tmp 35) = .int .i64 (s.size : Int) := hG ⟨3, .data⟩ (by simp) rfl 35 rfl
            obtain ⟨ev, hev⟩ : ∃ ev, a'.eval = ev := ⟨_, rfl⟩
            rw [hev] at g32 g35 ⊢
            clear hev hG hk hs
            exact ⟨rfl, .inl ⟨.string s, X, by go_simp, Below.refl _ _, rfl⟩⟩
          | 5, ho, _ =>
            obtain rfl : _ = o := Option.some.inj ho
            obtain rfl : 37 = d := Option.some.inj hd
            have g36 : a'.eval (.tmp 36) = .string s := hG ⟨4, .data⟩ (by simp) rfl 36 rfl
            obtain ⟨ev, hev⟩ : ∃ ev, a'.eval = ev := ⟨_, rfl⟩
            rw [hev] at g36 ⊢
            clear hev hG hk hs
            have hcv := Go.Lib.run_convert_string_bytes (P := Try.prog) X 9 31 5 s Try.underlying9 Try.underlying31 Try.underlying5
            have hme := memAt_conv X s
            rw [hmm] at hme
            exact ⟨rfl, .inl ⟨_, _, by go_simp, bw_below _ _ _, hme⟩⟩
          | 6, ho, _ =>
            obtain rfl : _ = o := Option.some.inj ho
            obtain rfl : 38 = d := Option.some.inj hd
            have g4 : a'.eval (.tmp 4) = .pointer (some ⟨w.heap.size, 0, none⟩) := hk 4 (by kernel_rfl)
            obtain ⟨ev, hev⟩ : ∃ ev, a'.eval = ev := ⟨_, rfl⟩
            rw [hev] at g4 ⊢
            clear hev hG hk hs
            have hld := run_loadVar_row (P := Try.prog) X w.heap.size 25 25 cs (0, 0) _ (HX0.out X hB.to) Try.underlying25 rfl hsz
            exact ⟨rfl, .inl ⟨.agg cs, X, exec_load rfl g4 hld, Below.refl _ _, rfl⟩⟩
          | 7, ho, _ =>
            obtain rfl : _ = o := Option.some.inj ho
            obtain rfl : 39 = d := Option.some.inj hd
            have g2 : a'.eval (.tmp 2) = .int .i64 m := hk 2 (by kernel_rfl)
            obtain ⟨ev, hev⟩ : ∃ ev, a'.eval = ev := ⟨_, rfl⟩
            rw [hev] at g2 ⊢
            clear hev hG hk hs
            exact ⟨rfl, .inl ⟨.int .i64 m, X, by go_simp, Below.refl _ _, rfl⟩⟩
          | 8, ho, _ =>
            obtain rfl : _ = o := Option.some.inj ho
            obtain rfl : 40 = d := Option.some.inj hd
            have g37 : (fun u (X : World) => MemAt X u d) (a'.eval (.tmp 37)) X := hG ⟨5, .data⟩ (by simp) rfl 37 rfl
            have g38 : a'.eval (.tmp 38) = .agg cs := hG ⟨6, .data⟩ (by simp) rfl 38 rfl
            have g39 : a'.eval (.tmp 39) = .int .i64 m := hG ⟨7, .data⟩ (by simp) rfl 39 rfl
            refine ⟨rfl, .inr ⟨7, #[a'.eval (.tmp 37), .agg cs, .int .i64 m], ?_, ?_⟩⟩
            · have gF : a'.eval (.func 7) = .func (.func 7) #[] #[] := rfl
              obtain ⟨ev, hev⟩ : ∃ ev, a'.eval = ev := ⟨_, rfl⟩
              rw [hev] at gF g37 g38 g39 ⊢
              exact exec_call3 rfl gF rfl g38 g39 (enters_of Try.func7 (by kernel_rfl) rfl)
            exact (HRO'.out _ X g37).mono fun e W' ⟨v', he, hm', hb⟩ => ⟨_, he, hb, v', rfl, hm'⟩
          | 9, ho, _ =>
            obtain rfl : _ = o := Option.some.inj ho
            obtain rfl : 31 = d := Option.some.inj hd
            have g40 : (fun u (X : World) => ∃ v', u = .tuple #[.agg cs2, v', .int .i64 kk, .int .i64 what] ∧ MemAt X v' d2) (a'.eval (.tmp 40)) X := hG ⟨8, .data⟩ (by simp) rfl 40 rfl
            obtain ⟨ev, hev⟩ : ∃ ev, a'.eval = ev := ⟨_, rfl⟩
            rw [hev] at g40 ⊢
            clear hev hG hk hs
            obtain ⟨v', hv', hm'⟩ := g40
            exact ⟨rfl, .inl ⟨_, X, by go_simp, Below.refl _ _, v', rfl, hm'⟩⟩
          | 10, ho, _ =>
            obtain rfl : _ = o := Option.some.inj ho
            obtain rfl : 41 = d := Option.some.inj hd
            have g31 : (fun u (X : World) => ∃ v', u = .tuple #[.agg cs2, v', .int .i64 kk, .int .i64 what] ∧ MemAt X v' d2) (a'.eval (.tmp 31)) X := hG ⟨9, .data⟩ (by simp) rfl 31 rfl
            obtain ⟨ev, hev⟩ : ∃ ev, a'.eval = ev := ⟨_, rfl⟩
            rw [hev] at g31 ⊢
            clear hev hG hk hs
            obtain ⟨v', hv', hm'⟩ := g31
            exact ⟨rfl, .inl ⟨.agg cs2, X, by go_simp, Below.refl _ _, rfl⟩⟩
          | 11, ho, _ =>
            obtain rfl : _ = o := Option.some.inj ho
            obtain rfl : 42 = d := Option.some.inj hd
            have g31 : (fun u (X : World) => ∃ v', u = .tuple #[.agg cs2, v', .int .i64 kk, .int .i64 what] ∧ MemAt X v' d2) (a'.eval (.tmp 31)) X := hG ⟨9, .data⟩ (by simp) rfl 31 rfl
            obtain ⟨ev, hev⟩ : ∃ ev, a'.eval = ev := ⟨_, rfl⟩
            rw [hev] at g31 ⊢
            clear hev hG hk hs
            obtain ⟨v', hv', hm'⟩ := g31
            exact ⟨rfl, .inl ⟨v', X, by go_simp, Below.refl _ _, hm'⟩⟩
          | 12, ho, _ =>
            obtain rfl : _ = o := Option.some.inj ho
            obtain rfl : 43 = d := Option.some.inj hd
            have g31 : (fun u (X : World) => ∃ v', u = .tuple #[.agg cs2, v', .int .i64 kk, .int .i64 what] ∧ MemAt X v' d2) (a'.eval (.tmp 31)) X := hG ⟨9, .data⟩ (by simp) rfl 31 rfl
            obtain ⟨ev, hev⟩ : ∃ ev, a'.eval = ev := ⟨_, rfl⟩
            rw [hev] at g31 ⊢
            clear hev hG hk hs
            obtain ⟨v', hv', hm'⟩ := g31
            exact ⟨rfl, .inl ⟨.int .i64 kk, X, by go_simp, Below.refl _ _, rfl⟩⟩
          | 13, ho, _ =>
            obtain rfl : _ = o := Option.some.inj ho
            obtain rfl : 44 = d := Option.some.inj hd
            have g31 : (fun u (X : World) => ∃ v', u = .tuple #[.agg cs2, v', .int .i64 kk, .int .i64 what] ∧ MemAt X v' d2) (a'.eval (.tmp 31)) X := hG ⟨9, .data⟩ (by simp) rfl 31 rfl
            obtain ⟨ev, hev⟩ : ∃ ev, a'.eval = ev := ⟨_, rfl⟩
            rw [hev] at g31 ⊢
            clear hev hG hk hs
            obtain ⟨v', hv', hm'⟩ := g31
            exact ⟨rfl, .inl ⟨.int .i64 what, X, by go_simp, Below.refl _ _, rfl⟩⟩
          | 14, ho, _ =>
            obtain rfl : _ = o := Option.some.inj ho
            obtain rfl : 11 = d := Option.some.inj hd
            obtain ⟨ev, hev⟩ : ∃ ev, a'.eval = ev := ⟨_, rfl⟩
            rw [hev]
            clear hev hG hk hs
            exact ⟨rfl, .inl ⟨.pointer (some ⟨X.heap.size, 0, none⟩), X.alloc (.cells zst 25), by go_simp, (Below.refl _ _).alloc (Nat.le_refl _) _, X.heap.size, zst, rfl, hB.size, heap_new _ _, rfl, zst_u64⟩⟩
          | 15, _, hic => exact absurd rfl hic
          | 16, ho, _ =>
            obtain rfl : _ = o := Option.some.inj ho
            obtain rfl : 12 = d := Option.some.inj hd
            have g42 : (fun u (X : World) => MemAt X u d2) (a'.eval (.tmp 42)) X := hG ⟨11, .data⟩ (by simp) rfl 42 rfl
            obtain ⟨ev, hev⟩ : ∃ ev, a'.eval = ev := ⟨_, rfl⟩
            rw [hev] at g42 ⊢
            clear hev hG hk hs
            exact ⟨rfl, .inl ⟨ev (.tmp 42), X, by go_simp, Below.refl _ _, g42⟩⟩
          | 17, ho, _ =>
            obtain rfl : _ = o := Option.some.inj ho
            obtain rfl : 13 = d := Option.some.inj hd
            have g43 : a'.eval (.tmp 43) = .int .i64 kk := hG ⟨12, .data⟩ (by simp) rfl 43 rfl
            obtain ⟨ev, hev⟩ : ∃ ev, a'.eval = ev := ⟨_, rfl⟩
            rw [hev] at g43 ⊢
            clear hev hG hk hs
            exact ⟨rfl, .inl ⟨.int .i64 kk, X, by go_simp, Below.refl _ _, rfl⟩⟩
          | 18, ho, _ =>
            obtain rfl : _ = o := Option.some.inj ho
            obtain rfl : 14 = d := Option.some.inj hd
            have g44 : a'.eval (.tmp 44) = .int .i64 what := hG ⟨13, .data⟩ (by simp) rfl 44 rfl
            obtain ⟨ev, hev⟩ : ∃ ev, a'.eval = ev := ⟨_, rfl⟩
            rw [hev] at g44 ⊢
            clear hev hG hk hs
            exact ⟨rfl, .inl ⟨.int .i64 what, X, by go_simp, Below.refl _ _, rfl⟩⟩
          | j + 19, ho, _ => simp at ho
        · intro a' X hB o ho hG
          obtain rfl : _ = o := Option.some.inj ho
          have g11 : (Sb W6.heap.size) (a'.eval (.tmp 11)) X := hG ⟨14, .data⟩ (by simp) rfl 11 rfl
          have g41 : a'.eval (.tmp 41) = .agg cs2 := hG ⟨10, .data⟩ (by simp) rfl 41 rfl
          obtain ⟨gz, c, z1, z2, z3, z4, z5⟩ := g11
          exact ⟨rfl, X.setRow gz cs2, exec_store rfl z1 g41 (run_storeVar_row X gz 25 25 c cs2 z3 hsz2 (z4.trans HQ.out.symm) hone), Rs.set z2 z3 z4 z5 HQ.out HU2.out, gz, z1, heap_setRow _ _ _ _ _ z3⟩
        · intro a' X hJ hB hs hdf hk hG
          obtain ⟨tm, df⟩ := a'
          obtain rfl : df = [] := hdf
          obtain ⟨gz, hz1, hz2⟩ := hJ
          have hz1 : tm.getD 11 undef = .pointer (some ⟨gz, 0, none⟩) := hz1
          have e0 : tm.getD 0 undef = .string s := hk 0 (by kernel_rfl)
          have e1 : tm.getD 1 undef = .agg cs := hk 1 (by kernel_rfl)
          have e2 : tm.getD 2 undef = .int .i64 m := hk 2 (by kernel_rfl)
          have e3 : tm.getD 3 undef = undef := hk 3 (by kernel_rfl)
          have e4 : tm.getD 4 undef = .pointer (some ⟨w.heap.size, 0, none⟩) := hk 4 (by kernel_rfl)
          have e5 : tm.getD 5 undef = undef := hk 5 (by kernel_rfl)
          have e6 : tm.getD 6 undef = .bool false := hk 6 (by kernel_rfl)
          have e7 : tm.getD 7 undef = .pointer (some ⟨Bb, 0, none⟩) := hk 7 (by kernel_rfl)
          have e8 : tm.getD 8 undef = .pointer (some ⟨w5.heap.size, 0, none⟩) := hk 8 (by kernel_rfl)
          have e9 : tm.getD 9 undef = .int .i64 kk := hk 9 (by kernel_rfl)
          have e10 : tm.getD 10 undef = .int .i64 what := hk 10 (by kernel_rfl)
          have e15 : tm.getD 15 undef = .bool true := hk 15 (by kernel_rfl)
          have e16 : tm.getD 16 undef = .bool false := hk 16 (by kernel_rfl)
          have e17 : tm.getD 17 undef = .string s := hk 17 (by kernel_rfl)
          have e18 : tm.getD 18 undef = .pointer (some ⟨Bb, 0, none⟩) := hk 18 (by kernel_rfl)
          have e19 : tm.getD 19 undef = .pointer (some ⟨Bb, 0, none⟩) := hk 19 (by kernel_rfl)
          have e20 : tm.getD 20 undef = .bool false := hk 20 (by kernel_rfl)
          have e21 : tm.getD 21 undef = u21 := hk 21 (by kernel_rfl)
          have e22 : tm.getD 22 undef = u22 := hk 22 (by kernel_rfl)
          have e23 : tm.getD 23 undef = .tuple #[.agg cs2, .int .i64 kk, .int .i64 what] := hk 23 (by kernel_rfl)
          have e24 : tm.getD 24 undef = .pointer (some ⟨Bb, 0, none⟩) := hk 24 (by kernel_rfl)
          have e25 : tm.getD 25 undef = .agg cs := hk 25 (by kernel_rfl)
          have e26 : tm.getD 26 undef = .int .i64 m := hk 26 (by kernel_rfl)
          have e27 : tm.getD 27 undef = .tuple #[.agg cs2, .int .i64 kk, .int .i64 what] := hk 27 (by kernel_rfl)
          have e28 : tm.getD 28 undef = .agg cs2 := hk 28 (by kernel_rfl)
          have e29 : tm.getD 29 undef = .int .i64 kk := hk 29 (by kernel_rfl)
          have e30 : tm.getD 30 undef = .int .i64 what := hk 30 (by kernel_rfl)
          have e45 : tm.getD 45 undef = undef := hk 45 (by kernel_rfl)
          have e46 : tm.getD 46 undef = undef := hk 46 (by kernel_rfl)
          have e47 : tm.getD 47 undef = undef := hk 47 (by kernel_rfl)
          have e48 : tm.getD 48 undef = undef := hk 48 (by kernel_rfl)
          have e49 : tm.getD 49 undef = undef := hk 49 (by kernel_rfl)
          have e50 : tm.getD 50 undef = undef := hk 50 (by kernel_rfl)
          have e51 : tm.getD 51 undef = undef := hk 51 (by kernel_rfl)
          have e52 : tm.getD 52 undef = undef := hk 52 (by kernel_rfl)
          have e53 : tm.getD 53 undef = undef := hk 53 (by kernel_rfl)
          have e54 : tm.getD 54 undef = undef := hk 54 (by kernel_rfl)
          have e55 : tm.getD 55 undef = undef := hk 55 (by kernel_rfl)
          have e56 : tm.getD 56 undef = undef := hk 56 (by kernel_rfl)
          have e57 : tm.getD 57 undef = undef := hk 57 (by kernel_rfl)
          have e58 : tm.getD 58 undef = undef := hk 58 (by kernel_rfl)
          have e59 : tm.getD 59 undef = undef := hk 59 (by kernel_rfl)
          have e60 : tm.getD 60 undef = undef := hk 60 (by kernel_rfl)
          have e61 : tm.getD 61 undef = undef := hk 61 (by kernel_rfl)
          have e62 : tm.getD 62 undef = undef := hk 62 (by kernel_rfl)
          have e63 : tm.getD 63 undef = undef := hk 63 (by kernel_rfl)
          have e64 : tm.getD 64 undef = undef := hk 64 (by kernel_rfl)
          have g32 : (tm.getD 32 undef) = .string s := hG 0 32 (by decide) rfl
          have g33 : (tm.getD 33 undef) = .string s := hG 1 33 (by decide) rfl
          have g34 : (tm.getD 34 undef) = .int .i64 (s.size : Int) := hG 2 34 (by decide) rfl
          have g35 : (tm.getD 35 undef) = .int .i64 (s.size : Int) := hG 3 35 (by decide) rfl
          have g36 : (tm.getD 36 undef) = .string s := hG 4 36 (by decide) rfl
          have g37 : (fun u (X : World) => MemAt X u d) ((tm.getD 37 undef)) X := hG 5 37 (by decide) rfl
          have g38 : (tm.getD 38 undef) = .agg cs := hG 6 38 (by decide) rfl
          have g39 : (tm.getD 39 undef) = .int .i64 m := hG 7 39 (by decide) rfl
          have g40 : (fun u (X : World) => ∃ v', u = .tuple #[.agg cs2, v', .int .i64 kk, .int .i64 what] ∧ MemAt X v' d2) ((tm.getD 40 undef)) X := hG 8 40 (by decide) rfl
          have g31 : (fun u (X : World) => ∃ v', u = .tuple #[.agg cs2, v', .int .i64 kk, .int .i64 what] ∧ MemAt X v' d2) ((tm.getD 31 undef)) X := hG 9 31 (by decide) rfl
          have g41 : (tm.getD 41 undef) = .agg cs2 := hG 10 41 (by decide) rfl
          have g42 : (fun u (X : World) => MemAt X u d2) ((tm.getD 42 undef)) X := hG 11 42 (by decide) rfl
          have g43 : (tm.getD 43 undef) = .int .i64 kk := hG 12 43 (by decide) rfl
          have g44 : (tm.getD 44 undef) = .int .i64 what := hG 13 44 (by decide) rfl
          have g11 : (Sb W6.heap.size) ((tm.getD 11 undef)) X := hG 14 11 (by decide) rfl
          have g12 : (fun u (X : World) => MemAt X u d2) ((tm.getD 12 undef)) X := hG 16 12 (by decide) rfl
          have g13 : (tm.getD 13 undef) = .int .i64 kk := hG 17 13 (by decide) rfl
          have g14 : (tm.getD 14 undef) = .int .i64 what := hG 18 14 (by decide) rfl
          have htm := arr_of tm ((.string s : Value) :: (.agg cs : Value) :: (.int .i64 m : Value) :: (undef : Value) :: (.pointer (some ⟨w.heap.size, 0, none⟩) : Value) :: (undef : Value) :: (.bool false : Value) :: (.pointer (some ⟨Bb, 0, none⟩) : Value) :: (.pointer (some ⟨w5.heap.size, 0, none⟩) : Value) :: (.int .i64 kk : Value) :: (.int .i64 what : Value) :: (tm.getD 11 undef : Value) :: (tm.getD 12 undef : Value) :: (tm.getD 13 undef : Value) :: (tm.getD 14 undef : Value) :: (.bool true : Value) :: (.bool false : Value) :: (.string s : Value) :: (.pointer (some ⟨Bb, 0, none⟩) : Value) :: (.pointer (some ⟨Bb, 0, none⟩) : Value) :: (.bool false : Value) :: (u21 : Value) :: (u22 : Value) :: (.tuple #[.agg cs2, .int .i64 kk, .int .i64 what] : Value) :: (.pointer (some ⟨Bb, 0, none⟩) : Value) :: (.agg cs : Value) :: (.int .i64 m : Value) :: (.tuple #[.agg cs2, .int .i64 kk, .int .i64 what] : Value) :: (.agg cs2 : Value) :: (.int .i64 kk : Value) :: (.int .i64 what : Value) :: (tm.getD 31 undef : Value) :: (tm.getD 32 undef : Value) :: (tm.getD 33 undef : Value) :: (tm.getD 34 undef : Value) :: (tm.getD 35 undef : Value) :: (tm.getD 36 undef : Value) :: (tm.getD 37 undef : Value) :: (tm.getD 38 undef : Value) :: (tm.getD 39 undef : Value) :: (tm.getD 40 undef : Value) :: (tm.getD 41 undef : Value) :: (tm.getD 42 undef : Value) :: (tm.getD 43 undef : Value) :: (tm.getD 44 undef : Value) :: (undef : Value) :: (undef : Value) :: (undef : Value) :: (undef : Value) :: (undef : Value) :: (undef : Value) :: (undef : Value) :: (undef : Value) :: (undef : Value) :: (undef : Value) :: (undef : Value) :: (undef : Value) :: (undef : Value) :: (undef : Value) :: (undef : Value) :: (undef : Value) :: (undef : Value) :: (undef : Value) :: (undef : Value) :: (undef : Value) :: []) hs (by show (tm.getD 0 undef :: tm.getD 1 undef :: tm.getD 2 undef :: tm.getD 3 undef :: tm.getD 4 undef :: tm.getD 5 undef :: tm.getD 6 undef :: tm.getD 7 undef :: tm.getD 8 undef :: tm.getD 9 undef :: tm.getD 10 undef :: tm.getD 11 undef :: tm.getD 12 undef :: tm.getD 13 undef :: tm.getD 14 undef :: tm.getD 15 undef :: tm.getD 16 undef :: tm.getD 17 undef :: tm.getD 18 undef :: tm.getD 19 undef :: tm.getD 20 undef :: tm.getD 21 undef :: tm.getD 22 undef :: tm.getD 23 undef :: tm.getD 24 undef :: tm.getD 25 undef :: tm.getD 26 undef :: tm.getD 27 undef :: tm.getD 28 undef :: tm.getD 29 undef :: tm.getD 30 undef :: tm.getD 31 undef :: tm.getD 32 undef :: tm.getD 33 undef :: tm.getD 34 undef :: tm.getD 35 undef :: tm.getD 36 undef :: tm.getD 37 undef :: tm.getD 38 undef :: tm.getD 39 undef :: tm.getD 40 undef :: tm.getD 41 undef :: tm.getD 42 undef :: tm.getD 43 undef :: tm.getD 44 undef :: tm.getD 45 undef :: tm.getD 46 undef :: tm.getD 47 undef :: tm.getD 48 undef :: tm.getD 49 undef :: tm.getD 50 undef :: tm.getD 51 undef :: tm.getD 52 undef :: tm.getD 53 undef :: tm.getD 54 undef :: tm.getD 55 undef :: tm.getD 56 undef :: tm.getD 57 undef :: tm.getD 58 undef :: tm.getD 59 undef :: tm.getD 60 undef :: tm.getD 61 undef :: tm.getD 62 undef :: tm.getD 63 undef :: tm.getD 64 undef :: []) = _; rw [e0, e1, e2, e3, e4, e5, e6, e7, e8, e9, e10, e15, e16, e17, e18, e19, e20, e21, e22, e23, e24, e25, e26, e27, e28, e29, e30, e45, e46, e47, e48, e49, e50, e51, e52, e53, e54, e55, e56, e57, e58, e59, e60, e61, e62, e63, e64]; try rfl)
          clear hs hk hG e0 e1 e2 e3 e4 e5 e6 e7 e8 e9 e10 e15 e16 e17 e18 e19 e20 e21 e22 e23 e24 e25 e26 e27 e28 e29 e30 e45 e46 e47 e48 e49 e50 e51 e52 e53 e54 e55 e56 e57 e58 e59 e60 e61 e62 e63 e64
          generalize tm.getD 32 undef = t32 at htm g32
          generalize tm.getD 33 undef = t33 at htm g33
          generalize tm.getD 34 undef = t34 at htm g34
          generalize tm.getD 35 undef = t35 at htm g35
          generalize tm.getD 36 undef = t36 at htm g36
          generalize tm.getD 37 undef = t37 at htm g37
          generalize tm.getD 38 undef = t38 at htm g38
          generalize tm.getD 39 undef = t39 at htm g39
          generalize tm.getD 40 undef = t40 at htm g40
          generalize tm.getD 31 undef = t31 at htm g31
          generalize tm.getD 41 undef = t41 at htm g41
          generalize tm.getD 42 undef = t42 at htm g42
          generalize tm.getD 43 undef = t43 at htm g43
          generalize tm.getD 44 undef = t44 at htm g44
          generalize tm.getD 11 undef = t11 at htm g11 hz1
          generalize tm.getD 12 undef = t12 at htm g12
          generalize tm.getD 13 undef = t13 at htm g13
          generalize tm.getD 14 undef = t14 at htm g14
          subst htm
          subst g32
          subst g33
          subst g34
          subst g35
          subst g36
          subst g38
          subst g39
          subst g41
          subst g43
          subst g44
          subst g13
          subst g14
          subst hz1
          have M9 := Lib.hid g12
          have K9 := Lib.hid hz2
          have B9 := Lib.hid hB.to
          clear g37 g40 g31 g42 g11 g12 hB hz2
          try go_wp2_with fail
          go_meet
          exact ⟨gz, rfl, rfl, rfl, M9.out, K9.out, B9.out⟩
      · have hmm := HEx.out 4096 (by omega)
        have hmn : min (s.size : Int) 4096 = 4096 := by omega
        have hi4 : ¬ (s.size : Int) < 4096 := by omega
        refine wp_region_st 8 15 14 11 (Rs W6.heap.size) (fun (aq : Act) (Xq : World) => ∃ gz, aq.eval (.tmp 11) = .pointer (some ⟨gz, 0, none⟩) ∧ Xq.heap[gz]? = some (.cells cs2 25 (0, 0))) (fun kq uq Xq => match kq with | 32 => uq = .string s | 33 => uq = .string s | 34 => uq = .int .i64 (s.size : Int) | 35 => uq = .int .i64 4096 | 36 => uq = .string (s.extract 0 4096) | 37 => (fun u (X : World) => MemAt X u d) (uq) Xq | 38 => uq = .agg cs | 39 => uq = .int .i64 m | 40 => (fun u (X : World) => ∃ v', u = .tuple #[.agg cs2, v', .int .i64 kk, .int .i64 what] ∧ MemAt X v' d2) (uq) Xq | 31 => (fun u (X : World) => ∃ v', u = .tuple #[.agg cs2, v', .int .i64 kk, .int .i64 what] ∧ MemAt X v' d2) (uq) Xq | 41 => uq = .agg cs2 | 42 => (fun u (X : World) => MemAt X u d2) (uq) Xq | 43 => uq = .int .i64 kk | 44 => uq = .int .i64 what | 11 => (Sb W6.heap.size) (uq) Xq | 12 => (fun u (X : World) => MemAt X u d2) (uq) Xq | 13 => uq = .int .i64 kk | 14 => uq = .int .i64 what | _ => True) (by kernel_rfl) (by kernel_rfl) (by kernel_rfl) (by kernel_rfl) rfl (by decide) (fun _ _ h => Rs.below h) (fun _ _ _ h k => Rs.trans h k) ?_ ?_ ?_ ?_ ?_
        · rintro a' d v W W' ⟨gz, h1, h2⟩ hd hb
          exact ⟨gz, by rw [put_ne a' v (Ne.symm hd)]; exact h1, (hb.block _ (Array.getElem?_eq_some_iff.1 h2).1).trans h2⟩
        · intro kq v W W' h hb
          revert h
          try dsimp only
          split
          · intro h; exact h
          · intro h; exact h
          · intro h; exact h
          · intro h; exact h
          · intro h; exact h
          · intro h; exact Rs.mem h hb
          · intro h; exact h
          · intro h; exact h
          · intro h; exact (by obtain ⟨v', h1, h2⟩ := h; exact ⟨v', h1, Rs.mem h2 hb⟩)
          · intro h; exact (by obtain ⟨v', h1, h2⟩ := h; exact ⟨v', h1, Rs.mem h2 hb⟩)
          · intro h; exact h
          · intro h; exact Rs.mem h hb
          · intro h; exact h
          · intro h; exact h
          · intro h; exact Sb.rs h hb
          · intro h; exact Rs.mem h hb
          · intro h; exact h
          · intro h; exact h
          · intro h; trivial
        · intro a' X hB hs hk i o d hic ho hd hG
          match i, ho, hic with
          | 0, ho, _ =>
            obtain rfl : _ = o := Option.some.inj ho
            obtain rfl : 32 = d := Option.some.inj hd
            have g0 : a'.eval (.tmp 0) = .string s := hk 0 (by kernel_rfl)
            obtain ⟨ev, hev⟩ : ∃ ev, a'.eval = ev := ⟨_, rfl⟩
            rw [hev] at g0 ⊢
            clear hev hG hk hs
            exact ⟨rfl, .inl ⟨.string s, X, by go_simp, Below.refl _ _, rfl⟩⟩
          | 1, ho, _ =>
            obtain rfl : _ = o := Option.some.inj ho
            obtain rfl : 33 = d := Option.some.inj hd
            have g0 : a'.eval (.tmp 0) = .string s := hk 0 (by kernel_rfl)
            obtain ⟨ev, hev⟩ : ∃ ev, a'.eval = ev := ⟨_, rfl⟩
            rw [hev] at g0 ⊢
            clear hev hG hk hs
            exact ⟨rfl, .inl ⟨.string s, X, by go_simp, Below.refl _ _, rfl⟩⟩
          | 2, ho, _ =>
            obtain rfl : _ = o := Option.some.inj ho
            obtain rfl : 34 = d := Option.some.inj hd
            have g33 : a'.eval (.tmp 33) = .string s := hG ⟨1, .data⟩ (by simp) rfl 33 rfl
            obtain ⟨ev, hev⟩ : ∃ ev, a'.eval = ev := ⟨_, rfl⟩
            rw [hev] at g33 ⊢
            clear hev hG hk hs
            exact ⟨rfl, .inl ⟨.int .i64 (s.size : Int), X, by go_simp, Below.refl _ _, rfl⟩⟩
          | 3, ho, _ =>
            obtain rfl : _ = o := Option.some.inj ho
            obtain rfl : 35 = d := Option.some.inj hd
            have g34 : a'.eval (.tmp 34) = .int .i64 (s.size : Int) := hG ⟨2, .data⟩ (by simp) rfl 34 rfl
            have k0 : a'.eval (.const (.int .i64 4096)) = (.int .i64 4096) := rfl
            obtain ⟨ev, hev⟩ : ∃ ev, a'.eval = ev := ⟨_, rfl⟩
            rw [hev] at g34 k0 ⊢
            clear hev hG hk hs
            exact ⟨rfl, .inl ⟨.int .i64 4096, X, by go_simp, Below.refl _ _, rfl⟩⟩
          | 4, ho, _ =>
            obtain rfl : _ = o := Option.some.inj ho
            obtain rfl : 36 = d := Option.some.inj hd
            have g32 : a'.eval (.tmp 32) = .string s := hG ⟨0, .data⟩ (by simp) rfl 32 rfl
            have g35 : a'.eval (.tmp 35) = .int .i64 4096 := hG ⟨3, .data⟩ (by simp) rfl 35 rfl
            obtain ⟨ev, hev⟩ : ∃ ev, a'.eval = ev := ⟨_, rfl⟩
            rw [hev] at g32 g35 ⊢
            clear hev hG hk hs
            exact ⟨rfl, .inl ⟨.string (s.extract 0 4096), X, by go_simp, Below.refl _ _, rfl⟩⟩
          | 5, ho, _ =>
            obtain rfl : _ = o := Option.some.inj ho
            obtain rfl : 37 = d := Option.some.inj hd
            have g36 : a'.eval (.tmp 36) = .string (s.extract 0 4096) := hG ⟨4, .data⟩ (by simp) rfl 36 rfl
            obtain ⟨ev, hev⟩ : ∃ ev, a'.eval = ev := ⟨_, rfl⟩
            rw [hev] at g36 ⊢
            clear hev hG hk hs
            have hcv := Go.Lib.run_convert_string_bytes (P := Try.prog) X 9 31 5 (s.extract 0 4096) Try.underlying9 Try.underlying31 Try.underlying5
            have hme := memAt_conv X (s.extract 0 4096)
            rw [hmm] at hme
            exact ⟨rfl, .inl ⟨_, _, by go_simp, bw_below _ _ _, hme⟩⟩
          | 6, ho, _ =>
            obtain rfl : _ = o := Option.some.inj ho
            obtain rfl : 38 = d := Option.some.inj hd
            have g4 : a'.eval (.tmp 4) = .pointer (some ⟨w.heap.size, 0, none⟩) := hk 4 (by kernel_rfl)
            obtain ⟨ev, hev⟩ : ∃ ev, a'.eval = ev := ⟨_, rfl⟩
            rw [hev] at g4 ⊢
            clear hev hG hk hs
            have hld := run_loadVar_row (P := Try.prog) X w.heap.size 25 25 cs (0, 0) _ (HX0.out X hB.to) Try.underlying25 rfl hsz
            exact ⟨rfl, .inl ⟨.agg cs, X, exec_load rfl g4 hld, Below.refl _ _, rfl⟩⟩
          | 7, ho, _ =>
            obtain rfl : _ = o := Option.some.inj ho
            obtain rfl : 39 = d := Option.some.inj hd
            have g2 : a'.eval (.tmp 2) = .int .i64 m := hk 2 (by kernel_rfl)
            obtain ⟨ev, hev⟩ : ∃ ev, a'.eval = ev := ⟨_, rfl⟩
            rw [hev] at g2 ⊢
            clear hev hG hk hs
            exact ⟨rfl, .inl ⟨.int .i64 m, X, by go_simp, Below.refl _ _, rfl⟩⟩
          | 8, ho, _ =>
            obtain rfl : _ = o := Option.some.inj ho
            obtain rfl : 40 = d := Option.some.inj hd
            have g37 : (fun u (X : World) => MemAt X u d) (a'.eval (.tmp 37)) X := hG ⟨5, .data⟩ (by simp) rfl 37 rfl
            have g38 : a'.eval (.tmp 38) = .agg cs := hG ⟨6, .data⟩ (by simp) rfl 38 rfl
            have g39 : a'.eval (.tmp 39) = .int .i64 m := hG ⟨7, .data⟩ (by simp) rfl 39 rfl
            refine ⟨rfl, .inr ⟨7, #[a'.eval (.tmp 37), .agg cs, .int .i64 m], ?_, ?_⟩⟩
            · have gF : a'.eval (.func 7) = .func (.func 7) #[] #[] := rfl
              obtain ⟨ev, hev⟩ : ∃ ev, a'.eval = ev := ⟨_, rfl⟩
              rw [hev] at gF g37 g38 g39 ⊢
              exact exec_call3 rfl gF rfl g38 g39 (enters_of Try.func7 (by kernel_rfl) rfl)
            exact (HRO'.out _ X g37).mono fun e W' ⟨v', he, hm', hb⟩ => ⟨_, he, hb, v', rfl, hm'⟩
          | 9, ho, _ =>
            obtain rfl : _ = o := Option.some.inj ho
            obtain rfl : 31 = d := Option.some.inj hd
            have g40 : (fun u (X : World) => ∃ v', u = .tuple #[.agg cs2, v', .int .i64 kk, .int .i64 what] ∧ MemAt X v' d2) (a'.eval (.tmp 40)) X := hG ⟨8, .data⟩ (by simp) rfl 40 rfl
            obtain ⟨ev, hev⟩ : ∃ ev, a'.eval = ev := ⟨_, rfl⟩
            rw [hev] at g40 ⊢
            clear hev hG hk hs
            obtain ⟨v', hv', hm'⟩ := g40
            exact ⟨rfl, .inl ⟨_, X, by go_simp, Below.refl _ _, v', rfl, hm'⟩⟩
          | 10, ho, _ =>
            obtain rfl : _ = o := Option.some.inj ho
            obtain rfl : 41 = d := Option.some.inj hd
            have g31 : (fun u (X : World) => ∃ v', u = .tuple #[.agg cs2, v', .int .i64 kk, .int .i64 what] ∧ MemAt X v' d2) (a'.eval (.tmp 31)) X := hG ⟨9, .data⟩ (by simp) rfl 31 rfl
            obtain ⟨ev, hev⟩ : ∃ ev, a'.eval = ev := ⟨_, rfl⟩
            rw [hev] at g31 ⊢
            clear hev hG hk hs
            obtain ⟨v', hv', hm'⟩ := g31
            exact ⟨rfl, .inl ⟨.agg cs2, X, by go_simp, Below.refl _ _, rfl⟩⟩
          | 11, ho, _ =>
            obtain rfl : _ = o := Option.some.inj ho
            obtain rfl : 42 = d := Option.some.inj hd
            have g31 : (fun u (X : World) => ∃ v', u = .tuple #[.agg cs2, v', .int .i64 kk, .int .i64 what] ∧ MemAt X v' d2) (a'.eval (.tmp 31)) X := hG ⟨9, .data⟩ (by simp) rfl 31 rfl
            obtain ⟨ev, hev⟩ : ∃ ev, a'.eval = ev := ⟨_, rfl⟩
            rw [hev] at g31 ⊢
            clear hev hG hk hs
            obtain ⟨v', hv', hm'⟩ := g31
            exact ⟨rfl, .inl ⟨v', X, by go_simp, Below.refl _ _, hm'⟩⟩
          | 12, ho, _ =>
            obtain rfl : _ = o := Option.some.inj ho
            obtain rfl : 43 = d := Option.some.inj hd
            have g31 : (fun u (X : World) => ∃ v', u = .tuple #[.agg cs2, v', .int .i64 kk, .int .i64 what] ∧ MemAt X v' d2) (a'.eval (.tmp 31)) X := hG ⟨9, .data⟩ (by simp) rfl 31 rfl
            obtain ⟨ev, hev⟩ : ∃ ev, a'.eval = ev := ⟨_, rfl⟩
            rw [hev] at g31 ⊢
            clear hev hG hk hs
            obtain ⟨v', hv', hm'⟩ := g31
            exact ⟨rfl, .inl ⟨.int .i64 kk, X, by go_simp, Below.refl _ _, rfl⟩⟩
          | 13, ho, _ =>
            obtain rfl : _ = o := Option.some.inj ho
            obtain rfl : 44 = d := Option.some.inj hd
            have g31 : (fun u (X : World) => ∃ v', u = .tuple #[.agg cs2, v', .int .i64 kk, .int .i64 what] ∧ MemAt X v' d2) (a'.eval (.tmp 31)) X := hG ⟨9, .data⟩ (by simp) rfl 31 rfl
            obtain ⟨ev, hev⟩ : ∃ ev, a'.eval = ev := ⟨_, rfl⟩
            rw [hev] at g31 ⊢
            clear hev hG hk hs
            obtain ⟨v', hv', hm'⟩ := g31
            exact ⟨rfl, .inl ⟨.int .i64 what, X, by go_simp, Below.refl _ _, rfl⟩⟩
          | 14, ho, _ =>
            obtain rfl : _ = o := Option.some.inj ho
            obtain rfl : 11 = d := Option.some.inj hd
            obtain ⟨ev, hev⟩ : ∃ ev, a'.eval = ev := ⟨_, rfl⟩
            rw [hev]
            clear hev hG hk hs
            exact ⟨rfl, .inl ⟨.pointer (some ⟨X.heap.size, 0, none⟩), X.alloc (.cells zst 25), by go_simp, (Below.refl _ _).alloc (Nat.le_refl _) _, X.heap.size, zst, rfl, hB.size, heap_new _ _, rfl, zst_u64⟩⟩
          | 15, _, hic => exact absurd rfl hic
          | 16, ho, _ =>
            obtain rfl : _ = o := Option.some.inj ho
            obtain rfl : 12 = d := Option.some.inj hd
            have g42 : (fun u (X : World) => MemAt X u d2) (a'.eval (.tmp 42)) X := hG ⟨11, .data⟩ (by simp) rfl 42 rfl
            obtain ⟨ev, hev⟩ : ∃ ev, a'.eval = ev := ⟨_, rfl⟩
            rw [hev] at g42 ⊢
            clear hev hG hk hs
            exact ⟨rfl, .inl ⟨ev (.tmp 42), X, by go_simp, Below.refl _ _, g42⟩⟩
          | 17, ho, _ =>
            obtain rfl : _ = o := Option.some.inj ho
            obtain rfl : 13 = d := Option.some.inj hd
            have g43 : a'.eval (.tmp 43) = .int .i64 kk := hG ⟨12, .data⟩ (by simp) rfl 43 rfl
            obtain ⟨ev, hev⟩ : ∃ ev, a'.eval = ev := ⟨_, rfl⟩
            rw [hev] at g43 ⊢
            clear hev hG hk hs
            exact ⟨rfl, .inl ⟨.int .i64 kk, X, by go_simp, Below.refl _ _, rfl⟩⟩
          | 18, ho, _ =>
            obtain rfl : _ = o := Option.some.inj ho
            obtain rfl : 14 = d := Option.some.inj hd
            have g44 : a'.eval (.tmp 44) = .int .i64 what := hG ⟨13, .data⟩ (by simp) rfl 44 rfl
            obtain ⟨ev, hev⟩ : ∃ ev, a'.eval = ev := ⟨_, rfl⟩
            rw [hev] at g44 ⊢
            clear hev hG hk hs
            exact ⟨rfl, .inl ⟨.int .i64 what, X, by go_simp, Below.refl _ _, rfl⟩⟩
          | j + 19, ho, _ => simp at ho
        · intro a' X hB o ho hG
          obtain rfl : _ = o := Option.some.inj ho
          have g11 : (Sb W6.heap.size) (a'.eval (.tmp 11)) X := hG ⟨14, .data⟩ (by simp) rfl 11 rfl
          have g41 : a'.eval (.tmp 41) = .agg cs2 := hG ⟨10, .data⟩ (by simp) rfl 41 rfl
          obtain ⟨gz, c, z1, z2, z3, z4, z5⟩ := g11
          exact ⟨rfl, X.setRow gz cs2, exec_store rfl z1 g41 (run_storeVar_row X gz 25 25 c cs2 z3 hsz2 (z4.trans HQ.out.symm) hone), Rs.set z2 z3 z4 z5 HQ.out HU2.out, gz, z1, heap_setRow _ _ _ _ _ z3⟩
        · intro a' X hJ hB hs hdf hk hG
          obtain ⟨tm, df⟩ := a'
          obtain rfl : df = [] := hdf
          obtain ⟨gz, hz1, hz2⟩ := hJ
          have hz1 : tm.getD 11 undef = .pointer (some ⟨gz, 0, none⟩) := hz1
          have e0 : tm.getD 0 undef = .string s := hk 0 (by kernel_rfl)
          have e1 : tm.getD 1 undef = .agg cs := hk 1 (by kernel_rfl)
          have e2 : tm.getD 2 undef = .int .i64 m := hk 2 (by kernel_rfl)
          have e3 : tm.getD 3 undef = undef := hk 3 (by kernel_rfl)
          have e4 : tm.getD 4 undef = .pointer (some ⟨w.heap.size, 0, none⟩) := hk 4 (by kernel_rfl)
          have e5 : tm.getD 5 undef = undef := hk 5 (by kernel_rfl)
          have e6 : tm.getD 6 undef = .bool false := hk 6 (by kernel_rfl)
          have e7 : tm.getD 7 undef = .pointer (some ⟨Bb, 0, none⟩) := hk 7 (by kernel_rfl)
          have e8 : tm.getD 8 undef = .pointer (some ⟨w5.heap.size, 0, none⟩) := hk 8 (by kernel_rfl)
          have e9 : tm.getD 9 undef = .int .i64 kk := hk 9 (by kernel_rfl)
          have e10 : tm.getD 10 undef = .int .i64 what := hk 10 (by kernel_rfl)
          have e15 : tm.getD 15 undef = .bool true := hk 15 (by kernel_rfl)
          have e16 : tm.getD 16 undef = .bool false := hk 16 (by kernel_rfl)
          have e17 : tm.getD 17 undef = .string s := hk 17 (by kernel_rfl)
          have e18 : tm.getD 18 undef = .pointer (some ⟨Bb, 0, none⟩) := hk 18 (by kernel_rfl)
          have e19 : tm.getD 19 undef = .pointer (some ⟨Bb, 0, none⟩) := hk 19 (by kernel_rfl)
          have e20 : tm.getD 20 undef = .bool false := hk 20 (by kernel_rfl)
          have e21 : tm.getD 21 undef = u21 := hk 21 (by kernel_rfl)
          have e22 : tm.getD 22 undef = u22 := hk 22 (by kernel_rfl)
          have e23 : tm.getD 23 undef = .tuple #[.agg cs2, .int .i64 kk, .int .i64 what] := hk 23 (by kernel_rfl)
          have e24 : tm.getD 24 undef = .pointer (some ⟨Bb, 0, none⟩) := hk 24 (by kernel_rfl)
          have e25 : tm.getD 25 undef = .agg cs := hk 25 (by kernel_rfl)
          have e26 : tm.getD 26 undef = .int .i64 m := hk 26 (by kernel_rfl)
          have e27 : tm.getD 27 undef = .tuple #[.agg cs2, .int .i64 kk, .int .i64 what] := hk 27 (by kernel_rfl)
          have e28 : tm.getD 28 undef = .agg cs2 := hk 28 (by kernel_rfl)
          have e29 : tm.getD 29 undef = .int .i64 kk := hk 29 (by kernel_rfl)
          have e30 : tm.getD 30 undef = .int .i64 what := hk 30 (by kernel_rfl)
          have e45 : tm.getD 45 undef = undef := hk 45 (by kernel_rfl)
          have e46 : tm.getD 46 undef = undef := hk 46 (by kernel_rfl)
          have e47 : tm.getD 47 undef = undef := hk 47 (by kernel_rfl)
          have e48 : tm.getD 48 undef = undef := hk 48 (by kernel_rfl)
          have e49 : tm.getD 49 undef = undef := hk 49 (by kernel_rfl)
          have e50 : tm.getD 50 undef = undef := hk 50 (by kernel_rfl)
          have e51 : tm.getD 51 undef = undef := hk 51 (by kernel_rfl)
          have e52 : tm.getD 52 undef = undef := hk 52 (by kernel_rfl)
          have e53 : tm.getD 53 undef = undef := hk 53 (by kernel_rfl)
          have e54 : tm.getD 54 undef = undef := hk 54 (by kernel_rfl)
          have e55 : tm.getD 55 undef = undef := hk 55 (by kernel_rfl)
          have e56 : tm.getD 56 undef = undef := hk 56 (by kernel_rfl)
          have e57 : tm.getD 57 undef = undef := hk 57 (by kernel_rfl)
          have e58 : tm.getD 58 undef = undef := hk 58 (by kernel_rfl)
          have e59 : tm.getD 59 undef = undef := hk 59 (by kernel_rfl)
          have e60 : tm.getD 60 undef = undef := hk 60 (by kernel_rfl)
          have e61 : tm.getD 61 undef = undef := hk 61 (by kernel_rfl)
          have e62 : tm.getD 62 undef = undef := hk 62 (by kernel_rfl)
          have e63 : tm.getD 63 undef = undef := hk 63 (by kernel_rfl)
          have e64 : tm.getD 64 undef = undef := hk 64 (by kernel_rfl)
          have g32 : (tm.getD 32 undef) = .string s := hG 0 32 (by decide) rfl
          have g33 : (tm.getD 33 undef) = .string s := hG 1 33 (by decide) rfl
          have g34 : (tm.getD 34 undef) = .int .i64 (s.size : Int) := hG 2 34 (by decide) rfl
          have g35 : (tm.getD 35 undef) = .int .i64 4096 := hG 3 35 (by decide) rfl
          have g36 : (tm.getD 36 undef) = .string (s.extract 0 4096) := hG 4 36 (by decide) rfl
          have g37 : (fun u (X : World) => MemAt X u d) ((tm.getD 37 undef)) X := hG 5 37 (by decide) rfl
          have g38 : (tm.getD 38 undef) = .agg cs := hG 6 38 (by decide) rfl
          have g39 : (tm.getD 39 undef) = .int .i64 m := hG 7 39 (by decide) rfl
          have g40 : (fun u (X : World) => ∃ v', u = .tuple #[.agg cs2, v', .int .i64 kk, .int .i64 what] ∧ MemAt X v' d2) ((tm.getD 40 undef)) X := hG 8 40 (by decide) rfl
          have g31 : (fun u (X : World) => ∃ v', u = .tuple #[.agg cs2, v', .int .i64 kk, .int .i64 what] ∧ MemAt X v' d2) ((tm.getD 31 undef)) X := hG 9 31 (by decide) rfl
          have g41 : (tm.getD 41 undef) = .agg cs2 := hG 10 41 (by decide) rfl
          have g42 : (fun u (X : World) => MemAt X u d2) ((tm.getD 42 undef)) X := hG 11 42 (by decide) rfl
          have g43 : (tm.getD 43 undef) = .int .i64 kk := hG 12 43 (by decide) rfl
          have g44 : (tm.getD 44 undef) = .int .i64 what := hG 13 44 (by decide) rfl
          have g11 : (Sb W6.heap.size) ((tm.getD 11 undef)) X := hG 14 11 (by decide) rfl
          have g12 : (fun u (X : World) => MemAt X u d2) ((tm.getD 12 undef)) X := hG 16 12 (by decide) rfl
          have g13 : (tm.getD 13 undef) = .int .i64 kk := hG 17 13 (by decide) rfl
          have g14 : (tm.getD 14 undef) = .int .i64 what := hG 18 14 (by decide) rfl
          have htm := arr_of tm ((.string s : Value) :: (.agg cs : Value) :: (.int .i64 m : Value) :: (undef : Value) :: (.pointer (some ⟨w.heap.size, 0, none⟩) : Value) :: (undef : Value) :: (.bool false : Value) :: (.pointer (some ⟨Bb, 0, none⟩) : Value) :: (.pointer (some ⟨w5.heap.size, 0, none⟩) : Value) :: (.int .i64 kk : Value) :: (.int .i64 what : Value) :: (tm.getD 11 undef : Value) :: (tm.getD 12 undef : Value) :: (tm.getD 13 undef : Value) :: (tm.getD 14 undef : Value) :: (.bool true : Value) :: (.bool false : Value) :: (.string s : Value) :: (.pointer (some ⟨Bb, 0, none⟩) : Value) :: (.pointer (some ⟨Bb, 0, none⟩) : Value) :: (.bool false : Value) :: (u21 : Value) :: (u22 : Value) :: (.tuple #[.agg cs2, .int .i64 kk, .int .i64 what] : Value) :: (.pointer (some ⟨Bb, 0, none⟩) : Value) :: (.agg cs : Value) :: (.int .i64 m : Value) :: (.tuple #[.agg cs2, .int .i64 kk, .int .i64 what] : Value) :: (.agg cs2 : Value) :: (.int .i64 kk : Value) :: (.int .i64 what : Value) :: (tm.getD 31 undef : Value) :: (tm.getD 32 undef : Value) :: (tm.getD 33 undef : Value) :: (tm.getD 34 undef : Value) :: (tm.getD 35 undef : Value) :: (tm.getD 36 undef : Value) :: (tm.getD 37 undef : Value) :: (tm.getD 38 undef : Value) :: (tm.getD 39 undef : Value) :: (tm.getD 40 undef : Value) :: (tm.getD 41 undef : Value) :: (tm.getD 42 undef : Value) :: (tm.getD 43 undef : Value) :: (tm.getD 44 undef : Value) :: (undef : Value) :: (undef : Value) :: (undef : Value) :: (undef : Value) :: (undef : Value) :: (undef : Value) :: (undef : Value) :: (undef : Value) :: (undef : Value) :: (undef : Value) :: (undef : Value) :: (undef : Value) :: (undef : Value) :: (undef : Value) :: (undef : Value) :: (undef : Value) :: (undef : Value) :: (undef : Value) :: (undef : Value) :: (undef : Value) :: []) hs (by show (tm.getD 0 undef :: tm.getD 1 undef :: tm.getD 2 undef :: tm.getD 3 undef :: tm.getD 4 undef :: tm.getD 5 undef :: tm.getD 6 undef :: tm.getD 7 undef :: tm.getD 8 undef :: tm.getD 9 undef :: tm.getD 10 undef :: tm.getD 11 undef :: tm.getD 12 undef :: tm.getD 13 undef :: tm.getD 14 undef :: tm.getD 15 undef :: tm.getD 16 undef :: tm.getD 17 undef :: tm.getD 18 undef :: tm.getD 19 undef :: tm.getD 20 undef :: tm.getD 21 undef :: tm.getD 22 undef :: tm.getD 23 undef :: tm.getD 24 undef :: tm.getD 25 undef :: tm.getD 26 undef :: tm.getD 27 undef :: tm.getD 28 undef :: tm.getD 29 undef :: tm.getD 30 undef :: tm.getD 31 undef :: tm.getD 32 undef :: tm.getD 33 undef :: tm.getD 34 undef :: tm.getD 35 undef :: tm.getD 36 undef :: tm.getD 37 undef :: tm.getD 38 undef :: tm.getD 39 undef :: tm.getD 40 undef :: tm.getD 41 undef :: tm.getD 42 undef :: tm.getD 43 undef :: tm.getD 44 undef :: tm.getD 45 undef :: tm.getD 46 undef :: tm.getD 47 undef :: tm.getD 48 undef :: tm.getD 49 undef :: tm.getD 50 undef :: tm.getD 51 undef :: tm.getD 52 undef :: tm.getD 53 undef :: tm.getD 54 undef :: tm.getD 55 undef :: tm.getD 56 undef :: tm.getD 57 undef :: tm.getD 58 undef :: tm.getD 59 undef :: tm.getD 60 undef :: tm.getD 61 undef :: tm.getD 62 undef :: tm.getD 63 undef :: tm.getD 64 undef :: []) = _; rw [e0, e1, e2, e3, e4, e5, e6, e7, e8, e9, e10, e15, e16, e17, e18, e19, e20, e21, e22, e23, e24, e25, e26, e27, e28, e29, e30, e45, e46, e47, e48, e49, e50, e51, e52, e53, e54, e55, e56, e57, e58, e59, e60, e61, e62, e63, e64]; try rfl)
          clear hs hk hG e0 e1 e2 e3 e4 e5 e6 e7 e8 e9 e10 e15 e16 e17 e18 e19 e20 e21 e22 e23 e24 e25 e26 e27 e28 e29 e30 e45 e46 e47 e48 e49 e50 e51 e52 e53 e54 e55 e56 e57 e58 e59 e60 e61 e62 e63 e64
          generalize tm.getD 32 undef = t32 at htm g32
          generalize tm.getD 33 undef = t33 at htm g33
          generalize tm.getD 34 undef = t34 at htm g34
          generalize tm.getD 35 undef = t35 at htm g35
          generalize tm.getD 36 undef = t36 at htm g36
          generalize tm.getD 37 undef = t37 at htm g37
          generalize tm.getD 38 undef = t38 at htm g38
          generalize tm.getD 39 undef = t39 at htm g39
          generalize tm.getD 40 undef = t40 at htm g40
          generalize tm.getD 31 undef = t31 at htm g31
          generalize tm.getD 41 undef = t41 at htm g41
          generalize tm.getD 42 undef = t42 at htm g42
          generalize tm.getD 43 undef = t43 at htm g43
          generalize tm.getD 44 undef = t44 at htm g44
          generalize tm.getD 11 undef = t11 at htm g11 hz1
          generalize tm.getD 12 undef = t12 at htm g12
          generalize tm.getD 13 undef = t13 at htm g13
          generalize tm.getD 14 undef = t14 at htm g14
          subst htm
          subst g32
          subst g33
          subst g34
          subst g35
          subst g36
          subst g38
          subst g39
          subst g41
          subst g43
          subst g44
          subst g13
          subst g14
          subst hz1
          have M9 := Lib.hid g12
          have K9 := Lib.hid hz2
          have B9 := Lib.hid hB.to
          clear g37 g40 g31 g42 g11 g12 hB hz2
          try go_wp2_with fail
          go_meet
          exact ⟨gz, rfl, rfl, rfl, M9.out, K9.out, B9.out⟩
    case rest =>
      rename World => wC
      obtain ⟨gq, h11, h13, h14, hmem, hg11, hbx⟩ := hcut
      subst h11 h13 h14
      have n8 := (hbx.block _ (Array.getElem?_eq_some_iff.1 N6.out).1).trans N6.out
      have HAl := Lib.hid (all_any Bb Bb d2 ls5 wC (HA6.out.below hbx))
      have heq := HES.out wC
      have hpc16 := HPC.out
      have HMm := Lib.hid hmem
      have HBx := Lib.hid hbx
      obtain ⟨SS, hSS⟩ : ∃ SS : ByteArray, (⟨d2.toArray⟩ : ByteArray) = SS := ⟨_, rfl⟩
      rw [hSS] at HAl
      have HSS := Lib.hid hSS
      clear hmem hbx hSS k6 hcs
      have HN8 := Lib.hid n8
      have HG11 := Lib.hid hg11
      clear n8 hg11 heq
      go_upto_region 9 with fail
      refine wp_region_monoT 6 21 (fun kq uq Xq => match kq with | 45 => uq = .agg cs2 | 46 => uq = .agg cs2 | 47 => uq = .bool true | 48 => uq = .bool true | 49 => uq = .int .i64 (kk : Int) | 50 => uq = .int .i64 (kk : Int) | 51 => uq = .bool true | 52 => uq = .bool true | 53 => uq = .bool true | 54 => uq = .int .i64 what | 55 => uq = .int .i64 what | 56 => uq = .bool true | 57 => uq = .bool true | 58 => uq = .bool true | 59 => uq = .pointer (some ⟨Bb, 0, none⟩) | 60 => uq = .string SS | 61 => uq = u12 | 62 => uq = .string SS | 63 => uq = .bool true | 64 => uq = .bool true | 6 => uq = .bool true | _ => True) (by kernel_rfl) (by kernel_rfl) (by kernel_rfl) (by kernel_rfl) (by simp) (by kernel_rfl) ?_ ?_ ?_
      · intro kq v W W' h hb
        revert h
        try dsimp only
        split
        · intro h; exact h
        · intro h; exact h
        · intro h; exact h
        · intro h; exact h
        · intro h; exact h
        · intro h; exact h
        · intro h; exact h
        · intro h; exact h
        · intro h; exact h
        · intro h; exact h
        · intro h; exact h
        · intro h; exact h
        · intro h; exact h
        · intro h; exact h
        · intro h; exact h
        · intro h; exact h
        · intro h; exact h
        · intro h; exact h
        · intro h; exact h
        · intro h; exact h
        · intro h; exact h
        · intro h; trivial
      · intro a' X hB hs hk i o d ho hd hG
        match i, ho with
        | 0, ho =>
          obtain rfl : _ = o := Option.some.inj ho
          obtain rfl : 45 = d := Option.some.inj hd
          have g8 : a'.eval (.tmp 8) = .pointer (some ⟨w5.heap.size, 0, none⟩) := hk 8 (by kernel_rfl)
          obtain ⟨ev, hev⟩ : ∃ ev, a'.eval = ev := ⟨_, rfl⟩
          rw [hev] at g8 ⊢
          clear hev hG hk
          have hld := run_loadVar_row (P := Try.prog) X w5.heap.size 25 25 cs2 (0, 0) _ ((hB.block _ (Array.getElem?_eq_some_iff.1 HN8.out).1).trans HN8.out) Try.underlying25 rfl hsz2
          exact .inr ⟨rfl, .inl ⟨.agg cs2, X, exec_load rfl g8 hld, Below.refl _ _, rfl⟩⟩
        | 1, ho =>
          obtain rfl : _ = o := Option.some.inj ho
          obtain rfl : 46 = d := Option.some.inj hd
          have g11 : a'.eval (.tmp 11) = .pointer (some ⟨gq, 0, none⟩) := hk 11 (by kernel_rfl)
          obtain ⟨ev, hev⟩ : ∃ ev, a'.eval = ev := ⟨_, rfl⟩
          rw [hev] at g11 ⊢
          clear hev hG hk
          have hld := run_loadVar_row (P := Try.prog) X gq 25 25 cs2 (0, 0) _ ((hB.block _ (Array.getElem?_eq_some_iff.1 HG11.out).1).trans HG11.out) Try.underlying25 rfl hsz2
          exact .inr ⟨rfl, .inl ⟨.agg cs2, X, exec_load rfl g11 hld, Below.refl _ _, rfl⟩⟩
        | 2, ho =>
          obtain rfl : _ = o := Option.some.inj ho
          obtain rfl : 47 = d := Option.some.inj hd
          have g45 : a'.eval (.tmp 45) = .agg cs2 := hG ⟨0, .data⟩ (by simp) rfl 45 rfl
          have g46 : a'.eval (.tmp 46) = .agg cs2 := hG ⟨1, .data⟩ (by simp) rfl 46 rfl
          obtain ⟨ev, hev⟩ : ∃ ev, a'.eval = ev := ⟨_, rfl⟩
          rw [hev] at g45 g46 ⊢
          clear hev hG hk
          have hcv := conv_mem (HMm.out.below hB)
          rw [HSS.out] at hcv
          have heq := HES.out X
          exact .inr ⟨rfl, .inl ⟨.bool true, X, by clear hs; go_simp, Below.refl _ _, rfl⟩⟩
        | 3, ho =>
          obtain rfl : _ = o := Option.some.inj ho
          obtain rfl : 48 = d := Option.some.inj hd
          have g47 : a'.eval (.tmp 47) = .bool true := hG ⟨2, .data⟩ (by simp) rfl 47 rfl
          obtain ⟨ev, hev⟩ : ∃ ev, a'.eval = ev := ⟨_, rfl⟩
          rw [hev] at g47 ⊢
          clear hev hG hk
          have hcv := conv_mem (HMm.out.below hB)
          rw [HSS.out] at hcv
          have heq := HES.out X
          exact .inr ⟨rfl, .inl ⟨.bool true, X, by clear hs; go_simp, Below.refl _ _, rfl⟩⟩
        | 4, ho =>
          obtain rfl : _ = o := Option.some.inj ho
          obtain rfl : 49 = d := Option.some.inj hd
          have g9 : a'.eval (.tmp 9) = .int .i64 kk := hk 9 (by kernel_rfl)
          have gg : a'.eval (.tmp 48) = .bool true := hG ⟨3, .guard⟩ (by simp) rfl 48 rfl
          refine .inr ⟨want_yes (n := 65) (d := 48) rfl hs (by decide) rfl gg, .inl ⟨.int .i64 (kk : Int), X, ?_, Below.refl _ _, rfl⟩⟩
          obtain ⟨ev, hev⟩ : ∃ ev, a'.eval = ev := ⟨_, rfl⟩
          rw [hev] at g9 ⊢
          clear hev hG hk hs gg
          have hcv := conv_mem (HMm.out.below hB)
          rw [HSS.out] at hcv
          have heq := HES.out X
          go_simp
        | 5, ho =>
          obtain rfl : _ = o := Option.some.inj ho
          obtain rfl : 50 = d := Option.some.inj hd
          have g13 : a'.eval (.tmp 13) = .int .i64 kk := hk 13 (by kernel_rfl)
          have gg : a'.eval (.tmp 48) = .bool true := hG ⟨3, .guard⟩ (by simp) rfl 48 rfl
          refine .inr ⟨want_yes (n := 65) (d := 48) rfl hs (by decide) rfl gg, .inl ⟨.int .i64 (kk : Int), X, ?_, Below.refl _ _, rfl⟩⟩
          obtain ⟨ev, hev⟩ : ∃ ev, a'.eval = ev := ⟨_, rfl⟩
          rw [hev] at g13 ⊢
          clear hev hG hk hs gg
          have hcv := conv_mem (HMm.out.below hB)
          rw [HSS.out] at hcv
          have heq := HES.out X
          go_simp
        | 6, ho =>
          obtain rfl : _ = o := Option.some.inj ho
          obtain rfl : 51 = d := Option.some.inj hd
          have g49 : a'.eval (.tmp 49) = .int .i64 (kk : Int) := hG ⟨4, .data⟩ (by simp) rfl 49 rfl
          have g50 : a'.eval (.tmp 50) = .int .i64 (kk : Int) := hG ⟨5, .data⟩ (by simp) rfl 50 rfl
          have gg : a'.eval (.tmp 48) = .bool true := hG ⟨3, .guard⟩ (by simp) rfl 48 rfl
          refine .inr ⟨want_yes (n := 65) (d := 48) rfl hs (by decide) rfl gg, .inl ⟨.bool true, X, ?_, Below.refl _ _, rfl⟩⟩
          obtain ⟨ev, hev⟩ : ∃ ev, a'.eval = ev := ⟨_, rfl⟩
          rw [hev] at g49 g50 ⊢
          clear hev hG hk hs gg
          have hcv := conv_mem (HMm.out.below hB)
          rw [HSS.out] at hcv
          have heq := HES.out X
          go_simp
        | 7, ho =>
          obtain rfl : _ = o := Option.some.inj ho
          obtain rfl : 52 = d := Option.some.inj hd
          have g48 : a'.eval (.tmp 48) = .bool true := hG ⟨3, .data⟩ (by simp) rfl 48 rfl
          have g51 : a'.eval (.tmp 51) = .bool true := hG ⟨6, .data⟩ (by simp) rfl 51 rfl
          have k0 : a'.eval (.const (.bool false)) = (.bool false) := rfl
          obtain ⟨ev, hev⟩ : ∃ ev, a'.eval = ev := ⟨_, rfl⟩
          rw [hev] at g48 g51 k0 ⊢
          clear hev hG hk
          have hcv := conv_mem (HMm.out.below hB)
          rw [HSS.out] at hcv
          have heq := HES.out X
          exact .inr ⟨rfl, .inl ⟨.bool true, X, by clear hs; go_simp, Below.refl _ _, rfl⟩⟩
        | 8, ho =>
          obtain rfl : _ = o := Option.some.inj ho
          obtain rfl : 53 = d := Option.some.inj hd
          have g52 : a'.eval (.tmp 52) = .bool true := hG ⟨7, .data⟩ (by simp) rfl 52 rfl
          obtain ⟨ev, hev⟩ : ∃ ev, a'.eval = ev := ⟨_, rfl⟩
          rw [hev] at g52 ⊢
          clear hev hG hk
          have hcv := conv_mem (HMm.out.below hB)
          rw [HSS.out] at hcv
          have heq := HES.out X
          exact .inr ⟨rfl, .inl ⟨.bool true, X, by clear hs; go_simp, Below.refl _ _, rfl⟩⟩
        | 9, ho =>
          obtain rfl : _ = o := Option.some.inj ho
          obtain rfl : 54 = d := Option.some.inj hd
          have g10 : a'.eval (.tmp 10) = .int .i64 what := hk 10 (by kernel_rfl)
          have gg : a'.eval (.tmp 53) = .bool true := hG ⟨8, .guard⟩ (by simp) rfl 53 rfl
          refine .inr ⟨want_yes (n := 65) (d := 53) rfl hs (by decide) rfl gg, .inl ⟨.int .i64 what, X, ?_, Below.refl _ _, rfl⟩⟩
          obtain ⟨ev, hev⟩ : ∃ ev, a'.eval = ev := ⟨_, rfl⟩
          rw [hev] at g10 ⊢
          clear hev hG hk hs gg
          have hcv := conv_mem (HMm.out.below hB)
          rw [HSS.out] at hcv
          have heq := HES.out X
          go_simp
        | 10, ho =>
          obtain rfl : _ = o := Option.some.inj ho
          obtain rfl : 55 = d := Option.some.inj hd
          have g14 : a'.eval (.tmp 14) = .int .i64 what := hk 14 (by kernel_rfl)
          have gg : a'.eval (.tmp 53) = .bool true := hG ⟨8, .guard⟩ (by simp) rfl 53 rfl
          refine .inr ⟨want_yes (n := 65) (d := 53) rfl hs (by decide) rfl gg, .inl ⟨.int .i64 what, X, ?_, Below.refl _ _, rfl⟩⟩
          obtain ⟨ev, hev⟩ : ∃ ev, a'.eval = ev := ⟨_, rfl⟩
          rw [hev] at g14 ⊢
          clear hev hG hk hs gg
          have hcv := conv_mem (HMm.out.below hB)
          rw [HSS.out] at hcv
          have heq := HES.out X
          go_simp
        | 11, ho =>
          obtain rfl : _ = o := Option.some.inj ho
          obtain rfl : 56 = d := Option.some.inj hd
          have g54 : a'.eval (.tmp 54) = .int .i64 what := hG ⟨9, .data⟩ (by simp) rfl 54 rfl
          have g55 : a'.eval (.tmp 55) = .int .i64 what := hG ⟨10, .data⟩ (by simp) rfl 55 rfl
          have gg : a'.eval (.tmp 53) = .bool true := hG ⟨8, .guard⟩ (by simp) rfl 53 rfl
          refine .inr ⟨want_yes (n := 65) (d := 53) rfl hs (by decide) rfl gg, .inl ⟨.bool true, X, ?_, Below.refl _ _, rfl⟩⟩
          obtain ⟨ev, hev⟩ : ∃ ev, a'.eval = ev := ⟨_, rfl⟩
          rw [hev] at g54 g55 ⊢
          clear hev hG hk hs gg
          have hcv := conv_mem (HMm.out.below hB)
          rw [HSS.out] at hcv
          have heq := HES.out X
          go_simp
        | 12, ho =>
          obtain rfl : _ = o := Option.some.inj ho
          obtain rfl : 57 = d := Option.some.inj hd
          have g53 : a'.eval (.tmp 53) = .bool true := hG ⟨8, .data⟩ (by simp) rfl 53 rfl
          have g56 : a'.eval (.tmp 56) = .bool true := hG ⟨11, .data⟩ (by simp) rfl 56 rfl
          have k0 : a'.eval (.const (.bool false)) = (.bool false) := rfl
          obtain ⟨ev, hev⟩ : ∃ ev, a'.eval = ev := ⟨_, rfl⟩
          rw [hev] at g53 g56 k0 ⊢
          clear hev hG hk
          have hcv := conv_mem (HMm.out.below hB)
          rw [HSS.out] at hcv
          have heq := HES.out X
          exact .inr ⟨rfl, .inl ⟨.bool true, X, by clear hs; go_simp, Below.refl _ _, rfl⟩⟩
        | 13, ho =>
          obtain rfl : _ = o := Option.some.inj ho
          obtain rfl : 58 = d := Option.some.inj hd
          have g57 : a'.eval (.tmp 57) = .bool true := hG ⟨12, .data⟩ (by simp) rfl 57 rfl
          obtain ⟨ev, hev⟩ : ∃ ev, a'.eval = ev := ⟨_, rfl⟩
          rw [hev] at g57 ⊢
          clear hev hG hk
          have hcv := conv_mem (HMm.out.below hB)
          rw [HSS.out] at hcv
          have heq := HES.out X
          exact .inr ⟨rfl, .inl ⟨.bool true, X, by clear hs; go_simp, Below.refl _ _, rfl⟩⟩
        | 14, ho =>
          obtain rfl : _ = o := Option.some.inj ho
          obtain rfl : 59 = d := Option.some.inj hd
          have g7 : a'.eval (.tmp 7) = .pointer (some ⟨Bb, 0, none⟩) := hk 7 (by kernel_rfl)
          have gg : a'.eval (.tmp 58) = .bool true := hG ⟨13, .guard⟩ (by simp) rfl 58 rfl
          refine .inr ⟨want_yes (n := 65) (d := 58) rfl hs (by decide) rfl gg, .inl ⟨.pointer (some ⟨Bb, 0, none⟩), X, ?_, Below.refl _ _, rfl⟩⟩
          obtain ⟨ev, hev⟩ : ∃ ev, a'.eval = ev := ⟨_, rfl⟩
          rw [hev] at g7 ⊢
          clear hev hG hk hs gg
          have hcv := conv_mem (HMm.out.below hB)
          rw [HSS.out] at hcv
          have heq := HES.out X
          go_simp
        | 15, ho =>
          obtain rfl : _ = o := Option.some.inj ho
          obtain rfl : 60 = d := Option.some.inj hd
          have g59 : a'.eval (.tmp 59) = .pointer (some ⟨Bb, 0, none⟩) := hG ⟨14, .data⟩ (by simp) rfl 59 rfl
          have gg : a'.eval (.tmp 58) = .bool true := hG ⟨13, .guard⟩ (by simp) rfl 58 rfl
          refine .inr ⟨want_yes (n := 65) (d := 58) rfl hs (by decide) rfl gg, .inr ⟨8, #[.pointer (some ⟨Bb, 0, none⟩)], ?_, ?_⟩⟩
          · have gF : a'.eval (.func 8) = .func (.func 8) #[] #[] := rfl
            obtain ⟨ev, hev⟩ : ∃ ev, a'.eval = ev := ⟨_, rfl⟩
            rw [hev] at gF g59 ⊢
            exact exec_call1 rfl gF g59 (enters_of Try.func8 (by kernel_rfl) rfl)
          have hal := all_any Bb Bb d2 ls5 X (HA6.out.below (HBx.out.trans (hB.mono HBx.out.size)))
          rw [HSS.out] at hal
          exact hal.mono fun e W' ⟨he, hb⟩ => ⟨_, he, hb, rfl⟩
        | 16, ho =>
          obtain rfl : _ = o := Option.some.inj ho
          obtain rfl : 61 = d := Option.some.inj hd
          have g12 : a'.eval (.tmp 12) = u12 := hk 12 (by kernel_rfl)
          have gg : a'.eval (.tmp 58) = .bool true := hG ⟨13, .guard⟩ (by simp) rfl 58 rfl
          refine .inr ⟨want_yes (n := 65) (d := 58) rfl hs (by decide) rfl gg, .inl ⟨u12, X, ?_, Below.refl _ _, rfl⟩⟩
          obtain ⟨ev, hev⟩ : ∃ ev, a'.eval = ev := ⟨_, rfl⟩
          rw [hev] at g12 ⊢
          clear hev hG hk hs gg
          have hcv := conv_mem (HMm.out.below hB)
          rw [HSS.out] at hcv
          have heq := HES.out X
          go_simp
        | 17, ho =>
          obtain rfl : _ = o := Option.some.inj ho
          obtain rfl : 62 = d := Option.some.inj hd
          have g61 : a'.eval (.tmp 61) = u12 := hG ⟨16, .data⟩ (by simp) rfl 61 rfl
          have gg : a'.eval (.tmp 58) = .bool true := hG ⟨13, .guard⟩ (by simp) rfl 58 rfl
          refine .inr ⟨want_yes (n := 65) (d := 58) rfl hs (by decide) rfl gg, .inl ⟨.string SS, X, ?_, Below.refl _ _, rfl⟩⟩
          obtain ⟨ev, hev⟩ : ∃ ev, a'.eval = ev := ⟨_, rfl⟩
          rw [hev] at g61 ⊢
          clear hev hG hk hs gg
          have hcv := conv_mem (HMm.out.below hB)
          rw [HSS.out] at hcv
          have heq := HES.out X
          go_simp
        | 18, ho =>
          obtain rfl : _ = o := Option.some.inj ho
          obtain rfl : 63 = d := Option.some.inj hd
          have g60 : a'.eval (.tmp 60) = .string SS := hG ⟨15, .data⟩ (by simp) rfl 60 rfl
          have g62 : a'.eval (.tmp 62) = .string SS := hG ⟨17, .data⟩ (by simp) rfl 62 rfl
          have gg : a'.eval (.tmp 58) = .bool true := hG ⟨13, .guard⟩ (by simp) rfl 58 rfl
          refine .inr ⟨want_yes (n := 65) (d := 58) rfl hs (by decide) rfl gg, .inl ⟨.bool true, X, ?_, Below.refl _ _, rfl⟩⟩
          obtain ⟨ev, hev⟩ : ∃ ev, a'.eval = ev := ⟨_, rfl⟩
          rw [hev] at g60 g62 ⊢
          clear hev hG hk hs gg
          have hcv := conv_mem (HMm.out.below hB)
          rw [HSS.out] at hcv
          have heq := HES.out X
          go_simp
        | 19, ho =>
          obtain rfl : _ = o := Option.some.inj ho
          obtain rfl : 64 = d := Option.some.inj hd
          have g58 : a'.eval (.tmp 58) = .bool true := hG ⟨13, .data⟩ (by simp) rfl 58 rfl
          have g63 : a'.eval (.tmp 63) = .bool true := hG ⟨18, .data⟩ (by simp) rfl 63 rfl
          have k0 : a'.eval (.const (.bool false)) = (.bool false) := rfl
          obtain ⟨ev, hev⟩ : ∃ ev, a'.eval = ev := ⟨_, rfl⟩
          rw [hev] at g58 g63 k0 ⊢
          clear hev hG hk
          have hcv := conv_mem (HMm.out.below hB)
          rw [HSS.out] at hcv
          have heq := HES.out X
          exact .inr ⟨rfl, .inl ⟨.bool true, X, by clear hs; go_simp, Below.refl _ _, rfl⟩⟩
        | 20, ho =>
          obtain rfl : _ = o := Option.some.inj ho
          obtain rfl : 6 = d := Option.some.inj hd
          have g64 : a'.eval (.tmp 64) = .bool true := hG ⟨19, .data⟩ (by simp) rfl 64 rfl
          obtain ⟨ev, hev⟩ : ∃ ev, a'.eval = ev := ⟨_, rfl⟩
          rw [hev] at g64 ⊢
          clear hev hG hk
          have hcv := conv_mem (HMm.out.below hB)
          rw [HSS.out] at hcv
          have heq := HES.out X
          exact .inr ⟨rfl, .inl ⟨.bool true, X, by clear hs; go_simp, Below.refl _ _, rfl⟩⟩
        | j + 21, ho => simp at ho
      · intro a' X hB hs hdf hk hG
        obtain ⟨tm, df⟩ := a'
        obtain rfl : df = [] := hdf
        have e0 : tm.getD 0 undef = .string s := hk 0 (by kernel_rfl)
        have e1 : tm.getD 1 undef = .agg cs := hk 1 (by kernel_rfl)
        have e2 : tm.getD 2 undef = .int .i64 m := hk 2 (by kernel_rfl)
        have e3 : tm.getD 3 undef = undef := hk 3 (by kernel_rfl)
        have e4 : tm.getD 4 undef = .pointer (some ⟨w.heap.size, 0, none⟩) := hk 4 (by kernel_rfl)
        have e5 : tm.getD 5 undef = undef := hk 5 (by kernel_rfl)
        have e7 : tm.getD 7 undef = .pointer (some ⟨Bb, 0, none⟩) := hk 7 (by kernel_rfl)
        have e8 : tm.getD 8 undef = .pointer (some ⟨w5.heap.size, 0, none⟩) := hk 8 (by kernel_rfl)
        have e9 : tm.getD 9 undef = .int .i64 kk := hk 9 (by kernel_rfl)
        have e10 : tm.getD 10 undef = .int .i64 what := hk 10 (by kernel_rfl)
        have e11 : tm.getD 11 undef = .pointer (some ⟨gq, 0, none⟩) := hk 11 (by kernel_rfl)
        have e12 : tm.getD 12 undef = u12 := hk 12 (by kernel_rfl)
        have e13 : tm.getD 13 undef = .int .i64 kk := hk 13 (by kernel_rfl)
        have e14 : tm.getD 14 undef = .int .i64 what := hk 14 (by kernel_rfl)
        have e15 : tm.getD 15 undef = .bool true := hk 15 (by kernel_rfl)
        have e16 : tm.getD 16 undef = .bool false := hk 16 (by kernel_rfl)
        have e17 : tm.getD 17 undef = .string s := hk 17 (by kernel_rfl)
        have e18 : tm.getD 18 undef = .pointer (some ⟨Bb, 0, none⟩) := hk 18 (by kernel_rfl)
        have e19 : tm.getD 19 undef = .pointer (some ⟨Bb, 0, none⟩) := hk 19 (by kernel_rfl)
        have e20 : tm.getD 20 undef = .bool false := hk 20 (by kernel_rfl)
        have e21 : tm.getD 21 undef = u21 := hk 21 (by kernel_rfl)
        have e22 : tm.getD 22 undef = u22 := hk 22 (by kernel_rfl)
        have e23 : tm.getD 23 undef = .tuple #[.agg cs2, .int .i64 kk, .int .i64 what] := hk 23 (by kernel_rfl)
        have e24 : tm.getD 24 undef = .pointer (some ⟨Bb, 0, none⟩) := hk 24 (by kernel_rfl)
        have e25 : tm.getD 25 undef = .agg cs := hk 25 (by kernel_rfl)
        have e26 : tm.getD 26 undef = .int .i64 m := hk 26 (by kernel_rfl)
        have e27 : tm.getD 27 undef = .tuple #[.agg cs2, .int .i64 kk, .int .i64 what] := hk 27 (by kernel_rfl)
        have e28 : tm.getD 28 undef = .agg cs2 := hk 28 (by kernel_rfl)
        have e29 : tm.getD 29 undef = .int .i64 kk := hk 29 (by kernel_rfl)
        have e30 : tm.getD 30 undef = .int .i64 what := hk 30 (by kernel_rfl)
        have e31 : tm.getD 31 undef = u31 := hk 31 (by kernel_rfl)
        have e32 : tm.getD 32 undef = u32 := hk 32 (by kernel_rfl)
        have e33 : tm.getD 33 undef = u33 := hk 33 (by kernel_rfl)
        have e34 : tm.getD 34 undef = u34 := hk 34 (by kernel_rfl)
        have e35 : tm.getD 35 undef = u35 := hk 35 (by kernel_rfl)
        have e36 : tm.getD 36 undef = u36 := hk 36 (by kernel_rfl)
        have e37 : tm.getD 37 undef = u37 := hk 37 (by kernel_rfl)
        have e38 : tm.getD 38 undef = u38 := hk 38 (by kernel_rfl)
        have e39 : tm.getD 39 undef = u39 := hk 39 (by kernel_rfl)
        have e40 : tm.getD 40 undef = u40 := hk 40 (by kernel_rfl)
        have e41 : tm.getD 41 undef = u41 := hk 41 (by kernel_rfl)
        have e42 : tm.getD 42 undef = u42 := hk 42 (by kernel_rfl)
        have e43 : tm.getD 43 undef = u43 := hk 43 (by kernel_rfl)
        have e44 : tm.getD 44 undef = u44 := hk 44 (by kernel_rfl)
        have g45 : (tm.getD 45 undef) = .agg cs2 := hG 0 45 (by decide) rfl
        have g46 : (tm.getD 46 undef) = .agg cs2 := hG 1 46 (by decide) rfl
        have g47 : (tm.getD 47 undef) = .bool true := hG 2 47 (by decide) rfl
        have g48 : (tm.getD 48 undef) = .bool true := hG 3 48 (by decide) rfl
        have g49 : (tm.getD 49 undef) = .int .i64 (kk : Int) := hG 4 49 (by decide) rfl
        have g50 : (tm.getD 50 undef) = .int .i64 (kk : Int) := hG 5 50 (by decide) rfl
        have g51 : (tm.getD 51 undef) = .bool true := hG 6 51 (by decide) rfl
        have g52 : (tm.getD 52 undef) = .bool true := hG 7 52 (by decide) rfl
        have g53 : (tm.getD 53 undef) = .bool true := hG 8 53 (by decide) rfl
        have g54 : (tm.getD 54 undef) = .int .i64 what := hG 9 54 (by decide) rfl
        have g55 : (tm.getD 55 undef) = .int .i64 what := hG 10 55 (by decide) rfl
        have g56 : (tm.getD 56 undef) = .bool true := hG 11 56 (by decide) rfl
        have g57 : (tm.getD 57 undef) = .bool true := hG 12 57 (by decide) rfl
        have g58 : (tm.getD 58 undef) = .bool true := hG 13 58 (by decide) rfl
        have g59 : (tm.getD 59 undef) = .pointer (some ⟨Bb, 0, none⟩) := hG 14 59 (by decide) rfl
        have g60 : (tm.getD 60 undef) = .string SS := hG 15 60 (by decide) rfl
        have g61 : (tm.getD 61 undef) = u12 := hG 16 61 (by decide) rfl
        have g62 : (tm.getD 62 undef) = .string SS := hG 17 62 (by decide) rfl
        have g63 : (tm.getD 63 undef) = .bool true := hG 18 63 (by decide) rfl
        have g64 : (tm.getD 64 undef) = .bool true := hG 19 64 (by decide) rfl
        have g6 : (tm.getD 6 undef) = .bool true := hG 20 6 (by decide) rfl
        have htm := arr_of tm ((.string s : Value) :: (.agg cs : Value) :: (.int .i64 m : Value) :: (undef : Value) :: (.pointer (some ⟨w.heap.size, 0, none⟩) : Value) :: (undef : Value) :: (tm.getD 6 undef : Value) :: (.pointer (some ⟨Bb, 0, none⟩) : Value) :: (.pointer (some ⟨w5.heap.size, 0, none⟩) : Value) :: (.int .i64 kk : Value) :: (.int .i64 what : Value) :: (.pointer (some ⟨gq, 0, none⟩) : Value) :: (u12 : Value) :: (.int .i64 kk : Value) :: (.int .i64 what : Value) :: (.bool true : Value) :: (.bool false : Value) :: (.string s : Value) :: (.pointer (some ⟨Bb, 0, none⟩) : Value) :: (.pointer (some ⟨Bb, 0, none⟩) : Value) :: (.bool false : Value) :: (u21 : Value) :: (u22 : Value) :: (.tuple #[.agg cs2, .int .i64 kk, .int .i64 what] : Value) :: (.pointer (some ⟨Bb, 0, none⟩) : Value) :: (.agg cs : Value) :: (.int .i64 m : Value) :: (.tuple #[.agg cs2, .int .i64 kk, .int .i64 what] : Value) :: (.agg cs2 : Value) :: (.int .i64 kk : Value) :: (.int .i64 what : Value) :: (u31 : Value) :: (u32 : Value) :: (u33 : Value) :: (u34 : Value) :: (u35 : Value) :: (u36 : Value) :: (u37 : Value) :: (u38 : Value) :: (u39 : Value) :: (u40 : Value) :: (u41 : Value) :: (u42 : Value) :: (u43 : Value) :: (u44 : Value) :: (tm.getD 45 undef : Value) :: (tm.getD 46 undef : Value) :: (tm.getD 47 undef : Value) :: (tm.getD 48 undef : Value) :: (tm.getD 49 undef : Value) :: (tm.getD 50 undef : Value) :: (tm.getD 51 undef : Value) :: (tm.getD 52 undef : Value) :: (tm.getD 53 undef : Value) :: (tm.getD 54 undef : Value) :: (tm.getD 55 undef : Value) :: (tm.getD 56 undef : Value) :: (tm.getD 57 undef : Value) :: (tm.getD 58 undef : Value) :: (tm.getD 59 undef : Value) :: (tm.getD 60 undef : Value) :: (tm.getD 61 undef : Value) :: (tm.getD 62 undef : Value) :: (tm.getD 63 undef : Value) :: (tm.getD 64 undef : Value) :: []) hs (by show (tm.getD 0 undef :: tm.getD 1 undef :: tm.getD 2 undef :: tm.getD 3 undef :: tm.getD 4 undef :: tm.getD 5 undef :: tm.getD 6 undef :: tm.getD 7 undef :: tm.getD 8 undef :: tm.getD 9 undef :: tm.getD 10 undef :: tm.getD 11 undef :: tm.getD 12 undef :: tm.getD 13 undef :: tm.getD 14 undef :: tm.getD 15 undef :: tm.getD 16 undef :: tm.getD 17 undef :: tm.getD 18 undef :: tm.getD 19 undef :: tm.getD 20 undef :: tm.getD 21 undef :: tm.getD 22 undef :: tm.getD 23 undef :: tm.getD 24 undef :: tm.getD 25 undef :: tm.getD 26 undef :: tm.getD 27 undef :: tm.getD 28 undef :: tm.getD 29 undef :: tm.getD 30 undef :: tm.getD 31 undef :: tm.getD 32 undef :: tm.getD 33 undef :: tm.getD 34 undef :: tm.getD 35 undef :: tm.getD 36 undef :: tm.getD 37 undef :: tm.getD 38 undef :: tm.getD 39 undef :: tm.getD 40 undef :: tm.getD 41 undef :: tm.getD 42 undef :: tm.getD 43 undef :: tm.getD 44 undef :: tm.getD 45 undef :: tm.getD 46 undef :: tm.getD 47 undef :: tm.getD 48 undef :: tm.getD 49 undef :: tm.getD 50 undef :: tm.getD 51 undef :: tm.getD 52 undef :: tm.getD 53 undef :: tm.getD 54 undef :: tm.getD 55 undef :: tm.getD 56 undef :: tm.getD 57 undef :: tm.getD 58 undef :: tm.getD 59 undef :: tm.getD 60 undef :: tm.getD 61 undef :: tm.getD 62 undef :: tm.getD 63 undef :: tm.getD 64 undef :: []) = _; rw [e0, e1, e2, e3, e4, e5, e7, e8, e9, e10, e11, e12, e13, e14, e15, e16, e17, e18, e19, e20, e21, e22, e23, e24, e25, e26, e27, e28, e29, e30, e31, e32, e33, e34, e35, e36, e37, e38, e39, e40, e41, e42, e43, e44]; try rfl)
        clear hs hk hG e0 e1 e2 e3 e4 e5 e7 e8 e9 e10 e11 e12 e13 e14 e15 e16 e17 e18 e19 e20 e21 e22 e23 e24 e25 e26 e27 e28 e29 e30 e31 e32 e33 e34 e35 e36 e37 e38 e39 e40 e41 e42 e43 e44
        generalize tm.getD 45 undef = t45 at htm g45
        generalize tm.getD 46 undef = t46 at htm g46
        generalize tm.getD 47 undef = t47 at htm g47
        generalize tm.getD 48 undef = t48 at htm g48
        generalize tm.getD 49 undef = t49 at htm g49
        generalize tm.getD 50 undef = t50 at htm g50
        generalize tm.getD 51 undef = t51 at htm g51
        generalize tm.getD 52 undef = t52 at htm g52
        generalize tm.getD 53 undef = t53 at htm g53
        generalize tm.getD 54 undef = t54 at htm g54
        generalize tm.getD 55 undef = t55 at htm g55
        generalize tm.getD 56 undef = t56 at htm g56
        generalize tm.getD 57 undef = t57 at htm g57
        generalize tm.getD 58 undef = t58 at htm g58
        generalize tm.getD 59 undef = t59 at htm g59
        generalize tm.getD 60 undef = t60 at htm g60
        generalize tm.getD 61 undef = t61 at htm g61
        generalize tm.getD 62 undef = t62 at htm g62
        generalize tm.getD 63 undef = t63 at htm g63
        generalize tm.getD 64 undef = t64 at htm g64
        generalize tm.getD 6 undef = t6 at htm g6
        subst htm
        subst g45
        subst g46
        subst g47
        subst g48
        subst g49
        subst g50
        subst g51
        subst g52
        subst g53
        subst g54
        subst g55
        subst g56
        subst g57
        subst g58
        subst g59
        subst g60
        subst g61
        subst g62
        subst g63
        subst g64
        subst g6
        simp only [List.drop_succ_cons, List.drop_zero]
        have HB := Lib.hid hB
        clear hB
        go_wp2_with fail
        go_ret
        exact ⟨rfl, Q6.out.trans ((HBx.out.trans (HB.out.mono HBx.out.size)).mono Q6.out.size)⟩
end Go.Proofs.Ytbccckjkmlmhhaa
