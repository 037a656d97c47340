/- What Over of package cpu does: the walk. -/
import Derived.Test.YtblhikmhmnkclaaRun
namespace Go.Proofs.Ytblhikmhmnkclaa
open Go.RowKit Go.Lib
variable {K : Nat → Prop}
theorem stC_size {r : List Int} {pc : Int} (h : r.length = 16) : (stC r pc).toArray.size = 17 := by simp [stC, h]
theorem stInfo : (Try.prog.info? 25).map (·.size) = some 17 := by kernel_rfl
theorem stC_one (r : List Int) (pc : Int) : (stC r pc).toArray.all (·.oneCell') = true := by
  simp [stC, Value.oneCell']
/-- k steps more. -/
def plusK (k : Nat) (x : List Int × Int × List UInt8 × Nat × Int) : List Int × Int × List UInt8 × Nat × Int := (x.1, x.2.1, x.2.2.1, x.2.2.2.1 + k, x.2.2.2.2)
theorem overS_ran {m : Nat} {r r2 : List Int} {pc pc2 : Int} {d d2 : List UInt8} (h : stepS r pc d = (r2, pc2, d2, 0)) : overS (m + 1) r pc d = plusK 1 (overS m r2 pc2 d2) := by
  rw [overS, h]; rfl
theorem overS_stop {m : Nat} {r r2 : List Int} {pc pc2 what : Int} {d d2 : List UInt8} (h : stepS r pc d = (r2, pc2, d2, what)) (hw : what ≠ 0) : overS (m + 1) r pc d = (r2, pc2, d2, 0, what) := by
  rw [overS, h]
  simp only [hw, if_false]
theorem plusK_plusK (a b : Nat) (x : List Int × Int × List UInt8 × Nat × Int) : plusK a (plusK b x) = plusK (b + a) x := by
  unfold plusK; simp only [Nat.add_assoc]
/-- What a call of Over owes. -/
def OverP (K : Nat → Prop) (base Bb : Nat) (w : World) (x : List Int × Int × List UInt8 × Nat × Int) (e : Ending) (w' : World) : Prop :=
  e = .returned (.tuple #[stV x.1 x.2.1, .int .i64 x.2.2.2.1, .int .i64 x.2.2.2.2]) ∧ (∃ ls', BAt K w' base Bb x.2.2.1 ls') ∧ Below base w w' ∧ Fr K w w'
theorem results_over (tmps : Array Value) (w : World) (g : Nat) (cs : Array Value) (x y : Value) (h6 : tmps.getD 6 undef = .pointer (some ⟨g, 0, none⟩)) (hg : w.heap[g]? = some (.cells cs 25 (0, 0))) (hi : cs.size = 17)
    (h7 : tmps.getD 7 undef = x) (h8 : tmps.getD 8 undef = y) : (results Try.f9 tmps).run Try.prog w = .ok (.tuple #[.agg cs, x, y]) w := by
  have hl := run_loadVar_row (P := Try.prog) w g 25 25 cs (0, 0) _ hg Try.underlying25 rfl (by rw [hi]; exact stInfo)
  have h6' : tmps[6]?.getD undef = .pointer (some ⟨g, 0, none⟩) := by simpa using h6
  have h7' : tmps[7]?.getD undef = x := by simpa using h7
  have h8' : tmps[8]?.getD undef = y := by simpa using h8
  simp [results, Try.results9, h6', h7', h8', asAddr, hl]
theorem heap_setRow (w : World) (g : Nat) (old cs : Array Value) (t : TypeId) (h : w.heap[g]? = some (.cells old t (0, 0))) : (w.setRow g cs).heap[g]? = some (.cells cs t (0, 0)) := by
  unfold World.setRow
  show (w.heap.modify g _)[g]? = _
  simp [Array.getElem?_modify, h]
theorem heap_setRow_ne (w : World) (g : Nat) (cs : Array Value) {k : Nat} (h : k ≠ g) : (w.setRow g cs).heap[k]? = w.heap[k]? := by
  unfold World.setRow
  show (w.heap.modify g _)[k]? = _
  rw [Array.getElem?_modify, if_neg (Ne.symm h)]
theorem size_setRow (w : World) (g : Nat) (cs : Array Value) : (w.setRow g cs).heap.size = w.heap.size := by
  unfold World.setRow; simp
theorem setRow_other {w : World} {base Bb k : Nat} {d : List UInt8} {ls : List (Nat × Bool)} {c : Array Value} {t : TypeId} {f : Nat × Nat} (h : BAt K w base Bb d ls) (hk : w.heap[k]? = some (.cells c t f)) (h1 : t ≠ 47) (h2 : t ≠ 79) (h3 : t ≠ 96) (u : Array Value) : BAt K (w.setRow k u) base Bb d ls := by
  obtain ⟨⟨v, hv, hr⟩, hp, h4, h5, h6, h7, h8⟩ := h
  have hne : ∀ (i : Nat) (c' : Array Value) (t' : TypeId) (f' : Nat × Nat), w.heap[i]? = some (.cells c' t' f') → t ≠ t' → i ≠ k := fun i c' t' f' hi ht e => by subst e; rw [hi] at hk; cases hk; exact ht rfl
  have same : ∀ (i : Nat) (c' : Array Value) (t' : TypeId) (f' : Nat × Nat), w.heap[i]? = some (.cells c' t' f') → t ≠ t' → (w.setRow k u).heap[i]? = some (.cells c' t' f') := fun i c' t' f' hi ht => (heap_setRow_ne _ _ _ (hne i c' t' f' hi ht)).trans hi
  refine ⟨⟨v, same _ _ _ _ hv h1, ?_⟩, fun i x hx => ⟨same _ _ _ _ (hp i x hx).1 h3, (hp i x hx).2⟩, h4, h5, h6, h7, h8.kept (by rw [size_setRow]; exact Nat.le_refl _) ((same _ _ _ _ hv h1).trans hv.symm)⟩
  refine ⟨hr.1, ?_⟩
  rcases hr.2 with ⟨a, b⟩ | ⟨g, cap, cur, a, b, c1, c2, c3, c4, c5⟩
  · exact .inl ⟨a, b⟩
  · exact .inr ⟨g, cap, cur, a, b, same _ _ _ _ c1 h2, c2, c3, c4, c5⟩
set_option maxRecDepth 100000 in
set_option maxHeartbeats 4000000 in
theorem Over_any (base Bb : Nat) (n : Int) (r : List Int) (pc : Int) (d : List UInt8) (ls : List (Nat × Bool)) (w : World) (hn : n ≤ 9223372036854775807) (hk : okR r pc) (h : BAt K w base Bb d ls) :
    Calls Try.prog 9 #[.pointer (some ⟨Bb, 0, none⟩), stV r pc, .int .i64 n] w (OverP K base Bb w (overS n.toNat r pc d)) := by
  unfold stV
  obtain ⟨cs, hcs⟩ : ∃ cs, (stC r pc).toArray = cs := ⟨_, rfl⟩
  rw [hcs]
  have hbs := size_of_blk h
  obtain ⟨W, hW⟩ : ∃ W, (((w.alloc (.cells cs 25)).alloc (.cells #[.int .u64 0, .int .u64 0, .int .u64 0, .int .u64 0, .int .u64 0, .int .u64 0, .int .u64 0, .int .u64 0, .int .u64 0, .int .u64 0, .int .u64 0, .int .u64 0, .int .u64 0, .int .u64 0, .int .u64 0, .int .u64 0, .int .u64 0] 25)).alloc (.cells #[.pointer (some ⟨Bb, 0, none⟩)] 62)) = W := ⟨_, rfl⟩
  have hbW : Below w.heap.size w W := by rw [← hW]; go_grown
  have z1 : (w.alloc (.cells cs 25)).heap.size = w.heap.size + 1 := by simp
  have b0 : W.heap[w.heap.size]? = some (.cells cs 25 (0, 0)) := by
    rw [← hW]
    exact ((Lib.alloc_old _ _ _ (by simp; omega)).trans (Lib.alloc_old _ _ _ (by simp))).trans (heap_new _ _)
  have b1 : W.heap[w.heap.size + 1]? = some (.cells #[.int .u64 0, .int .u64 0, .int .u64 0, .int .u64 0, .int .u64 0, .int .u64 0, .int .u64 0, .int .u64 0, .int .u64 0, .int .u64 0, .int .u64 0, .int .u64 0, .int .u64 0, .int .u64 0, .int .u64 0, .int .u64 0, .int .u64 0] 25 (0, 0)) := by
    rw [← hW, ← z1]
    exact (Lib.alloc_old _ _ _ (by simp)).trans (heap_new _ _)
  have b2 : W.heap[w.heap.size + 1 + 1]? = some (.cells #[.pointer (some ⟨Bb, 0, none⟩)] 62 (0, 0)) := by
    have z2 : ((w.alloc (.cells cs 25)).alloc (.cells #[.int .u64 0, .int .u64 0, .int .u64 0, .int .u64 0, .int .u64 0, .int .u64 0, .int .u64 0, .int .u64 0, .int .u64 0, .int .u64 0, .int .u64 0, .int .u64 0, .int .u64 0, .int .u64 0, .int .u64 0, .int .u64 0, .int .u64 0] 25)).heap.size = w.heap.size + 1 + 1 := by simp
    rw [← hW, ← z2]
    exact heap_new _ _
  have hA0 : Aft K base Bb w.heap.size W r pc d W := ⟨by unfold StAt; rw [hcs]; exact b0, ⟨ls, h.below hbW⟩, Below.refl _ _, FrB.refl _ _⟩
  have hbB : base ≤ w.heap.size := hbs
  have HN : Hid (overS n.toNat r pc d = plusK 0 (overS (n.toNat - 0) r pc d)) := rfl
  have HK := Lib.hid hk
  have HFin : Hid (∀ (w4 : World) (r2 : List Int) (pc2 : Int) (d2 : List UInt8) (k : Nat) (what : Int) (cs2 : Array Value), r2.length = 16 → Aft K base Bb w.heap.size W r2 pc2 d2 w4 → stV r2 pc2 = .agg cs2 → OverP K base Bb w (r2, pc2, d2, k, what) (.returned (.tuple #[.agg cs2, .int .i64 k, .int .i64 what])) (w4.setRow (w.heap.size + 1) cs2)) := fun w4 r2 pc2 d2 k what cs2 _ hA hst => by
    have e5 := hA.fr.block b1 (by omega) (by decide) (by decide)
    have hsz5 := hA.fr.size
    have hne : ∀ kk o, w.heap[kk]? = some o → kk ≠ w.heap.size + 1 ∧ kk ≠ w.heap.size := fun kk o hkk => by have := (Array.getElem?_eq_some_iff.1 hkk).1; omega
    obtain ⟨ls2, hM⟩ := hA.mem
    refine ⟨by rw [← hst], ⟨ls2, setRow_other hM e5 (by decide) (by decide) (by decide) cs2⟩, ?_, ?_⟩
    · have q := (hbW.mono hbs).trans hA.blw
      exact ⟨q.os, q.tape, q.output, by rw [size_setRow]; exact q.size, fun kk hkk => (heap_setRow_ne _ _ _ (by omega)).trans (q.block kk hkk)⟩
    · refine ⟨by rw [size_setRow]; exact Nat.le_trans hbW.size hsz5, fun kk hkk hl => (heap_setRow_ne _ _ _ (by omega)).trans ((hA.fr.foe kk hkk (by omega) (Nat.lt_of_lt_of_le hl hbW.size)).trans (hbW.block kk hl)), fun kk o hkk h1 h2 => ?_⟩
      rw [heap_setRow_ne _ _ _ (hne kk o hkk).1]
      exact hA.fr.same kk o ((hbW.block _ (Array.getElem?_eq_some_iff.1 hkk).1).trans hkk) (hne kk o hkk).2 h1 h2
  clear h z1
  go_enter Try.func9, Try.ntmps9
  go_wp2_with fail
  go_loopw [15] (fun x wr => ∃ (k : Nat) (r' : List Int) (pc' : Int) (d' : List UInt8), x = .int .i64 k ∧ k ≤ n.toNat ∧ okR r' pc' ∧ overS n.toNat r pc d = plusK k (overS (n.toNat - k) r' pc' d') ∧ Aft K base Bb w.heap.size W r' pc' d' wr) (fun x _ => (n - RowKit.intOf x).toNat)
  case atStart => exact ⟨0, r, pc, d, rfl, Nat.zero_le _, HK.out, HN.out, hA0⟩
  case round =>
    obtain ⟨k, r', pc', d', rfl, hkn, hk', ho, hA⟩ := hrel
    have hr' := hk'.1
    have e0 : wr.heap[w.heap.size]? = some (.cells (stC r' pc').toArray 25 (0, 0)) := hA.st
    have e1 := hA.fr.block b1 (by omega) (by decide) (by decide)
    have e2 := hA.fr.block b2 (by omega) (by decide) (by decide)
    have hsz : (Try.prog.info? 25).map (·.size) = some (stC r' pc').toArray.size := by rw [stC_size hr']; exact stInfo
    by_cases hlt : (k : Int) < n
    · obtain ⟨ls', hM⟩ := hA.mem
      have HS := Lib.hid (Step_any base Bb w.heap.size r' pc' d' ls' wr hk' hA.st hbB hM)
      obtain ⟨x, hx⟩ : ∃ x, stepS r' pc' d' = x := ⟨_, rfl⟩
      rw [hx] at HS
      have HX := Lib.hid hx
      have hok := stepS_ok (d := d') hk'
      rw [hx] at hok
      obtain ⟨r2, pc2, d2, what⟩ := x
      simp only at hok
      have HS' : Hid (Calls Try.prog 8 #[.pointer (some ⟨w.heap.size, 0, none⟩), .iface 62 (.agg #[.pointer (some ⟨Bb, 0, none⟩)])] wr fun e w' => e = .returned (.int .i64 what) ∧ Aft K base Bb w.heap.size wr r2 pc2 d2 w') := HS
      obtain ⟨m, hm⟩ : ∃ m, n.toNat - k = m + 1 := ⟨n.toNat - k - 1, by omega⟩
      have hm2 : n.toNat - (k + 1) = m := by omega
      have f2 : wr.cell? ⟨w.heap.size + 1 + 1, 0, none⟩ = some (.pointer (some ⟨Bb, 0, none⟩)) := by simp [World.cell?, e2]
      have HA := Lib.hid hA
      have HO := Lib.hid ho
      clear HS hx hA ho hM e0 e2 hsz hcs hW
      by_cases hwh : what = 0
      · subst hwh
        have HO2 : Hid (overS n.toNat r pc d = plusK (k + 1) (overS (n.toNat - (k + 1)) r2 pc2 d2)) := by
          simp only [Hid]
          rw [HO.out, hm, hm2, overS_ran HX.out, plusK_plusK, Nat.add_comm 1 k]
        clear HO HX hm hm2
        go_wp2_with (first | (go_at_call 8; refine HS'.out.mono ?_; rintro e w4 ⟨rfl, hA4⟩))
        refine ⟨⟨k + 1, r2, pc2, d2, by go_num, by omega, hok.1, HO2.out, hA4.st, hA4.mem, HA.out.blw.trans hA4.blw, HA.out.fr.trans hA4.fr⟩, ?_⟩
        simp only [RowKit.intOf]; omega
      · have HO2 : Hid (overS n.toNat r pc d = (r2, pc2, d2, k, what)) := by
          simp only [Hid]
          rw [HO.out, hm, overS_stop HX.out hwh]
          simp [plusK]
        clear HO HX hm hm2
        have hwb : (what == 0) = false := by simpa using hwh
        have hwb2 : (what != 0) = true := by simpa using hwh
        go_wp2_with (first | (go_at_call 8; refine HS'.out.mono ?_; rintro e w4 ⟨rfl, hA4⟩; refine Hid.out ?_))
        refine Lib.hid ?_
        have e4 : w4.heap[w.heap.size]? = some (.cells (stC r2 pc2).toArray 25 (0, 0)) := hA4.st
        have e5 := hA4.fr.block e1 (by omega) (by decide) (by decide)
        have hsz : (Try.prog.info? 25).map (·.size) = some (stC r2 pc2).toArray.size := by rw [stC_size hok.1.1]; exact stInfo
        have hone := stC_one r2 pc2
        have HQ : Hid ((stC r2 pc2).toArray.size = 17) := stC_size hok.1.1
        have HST : Hid (stV r2 pc2 = .agg (stC r2 pc2).toArray) := rfl
        generalize (stC r2 pc2).toArray = cs2 at *
        go_wp2_with (first
          | (refine wpList_load_row rfl 25 _ rfl w.heap.size rfl 25 _ (0, 0) _ e4 Try.underlying25 rfl hsz ?_)
          | (refine wpList_store_row rfl 25 _ _ rfl (w.heap.size + 1) cs2 rfl rfl 25 _ e5 hsz (by rw [HQ.out]; rfl) hone ?_))
        refine bodyPost_ret (results_over _ _ (w.heap.size + 1) cs2 _ _ rfl (heap_setRow _ _ _ _ _ e5) HQ.out rfl rfl) rfl ?_
        rw [HO2.out]
        exact HFin.out w4 r2 pc2 d2 k what cs2 hok.1.1 ⟨hA4.st, hA4.mem, HA.out.blw.trans hA4.blw, HA.out.fr.trans hA4.fr⟩ HST.out
    · have hkn2 : k = n.toNat := by omega
      have HO2 : Hid (overS n.toNat r pc d = (r', pc', d', n.toNat, 0)) := by
        simp only [Hid]
        rw [ho, hkn2, Nat.sub_self]
        simp [overS, plusK]
      have hone := stC_one r' pc'
      have HQ : Hid ((stC r' pc').toArray.size = 17) := stC_size hr'
      have HST : Hid (stV r' pc' = .agg (stC r' pc').toArray) := rfl
      have HA := Lib.hid hA
      have HMx : Hid (Value.int .i64 (max n 0) = .int .i64 (n.toNat : Int)) := by simp only [Hid]; congr 1; omega
      generalize (stC r' pc').toArray = cs2 at *
      clear hA ho e2 hcs hW
      go_wp2_with (first
        | (refine wpList_load_row rfl 25 _ rfl w.heap.size rfl 25 _ (0, 0) _ e0 Try.underlying25 rfl hsz ?_)
        | (refine wpList_store_row rfl 25 _ _ rfl (w.heap.size + 1) cs2 rfl rfl 25 _ e1 hsz (by rw [HQ.out]; rfl) hone ?_))
      refine bodyPost_ret (results_over _ _ (w.heap.size + 1) cs2 (.int .i64 (n.toNat : Int)) _ rfl (heap_setRow _ _ _ _ _ e1) HQ.out HMx.out rfl) rfl ?_
      rw [HO2.out]
      exact HFin.out wr r' pc' d' n.toNat 0 cs2 hr' HA.out HST.out
end Go.Proofs.Ytblhikmhmnkclaa
