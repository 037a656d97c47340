/- Step of the reference: writing. -/
import Derived.Test.YtbccckjkmlmhhaaDoesAll
import Derived.Test.YtbccckjkmlmhhaaReckons
import Derived.Deep.Cut
import Derived.Test.YtbccckjkmlmhhaaMonoT6
import Derived.Deep.CutBlock
/- Step of the reference. -/
namespace Go.Proofs.Ytbccckjkmlmhhaa
open Go.RowKit Go.Lib
/-- What a step of the reference owes. -/
def RStepP (w : World) (x : List Int × Int × List UInt8 × Int) (e : Ending) (w' : World) : Prop :=
  ∃ v', e = .returned (.tuple #[.agg (stC x.1 x.2.1).toArray, v', .int .i64 x.2.2.2]) ∧ MemAt w' v' x.2.2.1 ∧ Below w.heap.size w w'
theorem results_rstep (tmps : Array Value) (w : World) (g : Nat) (cs : Array Value) (x y : Value) (h4 : tmps.getD 4 undef = .pointer (some ⟨g, 0, none⟩)) (hg : w.heap[g]? = some (.cells cs 25 (0, 0))) (hi : cs.size = 17)
    (h5 : tmps.getD 5 undef = x) (h6 : tmps.getD 6 undef = y) : (results Try.f12 tmps).run Try.prog w = .ok (.tuple #[.agg cs, x, y]) w := by
  have hl := run_loadVar_row (P := Try.prog) w g 25 25 cs (0, 0) _ hg Try.underlying25 rfl (by rw [hi]; exact stInfo)
  have h4' : tmps[4]?.getD undef = .pointer (some ⟨g, 0, none⟩) := by simpa using h4
  have h5' : tmps[5]?.getD undef = x := by simpa using h5
  have h6' : tmps[6]?.getD undef = y := by simpa using h6
  simp [results, Try.results12, h4', h5', h6', asAddr, hl]
theorem memAt_setRow {w : World} {v : Value} {d : List UInt8} (h : MemAt w v d) {k : Nat} (hne : ∀ B off, d ≠ [] → (∃ len cap, v = .slice (some ⟨B, off, none⟩) len cap) → B ≠ k) (u : Array Value) : MemAt (w.setRow k u) v d := by
  obtain ⟨p, cap, h1, h2, h3⟩ := h
  refine ⟨p, cap, h1, h2, ?_⟩
  rcases h3 with h3 | ⟨B, off, h3, h4, h5⟩
  · exact .inl h3
  · by_cases hd : d = []
    · exact .inl hd
    · refine .inr ⟨B, off, h3, by rw [size_setRow]; exact h4, fun j hj => ?_⟩
      have hB := hne B off hd ⟨_, _, by rw [h1, h3]⟩
      rw [← h5 j hj]
      simp only [World.cell?, heap_setRow_ne w k u hB]
set_option maxRecDepth 100000 in
set_option maxHeartbeats 4000000 in
theorem rstep_fault (r : List Int) (pc : Int) (d : List UInt8) (v : Value) (w : World) (hk : okR r pc) (hm : MemAt w v d) (hl : d.length ≤ 4096) (hf : ¬ pc + 4 ≤ d.length) :
    Calls Try.prog 12 #[.agg (stC r pc).toArray, v] w (RStepP w (r, pc, d, 3)) := by
  have hr := hk.1
  obtain ⟨pn, hpn⟩ : ∃ pn : Nat, pc = pn := ⟨pc.toNat, by have := hk.2.2.1; omega⟩
  obtain ⟨cs, hcs⟩ : ∃ cs, (stC r pc).toArray = cs := ⟨_, rfl⟩
  rw [hcs]
  obtain ⟨W, hW⟩ : ∃ W, (w.alloc (.cells cs 25)).alloc (.cells #[.int .u64 0, .int .u64 0, .int .u64 0, .int .u64 0, .int .u64 0, .int .u64 0, .int .u64 0, .int .u64 0, .int .u64 0, .int .u64 0, .int .u64 0, .int .u64 0, .int .u64 0, .int .u64 0, .int .u64 0, .int .u64 0, .int .u64 0] 25) = W := ⟨_, rfl⟩
  have hbW : Below w.heap.size w W := by rw [← hW]; go_grown
  have z1 : (w.alloc (.cells cs 25)).heap.size = w.heap.size + 1 := by simp
  have b0 : W.heap[w.heap.size]? = some (.cells cs 25 (0, 0)) := by
    rw [← hW]; exact (Lib.alloc_old _ _ _ (by simp)).trans (heap_new _ _)
  have b1 : W.heap[w.heap.size + 1]? = some (.cells #[.int .u64 0, .int .u64 0, .int .u64 0, .int .u64 0, .int .u64 0, .int .u64 0, .int .u64 0, .int .u64 0, .int .u64 0, .int .u64 0, .int .u64 0, .int .u64 0, .int .u64 0, .int .u64 0, .int .u64 0, .int .u64 0, .int .u64 0] 25 (0, 0)) := by
    rw [← hW, ← z1]; exact heap_new _ _
  have hmW := hm.below hbW
  have S0 : StAt W w.heap.size r pc := by unfold StAt; rw [hcs]; exact b0
  have hpcc := S0.pc hr
  have hsz : (Try.prog.info? 25).map (·.size) = some cs.size := by rw [← hcs, stC_size hr]; exact stInfo
  have hone : cs.all (·.oneCell') = true := by rw [← hcs]; exact stC_one _ _
  have HQ : Hid (cs.size = 17) := by simp only [Hid]; rw [← hcs]; exact stC_size hr
  have hl0 : w.heap.size < W.heap.size := (Array.getElem?_eq_some_iff.1 b0).1
  have hl1 : w.heap.size + 1 < W.heap.size := (Array.getElem?_eq_some_iff.1 b1).1
  have HNe : Hid (∀ B off, d ≠ [] → (∃ len cap, v = .slice (some ⟨B, off, none⟩) len cap) → B ≠ w.heap.size + 1) := fun B off hd ⟨len, cap, he⟩ => by
    obtain ⟨p, cap', h1, h2, h3⟩ := hm
    rcases h3 with h3 | ⟨B', off', h3, h4, h5⟩
    · exact absurd h3 hd
    · rw [h1, h3] at he; injection he with he1; injection he1 with he2; injection he2 with he3; omega
  clear z1 S0
  have HLd : Hid (Calls Try.prog 21 #[v, .int .u64 pc, .int .i64 4] W fun e w' => e = .returned (.tuple #[.string ⟨#[]⟩, .bool false]) ∧ w' = W) := rLoad_no v d pc 4 W hmW hl hk.2.2.1 hf (by omega)
  clear hpn hf
  go_enter Try.func12, Try.ntmps12
  go_wp2_with (first
    | (go_at_call 21; refine HLd.out.mono ?_; rintro e w' ⟨rfl, hw'⟩; rw [hw']; clear hw' w')
    | (refine wpList_load_row rfl 25 _ rfl w.heap.size rfl 25 _ (0, 0) _ b0 Try.underlying25 rfl hsz ?_)
    | (refine wpList_store_row rfl 25 _ _ rfl (w.heap.size + 1) cs rfl rfl 25 _ b1 hsz (by rw [HQ.out]; rfl) hone ?_))
  refine bodyPost_ret (results_rstep _ _ (w.heap.size + 1) cs v (.int .i64 3) rfl (heap_setRow _ _ _ _ _ b1) HQ.out rfl rfl) rfl ⟨v, ?_, memAt_setRow hmW HNe.out cs, below_setRow hbW (by omega) cs⟩
  rw [hcs]
set_option maxRecDepth 100000 in
set_option maxHeartbeats 4000000 in
theorem rstep_broke (r : List Int) (pc : Int) (d : List UInt8) (v : Value) (w : World) (hk : okR r pc) (hm : MemAt w v d) (hl : d.length ≤ 4096) (hf : pc + 4 ≤ d.length) (hd : decC ⟨((d.drop pc.toNat).take 4).toArray⟩ = none) :
    Calls Try.prog 12 #[.agg (stC r pc).toArray, v] w (RStepP w (r, pc, d, 4)) := by
  have hr := hk.1
  obtain ⟨pn, hpn⟩ : ∃ pn : Nat, pc = pn := ⟨pc.toNat, by have := hk.2.2.1; omega⟩
  obtain ⟨cs, hcs⟩ : ∃ cs, (stC r pc).toArray = cs := ⟨_, rfl⟩
  rw [hcs]
  obtain ⟨W, hW⟩ : ∃ W, (w.alloc (.cells cs 25)).alloc (.cells #[.int .u64 0, .int .u64 0, .int .u64 0, .int .u64 0, .int .u64 0, .int .u64 0, .int .u64 0, .int .u64 0, .int .u64 0, .int .u64 0, .int .u64 0, .int .u64 0, .int .u64 0, .int .u64 0, .int .u64 0, .int .u64 0, .int .u64 0] 25) = W := ⟨_, rfl⟩
  have hbW : Below w.heap.size w W := by rw [← hW]; go_grown
  have z1 : (w.alloc (.cells cs 25)).heap.size = w.heap.size + 1 := by simp
  have b0 : W.heap[w.heap.size]? = some (.cells cs 25 (0, 0)) := by
    rw [← hW]; exact (Lib.alloc_old _ _ _ (by simp)).trans (heap_new _ _)
  have b1 : W.heap[w.heap.size + 1]? = some (.cells #[.int .u64 0, .int .u64 0, .int .u64 0, .int .u64 0, .int .u64 0, .int .u64 0, .int .u64 0, .int .u64 0, .int .u64 0, .int .u64 0, .int .u64 0, .int .u64 0, .int .u64 0, .int .u64 0, .int .u64 0, .int .u64 0, .int .u64 0] 25 (0, 0)) := by
    rw [← hW, ← z1]; exact heap_new _ _
  have hmW := hm.below hbW
  have S0 : StAt W w.heap.size r pc := by unfold StAt; rw [hcs]; exact b0
  have hpcc := S0.pc hr
  have hsz : (Try.prog.info? 25).map (·.size) = some cs.size := by rw [← hcs, stC_size hr]; exact stInfo
  have hone : cs.all (·.oneCell') = true := by rw [← hcs]; exact stC_one _ _
  have HQ : Hid (cs.size = 17) := by simp only [Hid]; rw [← hcs]; exact stC_size hr
  have hl0 : w.heap.size < W.heap.size := (Array.getElem?_eq_some_iff.1 b0).1
  have hl1 : w.heap.size + 1 < W.heap.size := (Array.getElem?_eq_some_iff.1 b1).1
  have HNe : Hid (∀ B off, d ≠ [] → (∃ len cap, v = .slice (some ⟨B, off, none⟩) len cap) → B ≠ w.heap.size + 1) := fun B off hd ⟨len, cap, he⟩ => by
    obtain ⟨p, cap', h1, h2, h3⟩ := hm
    rcases h3 with h3 | ⟨B', off', h3, h4, h5⟩
    · exact absurd h3 hd
    · rw [h1, h3] at he; injection he with he1; injection he1 with he2; injection he2 with he3; omega
  clear z1 S0
  have hfn : pn + 4 ≤ d.length := by omega
  have HLd : Hid (Calls Try.prog 21 #[v, .int .u64 pc, .int .i64 4] W fun e w' => e = .returned (.tuple #[.string ⟨((d.drop pn).take 4).toArray⟩, .bool true]) ∧ w' = W) := by
    have := rLoad_yes v d pn 4 W hmW hl hfn (by omega)
    rw [hpn]; exact this
  have hs4 : (⟨((d.drop pn).take 4).toArray⟩ : ByteArray).size = 4 := by show (List.toArray _).size = 4; simp; omega
  have HDc := Lib.hid (fun (W' : World) => rDecode_4b ⟨((d.drop pn).take 4).toArray⟩ W' hs4)
  have hdq := dec_eq ⟨((d.drop pn).take 4).toArray⟩ hs4
  have hrc : rightC (rdC ⟨((d.drop pn).take 4).toArray⟩) = false := by
    rw [show pc.toNat = pn from by omega] at hd
    rw [hd] at hdq
    by_cases h : rightC (rdC ⟨((d.drop pn).take 4).toArray⟩) = true
    · rw [if_pos h] at hdq; cases hdq
    · simpa using h
  rw [hrc] at HDc
  generalize (⟨((d.drop pn).take 4).toArray⟩ : ByteArray) = sb at *
  generalize rdC sb = c at *
  have HDc' : Hid (∀ W' : World, Calls Try.prog 22 #[.string sb] W' fun e w' => e = .returned (.tuple #[.agg #[.int .i64 c.op, .int .i64 c.a, .int .i64 c.b, .int .i64 c.c, .int .i64 c.n], .bool false]) ∧ Below W'.heap.size W' w') := HDc
  clear hpn hf hd hdq hrc hs4 HDc hfn
  go_enter Try.func12, Try.ntmps12
  go_wp2_with (first
    | (go_at_call 21; refine HLd.out.mono ?_; rintro e w' ⟨rfl, hw'⟩; rw [hw']; clear hw' w')
    | (go_at_call 22; refine (HDc'.out _).mono ?_; rintro e w2 ⟨rfl, hB2⟩; refine Hid.out ?_))
  refine Lib.hid ?_
  have hB3 := hB2.alloc hB2.size (.cells #[.int .i64 c.op, .int .i64 c.a, .int .i64 c.b, .int .i64 c.c, .int .i64 c.n] 61)
  obtain ⟨W3, hW3⟩ : ∃ W3, w2.alloc (.cells #[.int .i64 c.op, .int .i64 c.a, .int .i64 c.b, .int .i64 c.c, .int .i64 c.n] 61) = W3 := ⟨_, rfl⟩
  rw [hW3] at hB3
  have d0 := (hB3.block _ hl0).trans b0
  have d1 := (hB3.block _ hl1).trans b1
  have m3 := hmW.below hB3
  have q3 := hbW.trans (hB3.mono hbW.size)
  clear hB2 hB3
  go_wp2_with (first
    | (refine wpList_load_row rfl 25 _ rfl w.heap.size rfl 25 _ (0, 0) _ d0 Try.underlying25 rfl hsz ?_)
    | (refine wpList_store_row rfl 25 _ _ rfl (w.heap.size + 1) cs rfl rfl 25 _ d1 hsz (by rw [HQ.out]; rfl) hone ?_))
  refine bodyPost_ret (results_rstep _ _ (w.heap.size + 1) cs v (.int .i64 4) rfl (heap_setRow _ _ _ _ _ d1) HQ.out rfl rfl) rfl ⟨v, ?_, memAt_setRow m3 HNe.out cs, below_setRow q3 (by omega) cs⟩
  rw [hcs]
set_option maxRecDepth 100000 in
set_option maxHeartbeats 4000000 in
theorem rstep_plain (r : List Int) (pc : Int) (d : List UInt8) (v : Value) (w : World) (c : Cod) (hk : okR r pc) (hm : MemAt w v d) (hl : d.length ≤ 4096) (hf : pc + 4 ≤ d.length) (hd : decC ⟨((d.drop pc.toNat).take 4).toArray⟩ = some c) (hop : ¬ (18 ≤ c.op ∧ c.op ≤ 21)) :
    Calls Try.prog 12 #[.agg (stC r pc).toArray, v] w (RStepP w ((doS c r pc d).1, (doS c r pc d).2.1, d, (doS c r pc d).2.2.2)) := by
  have hr := hk.1
  obtain ⟨pn, hpn⟩ : ∃ pn : Nat, pc = pn := ⟨pc.toNat, by have := hk.2.2.1; omega⟩
  obtain ⟨cs, hcs⟩ : ∃ cs, (stC r pc).toArray = cs := ⟨_, rfl⟩
  rw [hcs]
  obtain ⟨W, hW⟩ : ∃ W, (w.alloc (.cells cs 25)).alloc (.cells #[.int .u64 0, .int .u64 0, .int .u64 0, .int .u64 0, .int .u64 0, .int .u64 0, .int .u64 0, .int .u64 0, .int .u64 0, .int .u64 0, .int .u64 0, .int .u64 0, .int .u64 0, .int .u64 0, .int .u64 0, .int .u64 0, .int .u64 0] 25) = W := ⟨_, rfl⟩
  have hbW : Below w.heap.size w W := by rw [← hW]; go_grown
  have z1 : (w.alloc (.cells cs 25)).heap.size = w.heap.size + 1 := by simp
  have b0 : W.heap[w.heap.size]? = some (.cells cs 25 (0, 0)) := by
    rw [← hW]; exact (Lib.alloc_old _ _ _ (by simp)).trans (heap_new _ _)
  have b1 : W.heap[w.heap.size + 1]? = some (.cells #[.int .u64 0, .int .u64 0, .int .u64 0, .int .u64 0, .int .u64 0, .int .u64 0, .int .u64 0, .int .u64 0, .int .u64 0, .int .u64 0, .int .u64 0, .int .u64 0, .int .u64 0, .int .u64 0, .int .u64 0, .int .u64 0, .int .u64 0] 25 (0, 0)) := by
    rw [← hW, ← z1]; exact heap_new _ _
  have hmW := hm.below hbW
  have S0 : StAt W w.heap.size r pc := by unfold StAt; rw [hcs]; exact b0
  have hpcc := S0.pc hr
  have hsz : (Try.prog.info? 25).map (·.size) = some cs.size := by rw [← hcs, stC_size hr]; exact stInfo
  have hone : cs.all (·.oneCell') = true := by rw [← hcs]; exact stC_one _ _
  have HQ : Hid (cs.size = 17) := by simp only [Hid]; rw [← hcs]; exact stC_size hr
  have hl0 : w.heap.size < W.heap.size := (Array.getElem?_eq_some_iff.1 b0).1
  have hl1 : w.heap.size + 1 < W.heap.size := (Array.getElem?_eq_some_iff.1 b1).1
  have HNe : Hid (∀ B off, d ≠ [] → (∃ len cap, v = .slice (some ⟨B, off, none⟩) len cap) → B ≠ w.heap.size + 1) := fun B off hd ⟨len, cap, he⟩ => by
    obtain ⟨p, cap', h1, h2, h3⟩ := hm
    rcases h3 with h3 | ⟨B', off', h3, h4, h5⟩
    · exact absurd h3 hd
    · rw [h1, h3] at he; injection he with he1; injection he1 with he2; injection he2 with he3; omega
  clear z1 S0
  have hfn : pn + 4 ≤ d.length := by omega
  have HLd : Hid (Calls Try.prog 21 #[v, .int .u64 pc, .int .i64 4] W fun e w' => e = .returned (.tuple #[.string ⟨((d.drop pn).take 4).toArray⟩, .bool true]) ∧ w' = W) := by
    have := rLoad_yes v d pn 4 W hmW hl hfn (by omega)
    rw [hpn]; exact this
  have hs4 : (⟨((d.drop pn).take 4).toArray⟩ : ByteArray).size = 4 := by show (List.toArray _).size = 4; simp; omega
  have HDc := Lib.hid (fun (W' : World) => rDecode_4b ⟨((d.drop pn).take 4).toArray⟩ W' hs4)
  have hdq := dec_eq ⟨((d.drop pn).take 4).toArray⟩ hs4
  have hrt := decC_right hd
  have hrc : rdC ⟨((d.drop pn).take 4).toArray⟩ = c ∧ rightC (rdC ⟨((d.drop pn).take 4).toArray⟩) = true := by
    rw [show pc.toNat = pn from by omega] at hd
    rw [hd] at hdq
    by_cases h : rightC (rdC ⟨((d.drop pn).take 4).toArray⟩) = true
    · rw [if_pos h] at hdq; injection hdq with hdq; exact ⟨hdq.symm, h⟩
    · rw [if_neg h] at hdq; cases hdq
  rw [hrc.2, hrc.1] at HDc
  generalize (⟨((d.drop pn).take 4).toArray⟩ : ByteArray) = sb at *
  obtain ⟨_, la, lb, lz, _⟩ := rightI_b hrt
  obtain ⟨a, hca⟩ : ∃ a : Nat, c.a = a := ⟨c.a.toNat, by omega⟩
  obtain ⟨b, hcb⟩ : ∃ b : Nat, c.b = b := ⟨c.b.toNat, by omega⟩
  obtain ⟨z, hcz⟩ : ∃ z : Nat, c.c = z := ⟨c.c.toNat, by omega⟩
  have hv : c.v = .agg #[.int .i64 c.op, .int .i64 a, .int .i64 b, .int .i64 z, .int .i64 c.n] := by rw [← hca, ← hcb, ← hcz]; rfl
  have HDc' : Hid (∀ W' : World, Calls Try.prog 22 #[.string sb] W' fun e w' => e = .returned (.tuple #[.agg #[.int .i64 c.op, .int .i64 a, .int .i64 b, .int .i64 z, .int .i64 c.n], .bool true]) ∧ Below W'.heap.size W' w') := by rw [← hv]; exact HDc
  have HWa := Lib.hid (fun (W' : World) => Wants_any c.op c.n a b z r pc W' (by omega) (by omega) hk)
  rw [hcs] at HWa
  have HDo := Lib.hid (fun (W' : World) (sx : ByteArray) hff => Does_any c r pc d sx W' hrt hk hff)
  rw [hcs, hv] at HDo
  clear hpn hdq hrc hs4 HDc hfn
  have hwant : wantS c.op c.n (r.getD a 0) (r.getD b 0) = ⟨false, 0, 0, ⟨#[]⟩⟩ := by unfold wantS; rw [if_neg (by omega), if_neg (by omega), if_neg (by omega), if_neg (by omega)]
  have hok' := (doS_ok (d := d) hrt hk).1
  have HDo' := Lib.hid (fun (W' : World) => HDo.out W' ⟨#[]⟩ (fun h => absurd h hop))
  clear HDo
  obtain ⟨out, hout⟩ : ∃ out, doS c r pc d = out := ⟨_, rfl⟩
  rw [hout] at HDo' hok' ⊢
  clear hout hf hd hop
  obtain ⟨rr, pp, dd, ww⟩ := out
  simp only at HDo' hok' ⊢
  go_enter Try.func12, Try.ntmps12
  go_wp2_with (first
    | (go_at_call 21; refine HLd.out.mono ?_; rintro e w' ⟨rfl, hw'⟩; rw [hw']; clear hw' w')
    | (go_at_call 22; refine (HDc'.out _).mono ?_; rintro e w2 ⟨rfl, hB2⟩; refine Hid.out ?_))
  refine Lib.hid ?_
  have hB3 := hB2.alloc hB2.size (.cells #[.int .i64 c.op, .int .i64 a, .int .i64 b, .int .i64 z, .int .i64 c.n] 61)
  have k3 : (w2.alloc (.cells #[.int .i64 c.op, .int .i64 a, .int .i64 b, .int .i64 z, .int .i64 c.n] 61)).heap[w2.heap.size]? = some (.cells #[.int .i64 c.op, .int .i64 a, .int .i64 b, .int .i64 z, .int .i64 c.n] 61 (0, 0)) := heap_new _ _
  obtain ⟨W3, hW3⟩ : ∃ W3, w2.alloc (.cells #[.int .i64 c.op, .int .i64 a, .int .i64 b, .int .i64 z, .int .i64 c.n] 61) = W3 := ⟨_, rfl⟩
  rw [hW3] at hB3 k3
  have d0 := (hB3.block _ hl0).trans b0
  have hl3 : w2.heap.size < W3.heap.size := (Array.getElem?_eq_some_iff.1 k3).1
  have x0 : W3.cell? ⟨w2.heap.size, 0, none⟩ = some (.int .i64 c.op) := by simp [World.cell?, k3]
  have x1 : W3.cell? ⟨w2.heap.size, 1, none⟩ = some (.int .i64 a) := by simp [World.cell?, k3]
  have x2 : W3.cell? ⟨w2.heap.size, 2, none⟩ = some (.int .i64 b) := by simp [World.cell?, k3]
  have x3 : W3.cell? ⟨w2.heap.size, 3, none⟩ = some (.int .i64 z) := by simp [World.cell?, k3]
  have x4 : W3.cell? ⟨w2.heap.size, 4, none⟩ = some (.int .i64 c.n) := by simp [World.cell?, k3]
  have HWa3 := Lib.hid (HWa.out W3)
  rw [hwant] at HWa3
  have HWa4 : Hid (Calls Try.prog 23 #[.agg cs, .agg #[.int .i64 c.op, .int .i64 a, .int .i64 b, .int .i64 z, .int .i64 c.n]] W3 fun e w' => e = .returned (.agg #[.bool false, .int .u64 0, .int .i64 0, .string ⟨#[]⟩]) ∧ Below W3.heap.size W3 w') := HWa3
  clear HWa HWa3 hB2
  go_wp2_with (first
    | (refine wpList_load_row rfl 25 _ rfl w.heap.size rfl 25 _ (0, 0) _ d0 Try.underlying25 rfl hsz ?_)
    | (go_at_call 23; refine HWa4.out.mono ?_; rintro e w4 ⟨rfl, hB4⟩; refine Hid.out ?_))
  refine Lib.hid ?_
  have hB5 := hB4.alloc hB4.size (.cells #[.bool false, .int .u64 0, .int .i64 0, .string ⟨#[]⟩] 69)
  have k5 : (w4.alloc (.cells #[.bool false, .int .u64 0, .int .i64 0, .string ⟨#[]⟩] 69)).heap[w4.heap.size]? = some (.cells #[.bool false, .int .u64 0, .int .i64 0, .string ⟨#[]⟩] 69 (0, 0)) := heap_new _ _
  obtain ⟨W5, hW5⟩ : ∃ W5, w4.alloc (.cells #[.bool false, .int .u64 0, .int .i64 0, .string ⟨#[]⟩] 69) = W5 := ⟨_, rfl⟩
  rw [hW5] at hB5 k5
  have HW5 := Lib.hid hW5
  clear hW5
  go_upto_region 8 with fail
  rw [HW5.out]
  have hl5 : w4.heap.size < W5.heap.size := (Array.getElem?_eq_some_iff.1 k5).1
  have HBa := Lib.hid (hB3.trans (hB5.mono hB3.size))
  have e0 := (hB5.block _ (Array.getElem?_eq_some_iff.1 d0).1).trans d0
  have kc := (hB5.block _ hl3).trans k3
  have y0 : W5.cell? ⟨w2.heap.size, 0, none⟩ = some (.int .i64 c.op) := by simp [World.cell?, kc]
  have y1 : W5.cell? ⟨w2.heap.size, 1, none⟩ = some (.int .i64 a) := by simp [World.cell?, kc]
  have y2 : W5.cell? ⟨w2.heap.size, 2, none⟩ = some (.int .i64 b) := by simp [World.cell?, kc]
  have y3 : W5.cell? ⟨w2.heap.size, 3, none⟩ = some (.int .i64 z) := by simp [World.cell?, kc]
  have y4 : W5.cell? ⟨w2.heap.size, 4, none⟩ = some (.int .i64 c.n) := by simp [World.cell?, kc]
  have a0 : W5.cell? ⟨w4.heap.size, 0, none⟩ = some (.bool false) := by simp [World.cell?, k5]
  have a1 : W5.cell? ⟨w4.heap.size, 1, none⟩ = some (.int .u64 0) := by simp [World.cell?, k5]
  have a2 : W5.cell? ⟨w4.heap.size, 2, none⟩ = some (.int .i64 0) := by simp [World.cell?, k5]
  have a3 : W5.cell? ⟨w4.heap.size, 3, none⟩ = some (.string ⟨#[]⟩) := by simp [World.cell?, k5]
  clear hB4 hB5 hB3 d0 k3 x0 x1 x2 x3 x4 hW3
  have HBb := HBa
  have HDo5 := HDo'.out W5
  obtain ⟨out3, ho3⟩ : ∃ o3 : List Int × Int × Int, (rr, pp, ww) = o3 := ⟨_, rfl⟩
  obtain ⟨rfl, rfl, rfl⟩ : rr = out3.1 ∧ pp = out3.2.1 ∧ ww = out3.2.2 := by rw [← ho3]; exact ⟨rfl, rfl, rfl⟩
  clear ho3
  have m5 := hmW.below HBa.out
  obtain ⟨r', pc', what⟩ := out3
  simp only at HDo5 hok'
  have cmz : (Try.prog.info? 25).map (·.size) = some (stC r' pc').toArray.size := by rw [stC_size hok'.1]; exact stInfo
  have cmo := stC_one r' pc'
  have cmq : Hid ((stC r' pc').toArray.size = 17) := stC_size hok'.1
  have HDo6 : Hid (Calls Try.prog 24 #[.agg cs, .agg #[.int .i64 c.op, .int .i64 a, .int .i64 b, .int .i64 z, .int .i64 c.n], .string ⟨#[]⟩] W5 fun e w' => e = .returned (.tuple #[.agg (stC r' pc').toArray, .int .i64 what]) ∧ Below W5.heap.size W5 w') := HDo5
  obtain ⟨cm, cmE⟩ : ∃ c', (stC r' pc').toArray = c' := ⟨_, rfl⟩
  rw [cmE] at cmz cmo cmq HDo6
  clear HDo5
  go_wp2_with (first
    | (refine wpList_load_row rfl 25 _ rfl w.heap.size rfl 25 _ (0, 0) _ e0 Try.underlying25 rfl hsz ?_)
    | (go_at_call 24; refine HDo6.out.mono ?_; rintro e w6 ⟨rfl, hB6⟩; refine Hid.out ?_))
  refine Lib.hid ?_
  obtain ⟨W7, hW7, n7, hb7⟩ := state_laid w6 cm
  have hn6 := heap_new w6 (.cells #[.int .u64 0, .int .u64 0, .int .u64 0, .int .u64 0, .int .u64 0, .int .u64 0, .int .u64 0, .int .u64 0, .int .u64 0, .int .u64 0, .int .u64 0, .int .u64 0, .int .u64 0, .int .u64 0, .int .u64 0, .int .u64 0, .int .u64 0] 25)
  have HW7 := Lib.hid hW7
  have hB7 := HBb.out.trans ((hB6.trans (hb7.mono hB6.size)).mono HBb.out.size)
  have g1 := (hB7.block _ hl1).trans b1
  have q7 := hbW.trans (hB7.mono hbW.size)
  have m7 := m5.below (hB6.trans (hb7.mono hB6.size))
  clear hW7 hB6 hb7
  go_wp2_with (first
    | (refine wpList_store_row rfl 25 _ _ rfl w6.heap.size cm rfl rfl 25 _ hn6 cmz (by rw [cmq.out]; rfl) cmo ?_; rw [HW7.out])
    | (refine wpList_load_row rfl 25 _ rfl w6.heap.size rfl 25 _ (0, 0) _ n7 Try.underlying25 rfl cmz ?_)
    | (refine wpList_store_row rfl 25 _ _ rfl (w.heap.size + 1) cm rfl rfl 25 _ g1 cmz (by rw [cmq.out]; rfl) cmo ?_))
  refine bodyPost_ret (results_rstep _ _ (w.heap.size + 1) cm v (.int .i64 what) rfl (heap_setRow _ _ _ _ _ g1) cmq.out rfl rfl) rfl ⟨v, ?_, memAt_setRow m7 HNe.out cm, below_setRow q7 (by omega) cm⟩
  rw [cmE]
set_option maxRecDepth 100000 in
set_option maxHeartbeats 4000000 in
theorem rstep_memno (r : List Int) (pc : Int) (d : List UInt8) (v : Value) (w : World) (c : Cod) (k : Nat) (wb : Bool) (ad : Int) (sx : ByteArray) (hk : okR r pc) (hm : MemAt w v d) (hl : d.length ≤ 4096) (hf : pc + 4 ≤ d.length) (hd : decC ⟨((d.drop pc.toNat).take 4).toArray⟩ = some c) (hk8 : 0 < k ∧ k ≤ 8) (had : 0 ≤ ad) (hwa : wantS c.op c.n (r.getD c.a.toNat 0) (r.getD c.b.toNat 0) = ⟨wb, ad, k, sx⟩) (hno : ¬ ad + k ≤ d.length) :
    Calls Try.prog 12 #[.agg (stC r pc).toArray, v] w (RStepP w (r, pc, d, 3)) := by
  have hr := hk.1
  obtain ⟨pn, hpn⟩ : ∃ pn : Nat, pc = pn := ⟨pc.toNat, by have := hk.2.2.1; omega⟩
  obtain ⟨cs, hcs⟩ : ∃ cs, (stC r pc).toArray = cs := ⟨_, rfl⟩
  rw [hcs]
  obtain ⟨W, hW⟩ : ∃ W, (w.alloc (.cells cs 25)).alloc (.cells #[.int .u64 0, .int .u64 0, .int .u64 0, .int .u64 0, .int .u64 0, .int .u64 0, .int .u64 0, .int .u64 0, .int .u64 0, .int .u64 0, .int .u64 0, .int .u64 0, .int .u64 0, .int .u64 0, .int .u64 0, .int .u64 0, .int .u64 0] 25) = W := ⟨_, rfl⟩
  have hbW : Below w.heap.size w W := by rw [← hW]; go_grown
  have z1 : (w.alloc (.cells cs 25)).heap.size = w.heap.size + 1 := by simp
  have b0 : W.heap[w.heap.size]? = some (.cells cs 25 (0, 0)) := by
    rw [← hW]; exact (Lib.alloc_old _ _ _ (by simp)).trans (heap_new _ _)
  have b1 : W.heap[w.heap.size + 1]? = some (.cells #[.int .u64 0, .int .u64 0, .int .u64 0, .int .u64 0, .int .u64 0, .int .u64 0, .int .u64 0, .int .u64 0, .int .u64 0, .int .u64 0, .int .u64 0, .int .u64 0, .int .u64 0, .int .u64 0, .int .u64 0, .int .u64 0, .int .u64 0] 25 (0, 0)) := by
    rw [← hW, ← z1]; exact heap_new _ _
  have hmW := hm.below hbW
  have S0 : StAt W w.heap.size r pc := by unfold StAt; rw [hcs]; exact b0
  have hpcc := S0.pc hr
  have hsz : (Try.prog.info? 25).map (·.size) = some cs.size := by rw [← hcs, stC_size hr]; exact stInfo
  have hone : cs.all (·.oneCell') = true := by rw [← hcs]; exact stC_one _ _
  have HQ : Hid (cs.size = 17) := by simp only [Hid]; rw [← hcs]; exact stC_size hr
  have hl0 : w.heap.size < W.heap.size := (Array.getElem?_eq_some_iff.1 b0).1
  have hl1 : w.heap.size + 1 < W.heap.size := (Array.getElem?_eq_some_iff.1 b1).1
  have HNe : Hid (∀ B off, d ≠ [] → (∃ len cap, v = .slice (some ⟨B, off, none⟩) len cap) → B ≠ w.heap.size + 1) := fun B off hd ⟨len, cap, he⟩ => by
    obtain ⟨p, cap', h1, h2, h3⟩ := hm
    rcases h3 with h3 | ⟨B', off', h3, h4, h5⟩
    · exact absurd h3 hd
    · rw [h1, h3] at he; injection he with he1; injection he1 with he2; injection he2 with he3; omega
  clear z1 S0
  have hfn : pn + 4 ≤ d.length := by omega
  have HLd : Hid (Calls Try.prog 21 #[v, .int .u64 pc, .int .i64 4] W fun e w' => e = .returned (.tuple #[.string ⟨((d.drop pn).take 4).toArray⟩, .bool true]) ∧ w' = W) := by
    have := rLoad_yes v d pn 4 W hmW hl hfn (by omega)
    rw [hpn]; exact this
  have hs4 : (⟨((d.drop pn).take 4).toArray⟩ : ByteArray).size = 4 := by show (List.toArray _).size = 4; simp; omega
  have HDc := Lib.hid (fun (W' : World) => rDecode_4b ⟨((d.drop pn).take 4).toArray⟩ W' hs4)
  have hdq := dec_eq ⟨((d.drop pn).take 4).toArray⟩ hs4
  have hrt := decC_right hd
  have hrc : rdC ⟨((d.drop pn).take 4).toArray⟩ = c ∧ rightC (rdC ⟨((d.drop pn).take 4).toArray⟩) = true := by
    rw [show pc.toNat = pn from by omega] at hd
    rw [hd] at hdq
    by_cases h : rightC (rdC ⟨((d.drop pn).take 4).toArray⟩) = true
    · rw [if_pos h] at hdq; injection hdq with hdq; exact ⟨hdq.symm, h⟩
    · rw [if_neg h] at hdq; cases hdq
  rw [hrc.2, hrc.1] at HDc
  generalize (⟨((d.drop pn).take 4).toArray⟩ : ByteArray) = sb at *
  obtain ⟨_, la, lb, lz, _⟩ := rightI_b hrt
  obtain ⟨a, hca⟩ : ∃ a : Nat, c.a = a := ⟨c.a.toNat, by omega⟩
  obtain ⟨b, hcb⟩ : ∃ b : Nat, c.b = b := ⟨c.b.toNat, by omega⟩
  obtain ⟨z, hcz⟩ : ∃ z : Nat, c.c = z := ⟨c.c.toNat, by omega⟩
  have hv : c.v = .agg #[.int .i64 c.op, .int .i64 a, .int .i64 b, .int .i64 z, .int .i64 c.n] := by rw [← hca, ← hcb, ← hcz]; rfl
  have HDc' : Hid (∀ W' : World, Calls Try.prog 22 #[.string sb] W' fun e w' => e = .returned (.tuple #[.agg #[.int .i64 c.op, .int .i64 a, .int .i64 b, .int .i64 z, .int .i64 c.n], .bool true]) ∧ Below W'.heap.size W' w') := by rw [← hv]; exact HDc
  have HWa := Lib.hid (fun (W' : World) => Wants_any c.op c.n a b z r pc W' (by omega) (by omega) hk)
  rw [hcs] at HWa
  clear hpn hdq hrc hs4 HDc hfn
  have hwant : wantS c.op c.n (r.getD a 0) (r.getD b 0) = ⟨wb, ad, k, sx⟩ := by
    have := hwa
    rw [hca, hcb, Int.toNat_natCast, Int.toNat_natCast] at this
    exact this
  have hkpos : (0 : Int) < (k : Int) := by omega
  have HLn := Lib.hid (fun (W' : World) (hm' : MemAt W' v d) => rLoad_no v d ad k W' hm' hl had hno (by omega))
  clear hwa hf hd hno hk8 had
  go_enter Try.func12, Try.ntmps12
  go_wp2_with (first
    | (go_at_call 21; refine HLd.out.mono ?_; rintro e w' ⟨rfl, hw'⟩; rw [hw']; clear hw' w')
    | (go_at_call 22; refine (HDc'.out _).mono ?_; rintro e w2 ⟨rfl, hB2⟩; refine Hid.out ?_))
  refine Lib.hid ?_
  have hB3 := hB2.alloc hB2.size (.cells #[.int .i64 c.op, .int .i64 a, .int .i64 b, .int .i64 z, .int .i64 c.n] 61)
  have k3 : (w2.alloc (.cells #[.int .i64 c.op, .int .i64 a, .int .i64 b, .int .i64 z, .int .i64 c.n] 61)).heap[w2.heap.size]? = some (.cells #[.int .i64 c.op, .int .i64 a, .int .i64 b, .int .i64 z, .int .i64 c.n] 61 (0, 0)) := heap_new _ _
  obtain ⟨W3, hW3⟩ : ∃ W3, w2.alloc (.cells #[.int .i64 c.op, .int .i64 a, .int .i64 b, .int .i64 z, .int .i64 c.n] 61) = W3 := ⟨_, rfl⟩
  rw [hW3] at hB3 k3
  have d0 := (hB3.block _ hl0).trans b0
  have hl3 : w2.heap.size < W3.heap.size := (Array.getElem?_eq_some_iff.1 k3).1
  have x0 : W3.cell? ⟨w2.heap.size, 0, none⟩ = some (.int .i64 c.op) := by simp [World.cell?, k3]
  have x1 : W3.cell? ⟨w2.heap.size, 1, none⟩ = some (.int .i64 a) := by simp [World.cell?, k3]
  have x2 : W3.cell? ⟨w2.heap.size, 2, none⟩ = some (.int .i64 b) := by simp [World.cell?, k3]
  have x3 : W3.cell? ⟨w2.heap.size, 3, none⟩ = some (.int .i64 z) := by simp [World.cell?, k3]
  have x4 : W3.cell? ⟨w2.heap.size, 4, none⟩ = some (.int .i64 c.n) := by simp [World.cell?, k3]
  have HWa3 := Lib.hid (HWa.out W3)
  rw [hwant] at HWa3
  have HWa4 : Hid (Calls Try.prog 23 #[.agg cs, .agg #[.int .i64 c.op, .int .i64 a, .int .i64 b, .int .i64 z, .int .i64 c.n]] W3 fun e w' => e = .returned (.agg #[.bool wb, .int .u64 ad, .int .i64 k, .string sx]) ∧ Below W3.heap.size W3 w') := HWa3
  clear HWa HWa3 hB2
  go_wp2_with (first
    | (refine wpList_load_row rfl 25 _ rfl w.heap.size rfl 25 _ (0, 0) _ d0 Try.underlying25 rfl hsz ?_)
    | (go_at_call 23; refine HWa4.out.mono ?_; rintro e w4 ⟨rfl, hB4⟩; refine Hid.out ?_))
  refine Lib.hid ?_
  have hB5 := hB4.alloc hB4.size (.cells #[.bool wb, .int .u64 ad, .int .i64 k, .string sx] 69)
  have k5 : (w4.alloc (.cells #[.bool wb, .int .u64 ad, .int .i64 k, .string sx] 69)).heap[w4.heap.size]? = some (.cells #[.bool wb, .int .u64 ad, .int .i64 k, .string sx] 69 (0, 0)) := heap_new _ _
  obtain ⟨W5, hW5⟩ : ∃ W5, w4.alloc (.cells #[.bool wb, .int .u64 ad, .int .i64 k, .string sx] 69) = W5 := ⟨_, rfl⟩
  rw [hW5] at hB5 k5
  have HW5 := Lib.hid hW5
  clear hW5
  go_upto_region 8 with fail
  rw [HW5.out]
  have hl5 : w4.heap.size < W5.heap.size := (Array.getElem?_eq_some_iff.1 k5).1
  have HBa := Lib.hid (hB3.trans (hB5.mono hB3.size))
  have e0 := (hB5.block _ (Array.getElem?_eq_some_iff.1 d0).1).trans d0
  have kc := (hB5.block _ hl3).trans k3
  have y0 : W5.cell? ⟨w2.heap.size, 0, none⟩ = some (.int .i64 c.op) := by simp [World.cell?, kc]
  have y1 : W5.cell? ⟨w2.heap.size, 1, none⟩ = some (.int .i64 a) := by simp [World.cell?, kc]
  have y2 : W5.cell? ⟨w2.heap.size, 2, none⟩ = some (.int .i64 b) := by simp [World.cell?, kc]
  have y3 : W5.cell? ⟨w2.heap.size, 3, none⟩ = some (.int .i64 z) := by simp [World.cell?, kc]
  have y4 : W5.cell? ⟨w2.heap.size, 4, none⟩ = some (.int .i64 c.n) := by simp [World.cell?, kc]
  have a0 : W5.cell? ⟨w4.heap.size, 0, none⟩ = some (.bool wb) := by simp [World.cell?, k5]
  have a1 : W5.cell? ⟨w4.heap.size, 1, none⟩ = some (.int .u64 ad) := by simp [World.cell?, k5]
  have a2 : W5.cell? ⟨w4.heap.size, 2, none⟩ = some (.int .i64 k) := by simp [World.cell?, k5]
  have a3 : W5.cell? ⟨w4.heap.size, 3, none⟩ = some (.string sx) := by simp [World.cell?, k5]
  clear hB4 hB5 hB3 d0 k3 x0 x1 x2 x3 x4 hW3
  have m5 := hmW.below HBa.out
  have HLn5 := Lib.hid (HLn.out W5 m5)
  have g1 := (HBa.out.block _ hl1).trans b1
  have q5 := hbW.trans (HBa.out.mono hbW.size)
  clear HLn
  go_wp2_with (first
    | (go_at_call 21; refine HLn5.out.mono ?_; rintro e w' ⟨rfl, hw'⟩; rw [hw']; clear hw' w')
    | (refine wpList_load_row rfl 25 _ rfl w.heap.size rfl 25 _ (0, 0) _ e0 Try.underlying25 rfl hsz ?_)
    | (refine wpList_store_row rfl 25 _ _ rfl (w.heap.size + 1) cs rfl rfl 25 _ g1 hsz (by rw [HQ.out]; rfl) hone ?_))
  refine bodyPost_ret (results_rstep _ _ (w.heap.size + 1) cs v (.int .i64 3) rfl (heap_setRow _ _ _ _ _ g1) HQ.out rfl rfl) rfl ⟨v, ?_, memAt_setRow m5 HNe.out cs, below_setRow q5 (by omega) cs⟩
  rw [hcs]
set_option maxRecDepth 100000 in
set_option maxHeartbeats 4000000 in
theorem rstep_load (r : List Int) (pc : Int) (d : List UInt8) (v : Value) (w : World) (c : Cod) (k ad : Nat) (hk : okR r pc) (hm : MemAt w v d) (hl : d.length ≤ 4096) (hf : pc + 4 ≤ d.length) (hd : decC ⟨((d.drop pc.toNat).take 4).toArray⟩ = some c) (hk8 : szI c.op = k) (hwa : wantS c.op c.n (r.getD c.a.toNat 0) (r.getD c.b.toNat 0) = ⟨false, ad, k, ⟨#[]⟩⟩) (hae : adI (r.getD c.b.toNat 0) c.n = ad) (hyes : ad + k ≤ d.length) :
    Calls Try.prog 12 #[.agg (stC r pc).toArray, v] w (RStepP w ((doS c r pc d).1, (doS c r pc d).2.1, d, (doS c r pc d).2.2.2)) := by
  have hr := hk.1
  obtain ⟨pn, hpn⟩ : ∃ pn : Nat, pc = pn := ⟨pc.toNat, by have := hk.2.2.1; omega⟩
  obtain ⟨cs, hcs⟩ : ∃ cs, (stC r pc).toArray = cs := ⟨_, rfl⟩
  rw [hcs]
  obtain ⟨W, hW⟩ : ∃ W, (w.alloc (.cells cs 25)).alloc (.cells #[.int .u64 0, .int .u64 0, .int .u64 0, .int .u64 0, .int .u64 0, .int .u64 0, .int .u64 0, .int .u64 0, .int .u64 0, .int .u64 0, .int .u64 0, .int .u64 0, .int .u64 0, .int .u64 0, .int .u64 0, .int .u64 0, .int .u64 0] 25) = W := ⟨_, rfl⟩
  have hbW : Below w.heap.size w W := by rw [← hW]; go_grown
  have z1 : (w.alloc (.cells cs 25)).heap.size = w.heap.size + 1 := by simp
  have b0 : W.heap[w.heap.size]? = some (.cells cs 25 (0, 0)) := by
    rw [← hW]; exact (Lib.alloc_old _ _ _ (by simp)).trans (heap_new _ _)
  have b1 : W.heap[w.heap.size + 1]? = some (.cells #[.int .u64 0, .int .u64 0, .int .u64 0, .int .u64 0, .int .u64 0, .int .u64 0, .int .u64 0, .int .u64 0, .int .u64 0, .int .u64 0, .int .u64 0, .int .u64 0, .int .u64 0, .int .u64 0, .int .u64 0, .int .u64 0, .int .u64 0] 25 (0, 0)) := by
    rw [← hW, ← z1]; exact heap_new _ _
  have hmW := hm.below hbW
  have S0 : StAt W w.heap.size r pc := by unfold StAt; rw [hcs]; exact b0
  have hpcc := S0.pc hr
  have hsz : (Try.prog.info? 25).map (·.size) = some cs.size := by rw [← hcs, stC_size hr]; exact stInfo
  have hone : cs.all (·.oneCell') = true := by rw [← hcs]; exact stC_one _ _
  have HQ : Hid (cs.size = 17) := by simp only [Hid]; rw [← hcs]; exact stC_size hr
  have hl0 : w.heap.size < W.heap.size := (Array.getElem?_eq_some_iff.1 b0).1
  have hl1 : w.heap.size + 1 < W.heap.size := (Array.getElem?_eq_some_iff.1 b1).1
  have HNe : Hid (∀ B off, d ≠ [] → (∃ len cap, v = .slice (some ⟨B, off, none⟩) len cap) → B ≠ w.heap.size + 1) := fun B off hd ⟨len, cap, he⟩ => by
    obtain ⟨p, cap', h1, h2, h3⟩ := hm
    rcases h3 with h3 | ⟨B', off', h3, h4, h5⟩
    · exact absurd h3 hd
    · rw [h1, h3] at he; injection he with he1; injection he1 with he2; injection he2 with he3; omega
  clear z1 S0
  have hfn : pn + 4 ≤ d.length := by omega
  have HLd : Hid (Calls Try.prog 21 #[v, .int .u64 pc, .int .i64 4] W fun e w' => e = .returned (.tuple #[.string ⟨((d.drop pn).take 4).toArray⟩, .bool true]) ∧ w' = W) := by
    have := rLoad_yes v d pn 4 W hmW hl hfn (by omega)
    rw [hpn]; exact this
  have hs4 : (⟨((d.drop pn).take 4).toArray⟩ : ByteArray).size = 4 := by show (List.toArray _).size = 4; simp; omega
  have HDc := Lib.hid (fun (W' : World) => rDecode_4b ⟨((d.drop pn).take 4).toArray⟩ W' hs4)
  have hdq := dec_eq ⟨((d.drop pn).take 4).toArray⟩ hs4
  have hrt := decC_right hd
  have hrc : rdC ⟨((d.drop pn).take 4).toArray⟩ = c ∧ rightC (rdC ⟨((d.drop pn).take 4).toArray⟩) = true := by
    rw [show pc.toNat = pn from by omega] at hd
    rw [hd] at hdq
    by_cases h : rightC (rdC ⟨((d.drop pn).take 4).toArray⟩) = true
    · rw [if_pos h] at hdq; injection hdq with hdq; exact ⟨hdq.symm, h⟩
    · rw [if_neg h] at hdq; cases hdq
  rw [hrc.2, hrc.1] at HDc
  generalize (⟨((d.drop pn).take 4).toArray⟩ : ByteArray) = sb at *
  obtain ⟨_, la, lb, lz, _⟩ := rightI_b hrt
  obtain ⟨a, hca⟩ : ∃ a : Nat, c.a = a := ⟨c.a.toNat, by omega⟩
  obtain ⟨b, hcb⟩ : ∃ b : Nat, c.b = b := ⟨c.b.toNat, by omega⟩
  obtain ⟨z, hcz⟩ : ∃ z : Nat, c.c = z := ⟨c.c.toNat, by omega⟩
  have hv : c.v = .agg #[.int .i64 c.op, .int .i64 a, .int .i64 b, .int .i64 z, .int .i64 c.n] := by rw [← hca, ← hcb, ← hcz]; rfl
  have HDc' : Hid (∀ W' : World, Calls Try.prog 22 #[.string sb] W' fun e w' => e = .returned (.tuple #[.agg #[.int .i64 c.op, .int .i64 a, .int .i64 b, .int .i64 z, .int .i64 c.n], .bool true]) ∧ Below W'.heap.size W' w') := by rw [← hv]; exact HDc
  have HWa := Lib.hid (fun (W' : World) => Wants_any c.op c.n a b z r pc W' (by omega) (by omega) hk)
  rw [hcs] at HWa
  have HDo := Lib.hid (fun (W' : World) (sx : ByteArray) hff => Does_any c r pc d sx W' hrt hk hff)
  rw [hcs, hv] at HDo
  clear hpn hdq hrc hs4 HDc hfn
  have hwant : wantS c.op c.n (r.getD a 0) (r.getD b 0) = ⟨false, ad, k, ⟨#[]⟩⟩ := by
    have := hwa
    rw [hca, hcb, Int.toNat_natCast, Int.toNat_natCast] at this
    exact this
  have hkk : 0 < k := by rw [← hk8]; unfold szI; split <;> omega
  have hkpos : (0 : Int) < (k : Int) := by omega
  have HLy := Lib.hid (fun (W' : World) (hm' : MemAt W' v d) => rLoad_yes v d ad k W' hm' hl hyes hkk)
  have hok' := (doS_ok (d := d) hrt hk).1
  have HDo' := Lib.hid (fun (W' : World) => HDo.out W' ⟨((d.drop ad).take k).toArray⟩ (fun _ => ⟨by rw [hae, hk8]; omega, fun _ => by rw [hae, hk8, Int.toNat_natCast]⟩))
  clear HDo
  obtain ⟨out, hout⟩ : ∃ out, doS c r pc d = out := ⟨_, rfl⟩
  rw [hout] at HDo' hok' ⊢
  generalize (⟨((d.drop ad).take k).toArray⟩ : ByteArray) = sy at *
  clear hout hf hd hwa hae hyes hk8 hkk
  obtain ⟨rr, pp, dd, ww⟩ := out
  simp only at HDo' hok' ⊢
  go_enter Try.func12, Try.ntmps12
  go_wp2_with (first
    | (go_at_call 21; refine HLd.out.mono ?_; rintro e w' ⟨rfl, hw'⟩; rw [hw']; clear hw' w')
    | (go_at_call 22; refine (HDc'.out _).mono ?_; rintro e w2 ⟨rfl, hB2⟩; refine Hid.out ?_))
  refine Lib.hid ?_
  have hB3 := hB2.alloc hB2.size (.cells #[.int .i64 c.op, .int .i64 a, .int .i64 b, .int .i64 z, .int .i64 c.n] 61)
  have k3 : (w2.alloc (.cells #[.int .i64 c.op, .int .i64 a, .int .i64 b, .int .i64 z, .int .i64 c.n] 61)).heap[w2.heap.size]? = some (.cells #[.int .i64 c.op, .int .i64 a, .int .i64 b, .int .i64 z, .int .i64 c.n] 61 (0, 0)) := heap_new _ _
  obtain ⟨W3, hW3⟩ : ∃ W3, w2.alloc (.cells #[.int .i64 c.op, .int .i64 a, .int .i64 b, .int .i64 z, .int .i64 c.n] 61) = W3 := ⟨_, rfl⟩
  rw [hW3] at hB3 k3
  have d0 := (hB3.block _ hl0).trans b0
  have hl3 : w2.heap.size < W3.heap.size := (Array.getElem?_eq_some_iff.1 k3).1
  have x0 : W3.cell? ⟨w2.heap.size, 0, none⟩ = some (.int .i64 c.op) := by simp [World.cell?, k3]
  have x1 : W3.cell? ⟨w2.heap.size, 1, none⟩ = some (.int .i64 a) := by simp [World.cell?, k3]
  have x2 : W3.cell? ⟨w2.heap.size, 2, none⟩ = some (.int .i64 b) := by simp [World.cell?, k3]
  have x3 : W3.cell? ⟨w2.heap.size, 3, none⟩ = some (.int .i64 z) := by simp [World.cell?, k3]
  have x4 : W3.cell? ⟨w2.heap.size, 4, none⟩ = some (.int .i64 c.n) := by simp [World.cell?, k3]
  have HWa3 := Lib.hid (HWa.out W3)
  rw [hwant] at HWa3
  have HWa4 : Hid (Calls Try.prog 23 #[.agg cs, .agg #[.int .i64 c.op, .int .i64 a, .int .i64 b, .int .i64 z, .int .i64 c.n]] W3 fun e w' => e = .returned (.agg #[.bool false, .int .u64 ad, .int .i64 k, .string ⟨#[]⟩]) ∧ Below W3.heap.size W3 w') := HWa3
  clear HWa HWa3 hB2
  go_wp2_with (first
    | (refine wpList_load_row rfl 25 _ rfl w.heap.size rfl 25 _ (0, 0) _ d0 Try.underlying25 rfl hsz ?_)
    | (go_at_call 23; refine HWa4.out.mono ?_; rintro e w4 ⟨rfl, hB4⟩; refine Hid.out ?_))
  refine Lib.hid ?_
  have hB5 := hB4.alloc hB4.size (.cells #[.bool false, .int .u64 ad, .int .i64 k, .string ⟨#[]⟩] 69)
  have k5 : (w4.alloc (.cells #[.bool false, .int .u64 ad, .int .i64 k, .string ⟨#[]⟩] 69)).heap[w4.heap.size]? = some (.cells #[.bool false, .int .u64 ad, .int .i64 k, .string ⟨#[]⟩] 69 (0, 0)) := heap_new _ _
  obtain ⟨W5, hW5⟩ : ∃ W5, w4.alloc (.cells #[.bool false, .int .u64 ad, .int .i64 k, .string ⟨#[]⟩] 69) = W5 := ⟨_, rfl⟩
  rw [hW5] at hB5 k5
  have HW5 := Lib.hid hW5
  clear hW5
  go_upto_region 8 with fail
  rw [HW5.out]
  have hl5 : w4.heap.size < W5.heap.size := (Array.getElem?_eq_some_iff.1 k5).1
  have HBa := Lib.hid (hB3.trans (hB5.mono hB3.size))
  have e0 := (hB5.block _ (Array.getElem?_eq_some_iff.1 d0).1).trans d0
  have kc := (hB5.block _ hl3).trans k3
  have y0 : W5.cell? ⟨w2.heap.size, 0, none⟩ = some (.int .i64 c.op) := by simp [World.cell?, kc]
  have y1 : W5.cell? ⟨w2.heap.size, 1, none⟩ = some (.int .i64 a) := by simp [World.cell?, kc]
  have y2 : W5.cell? ⟨w2.heap.size, 2, none⟩ = some (.int .i64 b) := by simp [World.cell?, kc]
  have y3 : W5.cell? ⟨w2.heap.size, 3, none⟩ = some (.int .i64 z) := by simp [World.cell?, kc]
  have y4 : W5.cell? ⟨w2.heap.size, 4, none⟩ = some (.int .i64 c.n) := by simp [World.cell?, kc]
  have a0 : W5.cell? ⟨w4.heap.size, 0, none⟩ = some (.bool false) := by simp [World.cell?, k5]
  have a1 : W5.cell? ⟨w4.heap.size, 1, none⟩ = some (.int .u64 ad) := by simp [World.cell?, k5]
  have a2 : W5.cell? ⟨w4.heap.size, 2, none⟩ = some (.int .i64 k) := by simp [World.cell?, k5]
  have a3 : W5.cell? ⟨w4.heap.size, 3, none⟩ = some (.string ⟨#[]⟩) := by simp [World.cell?, k5]
  clear hB4 hB5 hB3 d0 k3 x0 x1 x2 x3 x4 hW3
  have HBb := HBa
  have HDo5 := HDo'.out W5
  obtain ⟨out3, ho3⟩ : ∃ o3 : List Int × Int × Int, (rr, pp, ww) = o3 := ⟨_, rfl⟩
  obtain ⟨rfl, rfl, rfl⟩ : rr = out3.1 ∧ pp = out3.2.1 ∧ ww = out3.2.2 := by rw [← ho3]; exact ⟨rfl, rfl, rfl⟩
  clear ho3
  have m5 := hmW.below HBa.out
  have HLy5 := Lib.hid (HLy.out W5 m5)
  obtain ⟨r', pc', what⟩ := out3
  simp only at HDo5 hok'
  have cmz : (Try.prog.info? 25).map (·.size) = some (stC r' pc').toArray.size := by rw [stC_size hok'.1]; exact stInfo
  have cmo := stC_one r' pc'
  have cmq : Hid ((stC r' pc').toArray.size = 17) := stC_size hok'.1
  have HDo6 : Hid (Calls Try.prog 24 #[.agg cs, .agg #[.int .i64 c.op, .int .i64 a, .int .i64 b, .int .i64 z, .int .i64 c.n], .string sy] W5 fun e w' => e = .returned (.tuple #[.agg (stC r' pc').toArray, .int .i64 what]) ∧ Below W5.heap.size W5 w') := HDo5
  obtain ⟨cm, cmE⟩ : ∃ c', (stC r' pc').toArray = c' := ⟨_, rfl⟩
  rw [cmE] at cmz cmo cmq HDo6
  clear HDo5
  go_wp2_with (first
    | (go_at_call 21; refine HLy5.out.mono ?_; rintro e w' ⟨rfl, hw'⟩; rw [hw']; clear hw' w')
    | (refine wpList_load_row rfl 25 _ rfl w.heap.size rfl 25 _ (0, 0) _ e0 Try.underlying25 rfl hsz ?_)
    | (go_at_call 24; refine HDo6.out.mono ?_; rintro e w6 ⟨rfl, hB6⟩; refine Hid.out ?_))
  refine Lib.hid ?_
  obtain ⟨W7, hW7, n7, hb7⟩ := state_laid w6 cm
  have hn6 := heap_new w6 (.cells #[.int .u64 0, .int .u64 0, .int .u64 0, .int .u64 0, .int .u64 0, .int .u64 0, .int .u64 0, .int .u64 0, .int .u64 0, .int .u64 0, .int .u64 0, .int .u64 0, .int .u64 0, .int .u64 0, .int .u64 0, .int .u64 0, .int .u64 0] 25)
  have HW7 := Lib.hid hW7
  have hB7 := HBb.out.trans ((hB6.trans (hb7.mono hB6.size)).mono HBb.out.size)
  have g1 := (hB7.block _ hl1).trans b1
  have q7 := hbW.trans (hB7.mono hbW.size)
  have m7 := m5.below (hB6.trans (hb7.mono hB6.size))
  clear hW7 hB6 hb7
  go_wp2_with (first
    | (refine wpList_store_row rfl 25 _ _ rfl w6.heap.size cm rfl rfl 25 _ hn6 cmz (by rw [cmq.out]; rfl) cmo ?_; rw [HW7.out])
    | (refine wpList_load_row rfl 25 _ rfl w6.heap.size rfl 25 _ (0, 0) _ n7 Try.underlying25 rfl cmz ?_)
    | (refine wpList_store_row rfl 25 _ _ rfl (w.heap.size + 1) cm rfl rfl 25 _ g1 cmz (by rw [cmq.out]; rfl) cmo ?_))
  refine bodyPost_ret (results_rstep _ _ (w.heap.size + 1) cm v (.int .i64 what) rfl (heap_setRow _ _ _ _ _ g1) cmq.out rfl rfl) rfl ⟨v, ?_, memAt_setRow m7 HNe.out cm, below_setRow q7 (by omega) cm⟩
  rw [cmE]
end Go.Proofs.Ytbccckjkmlmhhaa
namespace Go.Proofs.Ytbccckjkmlmhhaa
open Go.RowKit Go.Lib
theorem over_take_succ (d s : List UInt8) (a i : Nat) (h : i < s.length) (_hd : a + s.length ≤ d.length) : over d a (s.take (i + 1)) = (over d a (s.take i)).set (a + i) s[i] := by
  refine ext_getD (by simp [over_len]) (fun j hj => ?_)
  have hj' : j < d.length := by simpa [over_len] using hj
  rw [over_get _ _ _ _ hj']
  by_cases hji : j = a + i
  · subst hji
    rw [if_pos (by simp; omega), List.getD_eq_getElem?_getD, List.getD_eq_getElem?_getD, List.getElem?_set_self (by simp [over_len]; omega), Nat.add_sub_cancel_left, List.getElem?_take_of_lt (by omega), List.getElem?_eq_getElem h]
  · rw [List.getD_eq_getElem?_getD (l := (over d a (s.take i)).set (a + i) s[i]), List.getElem?_set_ne (by omega), ← List.getD_eq_getElem?_getD, over_get _ _ _ _ hj']
    by_cases hin : a ≤ j ∧ j - a < (s.take i).length
    · have h1 : j - a < i := by have := hin.2; simp at this; omega
      rw [if_pos hin, if_pos ⟨hin.1, by simp; omega⟩, getD_take _ _ _ (by omega), getD_take _ _ _ h1]
    · rw [if_neg hin, if_neg]
      intro hc
      apply hin
      refine ⟨hc.1, ?_⟩
      have := hc.2
      simp at this ⊢
      omega
theorem take_set {α : Type} (l : List α) (n i : Nat) (x : α) : (l.set i x).take n = (l.take n).set i x := by
  rw [List.take_set]
theorem st_row {X : World} {g : Nat} {cu : Array Value} {ad i : Nat} {d sl : List UInt8} {b8 : UInt8} (hg : X.heap[g]? = some (.cells cu 5 (0, 0))) (htk : cu.toList.take d.length = u8s (over d ad (sl.take i))) (hi : i < sl.length) (hd : ad + sl.length ≤ d.length) (hb : b8 = sl.getD i 0) : ∃ cu', (X.setCell ⟨g, ad + i, none⟩ (.int .u8 (b8.toNat : Int))).heap[g]? = some (.cells cu' 5 (0, 0)) ∧ cu'.size = cu.size ∧ cu'.toList.take d.length = u8s (over d ad (sl.take (i + 1))) := by
  have hlt := (Array.getElem?_eq_some_iff.1 hg).1
  have hge := (Array.getElem?_eq_some_iff.1 hg).2
  refine ⟨cu.setIfInBounds (ad + i) (.int .u8 (b8.toNat : Int)), ?_, by simp, ?_⟩
  · show (X.heap.modify g _)[g]? = _
    rw [Array.getElem?_modify]
    simp [hg]
  · rw [Array.toList_setIfInBounds, List.take_set, htk, over_take_succ d sl ad i hi hd]
    have e : b8 = sl[i] := by rw [hb, List.getD_eq_getElem?_getD, List.getElem?_eq_getElem hi]; rfl
    subst e
    unfold u8s
    rw [List.map_set]
theorem fin_mem {wr : World} {g cap6 : Nat} {cu : Array Value} {d e : List UInt8} (hg : wr.heap[g]? = some (.cells cu 5 (0, 0))) (hcap : d.length ≤ cap6) (htk : cu.toList.take d.length = u8s e) (he : e.length = d.length) : MemAt wr (.slice (some ⟨g, 0, none⟩) d.length cap6) e := by
  refine ⟨some ⟨g, 0, none⟩, cap6, by rw [he], by rw [he]; exact hcap, .inr ⟨g, 0, rfl, (Array.getElem?_eq_some_iff.1 hg).1, fun j hj => ?_⟩⟩
  have h1 : (cu.toList.take d.length)[j]? = (u8s e)[j]? := by rw [htk]
  rw [List.getElem?_take_of_lt (by omega)] at h1
  unfold u8s at h1
  rw [List.getElem?_map, List.getElem?_eq_getElem hj] at h1
  simp only [World.cell?, hg, Nat.zero_add]
  simpa using h1
theorem ms_step {i k : Nat} (h : i < k) : k - (RowKit.intOf (.int .i64 ((i : Int) + 1))).toNat < k - (RowKit.intOf (.int .i64 (i : Int))).toNat := by
  simp only [RowKit.intOf]
  omega
theorem i64w {x : Int} (h0 : 0 ≤ x) (h1 : x < 9223372036854775808) : IntKind.i64.wrap x = x := by
  have e : IntKind.i64.wrap x = if x % 18446744073709551616 ≥ 9223372036854775808 then x % 18446744073709551616 - 18446744073709551616 else x % 18446744073709551616 := by simp [IntKind.wrap, IntKind.bits, IntKind.signed]
  rw [e]; split <;> omega
theorem ixs {k ad dl sz i : Nat} (h : i < k) (h2 : ad + k ≤ dl) (h3 : sz = k) : (i : Int) < (k : Int) ∧ i < sz ∧ (i : Int) < (sz : Int) ∧ (ad : Int) + (i : Int) < (dl : Int) ∧ (0 : Int) ≤ (ad : Int) + (i : Int) ∧ ((ad : Int) + (i : Int)).toNat = ad + i ∧ i + 1 ≤ k := by
  refine ⟨?_, ?_, ?_, ?_, ?_, ?_, ?_⟩ <;> omega
theorem ixw {k ad dl i : Nat} (h : i < k) (h2 : ad + k ≤ dl) (h3 : dl ≤ 4096) : IntKind.i64.wrap (ad : Int) = ad ∧ IntKind.i64.wrap ((ad : Int) + (i : Int)) = (ad : Int) + (i : Int) := ⟨i64w (by omega) (by omega), i64w (by omega) (by omega)⟩
theorem ixc {k ad dl cap6 i : Nat} {sz : Nat} (HF : Hid (∀ (i : Nat), i < k → (i : Int) < (k : Int) ∧ i < sz ∧ (i : Int) < (sz : Int) ∧ (ad : Int) + (i : Int) < (dl : Int) ∧ (0 : Int) ≤ (ad : Int) + (i : Int) ∧ ((ad : Int) + (i : Int)).toNat = ad + i ∧ i + 1 ≤ k)) {n : Nat} (h : i < k) (h1 : n = cap6) (h2 : dl ≤ cap6) : ad + i < n := by
  have := (HF.out i h).2.2.2.1; omega
theorem wi1 {i k : Nat} (h : i ≤ k) (h8 : k ≤ 8) : wrap64 ((i : Int) + 1) = (i : Int) + 1 := wrap64_id (by omega) (by omega)
theorem byteInfoS : (Try.prog.info? 5).map (fun i => (i.zero, i.size, i.bytes)) = some (some (.int .u8 0), 1, 1) := by kernel_rfl
set_option maxRecDepth 100000 in
set_option maxHeartbeats 4000000 in
theorem rstep_store (r : List Int) (pc : Int) (d : List UInt8) (v : Value) (w : World) (c : Cod) (k ad : Nat) (sl : List UInt8) (hk : okR r pc) (hm : MemAt w v d) (hl : d.length ≤ 4096) (hf : pc + 4 ≤ d.length) (hd : decC ⟨((d.drop pc.toNat).take 4).toArray⟩ = some c) (hop : c.op = 19 ∨ c.op = 21) (hk8 : szI c.op = k) (hsl : sl.length = k) (hwa : wantS c.op c.n (r.getD c.a.toNat 0) (r.getD c.b.toNat 0) = ⟨true, ad, k, ⟨sl.toArray⟩⟩) (hae : adI (r.getD c.b.toNat 0) c.n = ad) (hyes : ad + k ≤ d.length) :
    Calls Try.prog 12 #[.agg (stC r pc).toArray, v] w (RStepP w ((doS c r pc d).1, (doS c r pc d).2.1, over d ad sl, (doS c r pc d).2.2.2)) := by
  have hr := hk.1
  obtain ⟨pn, hpn⟩ : ∃ pn : Nat, pc = pn := ⟨pc.toNat, by have := hk.2.2.1; omega⟩
  obtain ⟨cs, hcs⟩ : ∃ cs, (stC r pc).toArray = cs := ⟨_, rfl⟩
  rw [hcs]
  obtain ⟨W, hW⟩ : ∃ W, (w.alloc (.cells cs 25)).alloc (.cells #[.int .u64 0, .int .u64 0, .int .u64 0, .int .u64 0, .int .u64 0, .int .u64 0, .int .u64 0, .int .u64 0, .int .u64 0, .int .u64 0, .int .u64 0, .int .u64 0, .int .u64 0, .int .u64 0, .int .u64 0, .int .u64 0, .int .u64 0] 25) = W := ⟨_, rfl⟩
  have hbW : Below w.heap.size w W := by rw [← hW]; go_grown
  have z1 : (w.alloc (.cells cs 25)).heap.size = w.heap.size + 1 := by simp
  have b0 : W.heap[w.heap.size]? = some (.cells cs 25 (0, 0)) := by
    rw [← hW]; exact (Lib.alloc_old _ _ _ (by simp)).trans (heap_new _ _)
  have b1 : W.heap[w.heap.size + 1]? = some (.cells #[.int .u64 0, .int .u64 0, .int .u64 0, .int .u64 0, .int .u64 0, .int .u64 0, .int .u64 0, .int .u64 0, .int .u64 0, .int .u64 0, .int .u64 0, .int .u64 0, .int .u64 0, .int .u64 0, .int .u64 0, .int .u64 0, .int .u64 0] 25 (0, 0)) := by
    rw [← hW, ← z1]; exact heap_new _ _
  have hmW := hm.below hbW
  have S0 : StAt W w.heap.size r pc := by unfold StAt; rw [hcs]; exact b0
  have hpcc := S0.pc hr
  have hsz : (Try.prog.info? 25).map (·.size) = some cs.size := by rw [← hcs, stC_size hr]; exact stInfo
  have hone : cs.all (·.oneCell') = true := by rw [← hcs]; exact stC_one _ _
  have HQ : Hid (cs.size = 17) := by simp only [Hid]; rw [← hcs]; exact stC_size hr
  have hl0 : w.heap.size < W.heap.size := (Array.getElem?_eq_some_iff.1 b0).1
  have hl1 : w.heap.size + 1 < W.heap.size := (Array.getElem?_eq_some_iff.1 b1).1
  have HNe : Hid (∀ B off, d ≠ [] → (∃ len cap, v = .slice (some ⟨B, off, none⟩) len cap) → B ≠ w.heap.size + 1) := fun B off hd ⟨len, cap, he⟩ => by
    obtain ⟨p, cap', h1, h2, h3⟩ := hm
    rcases h3 with h3 | ⟨B', off', h3, h4, h5⟩
    · exact absurd h3 hd
    · rw [h1, h3] at he; injection he with he1; injection he1 with he2; injection he2 with he3; omega
  clear z1 S0
  have hfn : pn + 4 ≤ d.length := by omega
  have HLd : Hid (Calls Try.prog 21 #[v, .int .u64 pc, .int .i64 4] W fun e w' => e = .returned (.tuple #[.string ⟨((d.drop pn).take 4).toArray⟩, .bool true]) ∧ w' = W) := by
    have := rLoad_yes v d pn 4 W hmW hl hfn (by omega)
    rw [hpn]; exact this
  have hs4 : (⟨((d.drop pn).take 4).toArray⟩ : ByteArray).size = 4 := by show (List.toArray _).size = 4; simp; omega
  have HDc := Lib.hid (fun (W' : World) => rDecode_4b ⟨((d.drop pn).take 4).toArray⟩ W' hs4)
  have hdq := dec_eq ⟨((d.drop pn).take 4).toArray⟩ hs4
  have hrt := decC_right hd
  have hrc : rdC ⟨((d.drop pn).take 4).toArray⟩ = c ∧ rightC (rdC ⟨((d.drop pn).take 4).toArray⟩) = true := by
    rw [show pc.toNat = pn from by omega] at hd
    rw [hd] at hdq
    by_cases h : rightC (rdC ⟨((d.drop pn).take 4).toArray⟩) = true
    · rw [if_pos h] at hdq; injection hdq with hdq; exact ⟨hdq.symm, h⟩
    · rw [if_neg h] at hdq; cases hdq
  rw [hrc.2, hrc.1] at HDc
  generalize (⟨((d.drop pn).take 4).toArray⟩ : ByteArray) = sb at *
  obtain ⟨_, la, lb, lz, _⟩ := rightI_b hrt
  obtain ⟨a, hca⟩ : ∃ a : Nat, c.a = a := ⟨c.a.toNat, by omega⟩
  obtain ⟨b, hcb⟩ : ∃ b : Nat, c.b = b := ⟨c.b.toNat, by omega⟩
  obtain ⟨z, hcz⟩ : ∃ z : Nat, c.c = z := ⟨c.c.toNat, by omega⟩
  have hv : c.v = .agg #[.int .i64 c.op, .int .i64 a, .int .i64 b, .int .i64 z, .int .i64 c.n] := by rw [← hca, ← hcb, ← hcz]; rfl
  have HDc' : Hid (∀ W' : World, Calls Try.prog 22 #[.string sb] W' fun e w' => e = .returned (.tuple #[.agg #[.int .i64 c.op, .int .i64 a, .int .i64 b, .int .i64 z, .int .i64 c.n], .bool true]) ∧ Below W'.heap.size W' w') := by rw [← hv]; exact HDc
  have HWa := Lib.hid (fun (W' : World) => Wants_any c.op c.n a b z r pc W' (by omega) (by omega) hk)
  rw [hcs] at HWa
  have HDo := Lib.hid (fun (W' : World) (sx : ByteArray) hff => Does_any c r pc d sx W' hrt hk hff)
  rw [hcs, hv] at HDo
  clear hpn hdq hrc hs4 HDc hfn
  obtain ⟨sx, hsx⟩ : ∃ sx : ByteArray, (⟨sl.toArray⟩ : ByteArray) = sx := ⟨_, rfl⟩
  have hsz8 : sx.size = k := by rw [← hsx]; show sl.toArray.size = k; simpa using hsl
  have HSx : Hid (∀ i (h : i < sx.size), sx[i] = sl.getD i 0) := fun i h => by
    have hi : i < sl.length := by omega
    subst hsx
    show sl.toArray[i] = _
    rw [List.getElem_toArray, List.getD_eq_getElem?_getD, List.getElem?_eq_getElem hi]; rfl
  have hwant : wantS c.op c.n (r.getD a 0) (r.getD b 0) = ⟨true, ad, k, sx⟩ := by
    have := hwa
    rw [hca, hcb, Int.toNat_natCast, Int.toNat_natCast, hsx] at this
    exact this
  have hkk : 0 < k := by rw [← hk8]; unfold szI; split <;> omega
  have hk88 : k ≤ 8 := by rw [← hk8]; unfold szI; split <;> omega
  have hkpos : (0 : Int) < (k : Int) := by omega
  have HLy := Lib.hid (fun (W' : World) (hm' : MemAt W' v d) => rLoad_yes v d ad k W' hm' hl hyes hkk)
  have hok' := (doS_ok (d := d) hrt hk).1
  have HDo' := Lib.hid (fun (W' : World) sy => HDo.out W' sy (fun _ => ⟨by rw [hae, hk8]; omega, fun h => by omega⟩))
  clear HDo
  obtain ⟨out, hout⟩ : ∃ out, doS c r pc d = out := ⟨_, rfl⟩
  rw [hout] at HDo' hok' ⊢
  generalize (⟨((d.drop ad).take k).toArray⟩ : ByteArray) = sy at *
  clear hout hf hd hop hwa hae hk8 hsx
  obtain ⟨rr, pp, dd, ww⟩ := out
  simp only at HDo' hok' ⊢
  go_enter Try.func12, Try.ntmps12
  go_wp2_with (first
    | (go_at_call 21; refine HLd.out.mono ?_; rintro e w' ⟨rfl, hw'⟩; rw [hw']; clear hw' w')
    | (go_at_call 22; refine (HDc'.out _).mono ?_; rintro e w2 ⟨rfl, hB2⟩; refine Hid.out ?_))
  refine Lib.hid ?_
  have hB3 := hB2.alloc hB2.size (.cells #[.int .i64 c.op, .int .i64 a, .int .i64 b, .int .i64 z, .int .i64 c.n] 61)
  have k3 : (w2.alloc (.cells #[.int .i64 c.op, .int .i64 a, .int .i64 b, .int .i64 z, .int .i64 c.n] 61)).heap[w2.heap.size]? = some (.cells #[.int .i64 c.op, .int .i64 a, .int .i64 b, .int .i64 z, .int .i64 c.n] 61 (0, 0)) := heap_new _ _
  obtain ⟨W3, hW3⟩ : ∃ W3, w2.alloc (.cells #[.int .i64 c.op, .int .i64 a, .int .i64 b, .int .i64 z, .int .i64 c.n] 61) = W3 := ⟨_, rfl⟩
  rw [hW3] at hB3 k3
  have d0 := (hB3.block _ hl0).trans b0
  have hl3 : w2.heap.size < W3.heap.size := (Array.getElem?_eq_some_iff.1 k3).1
  have x0 : W3.cell? ⟨w2.heap.size, 0, none⟩ = some (.int .i64 c.op) := by simp [World.cell?, k3]
  have x1 : W3.cell? ⟨w2.heap.size, 1, none⟩ = some (.int .i64 a) := by simp [World.cell?, k3]
  have x2 : W3.cell? ⟨w2.heap.size, 2, none⟩ = some (.int .i64 b) := by simp [World.cell?, k3]
  have x3 : W3.cell? ⟨w2.heap.size, 3, none⟩ = some (.int .i64 z) := by simp [World.cell?, k3]
  have x4 : W3.cell? ⟨w2.heap.size, 4, none⟩ = some (.int .i64 c.n) := by simp [World.cell?, k3]
  have HWa3 := Lib.hid (HWa.out W3)
  rw [hwant] at HWa3
  have HWa4 : Hid (Calls Try.prog 23 #[.agg cs, .agg #[.int .i64 c.op, .int .i64 a, .int .i64 b, .int .i64 z, .int .i64 c.n]] W3 fun e w' => e = .returned (.agg #[.bool true, .int .u64 ad, .int .i64 k, .string sx]) ∧ Below W3.heap.size W3 w') := HWa3
  clear HWa HWa3 hB2
  go_wp2_with (first
    | (refine wpList_load_row rfl 25 _ rfl w.heap.size rfl 25 _ (0, 0) _ d0 Try.underlying25 rfl hsz ?_)
    | (go_at_call 23; refine HWa4.out.mono ?_; rintro e w4 ⟨rfl, hB4⟩; refine Hid.out ?_))
  refine Lib.hid ?_
  have hB5 := hB4.alloc hB4.size (.cells #[.bool true, .int .u64 ad, .int .i64 k, .string sx] 69)
  have k5 : (w4.alloc (.cells #[.bool true, .int .u64 ad, .int .i64 k, .string sx] 69)).heap[w4.heap.size]? = some (.cells #[.bool true, .int .u64 ad, .int .i64 k, .string sx] 69 (0, 0)) := heap_new _ _
  obtain ⟨W5, hW5⟩ : ∃ W5, w4.alloc (.cells #[.bool true, .int .u64 ad, .int .i64 k, .string sx] 69) = W5 := ⟨_, rfl⟩
  rw [hW5] at hB5 k5
  have HW5 := Lib.hid hW5
  clear hW5
  go_upto_region 8 with fail
  rw [HW5.out]
  have hl5 : w4.heap.size < W5.heap.size := (Array.getElem?_eq_some_iff.1 k5).1
  have HBa := Lib.hid (hB3.trans (hB5.mono hB3.size))
  have e0 := (hB5.block _ (Array.getElem?_eq_some_iff.1 d0).1).trans d0
  have kc := (hB5.block _ hl3).trans k3
  have y0 : W5.cell? ⟨w2.heap.size, 0, none⟩ = some (.int .i64 c.op) := by simp [World.cell?, kc]
  have y1 : W5.cell? ⟨w2.heap.size, 1, none⟩ = some (.int .i64 a) := by simp [World.cell?, kc]
  have y2 : W5.cell? ⟨w2.heap.size, 2, none⟩ = some (.int .i64 b) := by simp [World.cell?, kc]
  have y3 : W5.cell? ⟨w2.heap.size, 3, none⟩ = some (.int .i64 z) := by simp [World.cell?, kc]
  have y4 : W5.cell? ⟨w2.heap.size, 4, none⟩ = some (.int .i64 c.n) := by simp [World.cell?, kc]
  have a0 : W5.cell? ⟨w4.heap.size, 0, none⟩ = some (.bool true) := by simp [World.cell?, k5]
  have a1 : W5.cell? ⟨w4.heap.size, 1, none⟩ = some (.int .u64 ad) := by simp [World.cell?, k5]
  have a2 : W5.cell? ⟨w4.heap.size, 2, none⟩ = some (.int .i64 k) := by simp [World.cell?, k5]
  have a3 : W5.cell? ⟨w4.heap.size, 3, none⟩ = some (.string sx) := by simp [World.cell?, k5]
  clear hB4 hB5 hB3 d0 k3 x0 x1 x2 x3 x4 hW3
  have m5 := hmW.below HBa.out
  have HLy5 := Lib.hid (HLy.out W5 m5)
  obtain ⟨p, cap, hvv, hcap, hpp⟩ := m5
  rcases hpp with hpp | ⟨B, off, hpB, hBl, hcell⟩
  · exfalso; rw [hpp] at hyes; simp at hyes; omega
  subst hpB
  obtain ⟨i0, hi, hz0, hz1, hz2⟩ := info_parts byteInfoS
  have hEm : Below W5.heap.size W5 (W5.alloc (.cells #[] 5)) := (Below.refl _ _).alloc (Nat.le_refl _) _
  have HOw := Lib.hid (show (W5.alloc (.cells #[] 5)).ownsRow W5.heap.size 5 1 (.slice (some ⟨W5.heap.size, 0, none⟩) 0 0) 0 [] from World.ownsRow_lit (base := W5.heap.size) (e := 5) (size := 1) W5 #[] 0 (Nat.le_refl _) (by decide) rfl)
  have HN : Hid (∀ j u, (u8s d)[j]? = some u → (W5.alloc (.cells #[] 5)).cell? ((⟨B, off, none⟩ : Addr).add j) = some u) := fun j u hu => by
    have hj : j < d.length := by have := (List.getElem?_eq_some_iff.1 hu).1; simpa [u8s] using this
    have ha : (⟨B, off, none⟩ : Addr).add j = ⟨B, off + j, none⟩ := by unfold Addr.add; split <;> simp_all
    rw [ha, hEm.cell (p := ⟨B, off + j, none⟩) hBl, hcell j hj]
    simp [u8s, hj] at hu
    rw [← hu]
  have hul : (u8s d).length = d.length := by simp [u8s]
  have hzA : W5.heap.size ≤ (W5.alloc (.cells #[] 5)).heap.size := by simp
  subst hvv
  have HA2 := Lib.hid (show Below W5.heap.size W5 W5 from Below.refl _ _)
  go_upto_if 55 with (go_at_call 21; refine HLy5.out.mono ?_; rintro e w' ⟨rfl, hw'⟩; rw [hw']; clear hw' w')
  go_cut [1, 12] from 56 to 75 (fun v1 v12 wx => ∃ g cap6, v1 = .slice (some ⟨g, 0, none⟩) d.length cap6 ∧ W5.heap.size ≤ g ∧ MemAt wx (.slice (some ⟨g, 0, none⟩) d.length cap6) (over d ad sl) ∧ RowKit.Below W5.heap.size W5 wx)
  case first =>
    clear HLy5 HDo' hok' e0 kc y0 y1 y2 y3 y4 hmW hm HLd HDc' HBa b0 b1 hbW hpcc hsz hone HQ hl0 hl1 HNe hk hrt hwant
    go_wp2_with ((at_builtin; refine wpList_append_own _ rfl _ _ 31 rfl W5.heap.size 5 i0 (.int .u8 0) 1 1 Try.underlying31 hi hz0 hz1 hz2 rfl (by decide) _ _ _ rfl HOw.out ⟨B, off, none⟩ d.length cap (u8s d) rfl (by rw [hul, Nat.mul_one]) HN.out (fun u hu => by simp [u8s] at hu; obtain ⟨_, _, rfl⟩ := hu; rfl) (by unfold maxLen; omega) (by omega) hzA ?_; intro v6 w6 hown hgrow hnil; refine Hid.out ?_))
    refine Lib.hid ?_
    rw [List.nil_append, Nat.zero_add] at hown
    have hB6 : Below W5.heap.size W5 w6 := Below.grown hEm hgrow hzA (fun j hj => (HOw.out.lt j hj).1)
    obtain ⟨g, cap6, cur, rfl, hbg, hg, hnc, hcm, hcsz, htake⟩ : ∃ g cap6 cur, v6 = .slice (some ⟨g, 0, none⟩) d.length cap6 ∧ W5.heap.size ≤ g ∧ w6.heap[g]? = some (.cells cur 5 (0, 0)) ∧ d.length ≤ cap6 ∧ cap6 ≤ maxLen ∧ cur.size = cap6 * 1 ∧ cur.toList.take (d.length * 1) = u8s d := by
      rcases hown.2 with ⟨_, hz⟩ | ⟨g, cap6, cur, hv, rr⟩
      · exfalso; omega
      · exact ⟨g, cap6, cur, hv, rr⟩
    rw [Nat.mul_one] at htake hcsz
    have HTk := Lib.hid htake
    have HG := Lib.hid hg
    have HB6 := Lib.hid hB6
    have hdl : d.length ≤ 4096 := hl
    have hads : wrap64 (ad : Int) = ad := wrap64_id (by omega) (by omega)
    clear hown hgrow hnil hg htake hB6 HOw HN hEm hzA hcell
    have HF := Lib.hid (fun (i : Nat) (hi : i < k) => ixs hi hyes hsz8)
    have HI := Lib.hid (fun (i : Nat) (hi : i < k) => ixw hi hyes hl)
    go_wp2_with fail
    go_loopw [12] (fun x wr => ∃ (i : Nat) (cu : Array Value), x = .int .i64 i ∧ i ≤ k ∧ wr.heap[g]? = some (.cells cu 5 (0, 0)) ∧ cu.size = cap6 ∧ cu.toList.take d.length = u8s (over d ad (sl.take i)) ∧ RowKit.Below W5.heap.size W5 wr) (fun x _ => (k - (RowKit.intOf x).toNat))
    case atStart => exact ⟨0, cur, rfl, Nat.zero_le _, HG.out, hcsz, by rw [List.take_zero, over_nil]; exact HTk.out, HB6.out⟩
    case round =>
      obtain ⟨ii0, cu, hxi, hik, hgi, hcu, htk, hBi⟩ := hrel
      subst hxi
      rename World => wr
      have a0 := (hBi.cell (p := ⟨w4.heap.size, 0, none⟩) hl5).trans a0
      have a1 := (hBi.cell (p := ⟨w4.heap.size, 1, none⟩) hl5).trans a1
      have a2 := (hBi.cell (p := ⟨w4.heap.size, 2, none⟩) hl5).trans a2
      have a3 := (hBi.cell (p := ⟨w4.heap.size, 3, none⟩) hl5).trans a3
      have hlA : w4.heap.size < wr.heap.size := Nat.lt_of_lt_of_le hl5 hBi.size
      have HBi := Lib.hid hBi
      have HGi := Lib.hid hgi
      have HTi := Lib.hid htk
      clear hBi hgi htk
      by_cases hlt : ii0 < k
      · obtain ⟨hii, hsi, hsii, hix, hix0, hixn, hi1⟩ := HF.out ii0 hlt
        have cW : ∀ X, RowKit.Below wr.heap.size wr X → X.cell? ⟨w4.heap.size, 1, none⟩ = some (.int .u64 ad) ∧ X.cell? ⟨w4.heap.size, 3, none⟩ = some (.string sx) := fun X hX => ⟨(hX.cell (p := ⟨w4.heap.size, 1, none⟩) hlA).trans a1, (hX.cell (p := ⟨w4.heap.size, 3, none⟩) hlA).trans a3⟩
        obtain ⟨hw8, hw9⟩ := HI.out ii0 hlt
        obtain ⟨b8, hby⟩ : ∃ b8, sx[ii0] = b8 := ⟨_, rfl⟩
        have HV : Hid (b8 = sl.getD ii0 0) := by simp only [Hid]; rw [← hby]; exact HSx.out ii0 hsi
        go_upto_region 18 with fail
        refine wp_region_monoT 6 11 (fun kq uq Xq => match kq with | 65 => uq = .slice (some ⟨g, 0, none⟩) d.length cap6 | 66 => uq = .pointer (some ⟨w4.heap.size, 1, none⟩) | 67 => uq = .int .u64 (ad : Int) | 68 => uq = .int .i64 (ad : Int) | 69 => uq = .int .i64 (ii0 : Int) | 70 => uq = .int .i64 ((ad : Int) + (ii0 : Int)) | 71 => uq = .pointer (some ⟨w4.heap.size, 3, none⟩) | 72 => uq = .string sx | 73 => uq = .int .i64 (ii0 : Int) | 74 => uq = .int .u8 (b8.toNat : Int) | 75 => uq = .pointer (some ⟨g, ad + ii0, none⟩) | _ => True) (by kernel_rfl) (by kernel_rfl) (by kernel_rfl) (by kernel_rfl) (by simp) (by kernel_rfl) ?_ ?_ ?_
        · intro kq v W W' h hb
          revert h
          try dsimp only
          split
          · intro h; exact h
          · intro h; exact h
          · intro h; exact h
          · intro h; exact h
          · intro h; exact h
          · intro h; exact h
          · intro h; exact h
          · intro h; exact h
          · intro h; exact h
          · intro h; exact h
          · intro h; exact h
          · intro h; trivial
        · intro a' X hB hs hk i o d ho hd hG
          match i, ho with
          | 0, ho =>
            obtain rfl : _ = o := Option.some.inj ho
            obtain rfl : 65 = d := Option.some.inj hd
            have g1 : a'.eval (.tmp 1) = .slice (some ⟨g, 0, none⟩) d.length cap6 := hk 1 (by kernel_rfl)
            obtain ⟨ev, hev⟩ : ∃ ev, a'.eval = ev := ⟨_, rfl⟩
            rw [hev] at g1 ⊢
            clear hev hG hk
            obtain ⟨c1, c3⟩ := cW X hB
            clear HF HI HSx
            exact .inr ⟨rfl, .inl ⟨.slice (some ⟨g, 0, none⟩) d.length cap6, X, by clear hs; go_simp, Below.refl _ _, rfl⟩⟩
          | 1, ho =>
            obtain rfl : _ = o := Option.some.inj ho
            obtain rfl : 66 = d := Option.some.inj hd
            have g10 : a'.eval (.tmp 10) = .pointer (some ⟨w4.heap.size, 0, none⟩) := hk 10 (by kernel_rfl)
            obtain ⟨ev, hev⟩ : ∃ ev, a'.eval = ev := ⟨_, rfl⟩
            rw [hev] at g10 ⊢
            clear hev hG hk
            obtain ⟨c1, c3⟩ := cW X hB
            clear HF HI HSx
            exact .inr ⟨rfl, .inl ⟨.pointer (some ⟨w4.heap.size, 1, none⟩), X, by clear hs; go_simp, Below.refl _ _, rfl⟩⟩
          | 2, ho =>
            obtain rfl : _ = o := Option.some.inj ho
            obtain rfl : 67 = d := Option.some.inj hd
            have g66 : a'.eval (.tmp 66) = .pointer (some ⟨w4.heap.size, 1, none⟩) := hG ⟨1, .data⟩ (by simp) rfl 66 rfl
            obtain ⟨ev, hev⟩ : ∃ ev, a'.eval = ev := ⟨_, rfl⟩
            rw [hev] at g66 ⊢
            clear hev hG hk
            obtain ⟨c1, c3⟩ := cW X hB
            clear HF HI HSx
            exact .inr ⟨rfl, .inl ⟨.int .u64 (ad : Int), X, by clear hs; go_simp, Below.refl _ _, rfl⟩⟩
          | 3, ho =>
            obtain rfl : _ = o := Option.some.inj ho
            obtain rfl : 68 = d := Option.some.inj hd
            have g67 : a'.eval (.tmp 67) = .int .u64 (ad : Int) := hG ⟨2, .data⟩ (by simp) rfl 67 rfl
            obtain ⟨ev, hev⟩ : ∃ ev, a'.eval = ev := ⟨_, rfl⟩
            rw [hev] at g67 ⊢
            clear hev hG hk
            obtain ⟨c1, c3⟩ := cW X hB
            clear HF HI HSx
            exact .inr ⟨rfl, .inl ⟨.int .i64 (ad : Int), X, by clear hs; go_simp, Below.refl _ _, rfl⟩⟩
          | 4, ho =>
            obtain rfl : _ = o := Option.some.inj ho
            obtain rfl : 69 = d := Option.some.inj hd
            have g12 : a'.eval (.tmp 12) = .int .i64 ii0 := hk 12 (by kernel_rfl)
            obtain ⟨ev, hev⟩ : ∃ ev, a'.eval = ev := ⟨_, rfl⟩
            rw [hev] at g12 ⊢
            clear hev hG hk
            obtain ⟨c1, c3⟩ := cW X hB
            clear HF HI HSx
            exact .inr ⟨rfl, .inl ⟨.int .i64 (ii0 : Int), X, by clear hs; go_simp, Below.refl _ _, rfl⟩⟩
          | 5, ho =>
            obtain rfl : _ = o := Option.some.inj ho
            obtain rfl : 70 = d := Option.some.inj hd
            have g68 : a'.eval (.tmp 68) = .int .i64 (ad : Int) := hG ⟨3, .data⟩ (by simp) rfl 68 rfl
            have g69 : a'.eval (.tmp 69) = .int .i64 (ii0 : Int) := hG ⟨4, .data⟩ (by simp) rfl 69 rfl
            obtain ⟨ev, hev⟩ : ∃ ev, a'.eval = ev := ⟨_, rfl⟩
            rw [hev] at g68 g69 ⊢
            clear hev hG hk
            obtain ⟨c1, c3⟩ := cW X hB
            clear HF HI HSx
            exact .inr ⟨rfl, .inl ⟨.int .i64 ((ad : Int) + (ii0 : Int)), X, by clear hs; go_simp, Below.refl _ _, rfl⟩⟩
          | 6, ho =>
            obtain rfl : _ = o := Option.some.inj ho
            obtain rfl : 71 = d := Option.some.inj hd
            have g10 : a'.eval (.tmp 10) = .pointer (some ⟨w4.heap.size, 0, none⟩) := hk 10 (by kernel_rfl)
            obtain ⟨ev, hev⟩ : ∃ ev, a'.eval = ev := ⟨_, rfl⟩
            rw [hev] at g10 ⊢
            clear hev hG hk
            obtain ⟨c1, c3⟩ := cW X hB
            clear HF HI HSx
            exact .inr ⟨rfl, .inl ⟨.pointer (some ⟨w4.heap.size, 3, none⟩), X, by clear hs; go_simp, Below.refl _ _, rfl⟩⟩
          | 7, ho =>
            obtain rfl : _ = o := Option.some.inj ho
            obtain rfl : 72 = d := Option.some.inj hd
            have g71 : a'.eval (.tmp 71) = .pointer (some ⟨w4.heap.size, 3, none⟩) := hG ⟨6, .data⟩ (by simp) rfl 71 rfl
            obtain ⟨ev, hev⟩ : ∃ ev, a'.eval = ev := ⟨_, rfl⟩
            rw [hev] at g71 ⊢
            clear hev hG hk
            obtain ⟨c1, c3⟩ := cW X hB
            clear HF HI HSx
            exact .inr ⟨rfl, .inl ⟨.string sx, X, by clear hs; go_simp, Below.refl _ _, rfl⟩⟩
          | 8, ho =>
            obtain rfl : _ = o := Option.some.inj ho
            obtain rfl : 73 = d := Option.some.inj hd
            have g12 : a'.eval (.tmp 12) = .int .i64 ii0 := hk 12 (by kernel_rfl)
            obtain ⟨ev, hev⟩ : ∃ ev, a'.eval = ev := ⟨_, rfl⟩
            rw [hev] at g12 ⊢
            clear hev hG hk
            obtain ⟨c1, c3⟩ := cW X hB
            clear HF HI HSx
            exact .inr ⟨rfl, .inl ⟨.int .i64 (ii0 : Int), X, by clear hs; go_simp, Below.refl _ _, rfl⟩⟩
          | 9, ho =>
            obtain rfl : _ = o := Option.some.inj ho
            obtain rfl : 74 = d := Option.some.inj hd
            have g72 : a'.eval (.tmp 72) = .string sx := hG ⟨7, .data⟩ (by simp) rfl 72 rfl
            have g73 : a'.eval (.tmp 73) = .int .i64 (ii0 : Int) := hG ⟨8, .data⟩ (by simp) rfl 73 rfl
            obtain ⟨ev, hev⟩ : ∃ ev, a'.eval = ev := ⟨_, rfl⟩
            rw [hev] at g72 g73 ⊢
            clear hev hG hk
            obtain ⟨c1, c3⟩ := cW X hB
            clear HF HI HSx
            exact .inr ⟨rfl, .inl ⟨.int .u8 (b8.toNat : Int), X, by clear hs; go_simp, Below.refl _ _, rfl⟩⟩
          | 10, ho =>
            obtain rfl : _ = o := Option.some.inj ho
            obtain rfl : 75 = d := Option.some.inj hd
            have g65 : a'.eval (.tmp 65) = .slice (some ⟨g, 0, none⟩) d.length cap6 := hG ⟨0, .data⟩ (by simp) rfl 65 rfl
            have g70 : a'.eval (.tmp 70) = .int .i64 ((ad : Int) + (ii0 : Int)) := hG ⟨5, .data⟩ (by simp) rfl 70 rfl
            obtain ⟨ev, hev⟩ : ∃ ev, a'.eval = ev := ⟨_, rfl⟩
            rw [hev] at g65 g70 ⊢
            clear hev hG hk
            obtain ⟨c1, c3⟩ := cW X hB
            clear HF HI HSx
            exact .inr ⟨rfl, .inl ⟨.pointer (some ⟨g, ad + ii0, none⟩), X, by clear hs; go_simp, Below.refl _ _, rfl⟩⟩
          | j + 11, ho => simp at ho
        · intro a' X hB hs hdf hk hG
          obtain ⟨tm, df⟩ := a'
          obtain rfl : df = [] := hdf
          have e0 : tm.getD 0 undef = .agg cs := hk 0 (by kernel_rfl)
          have e1 : tm.getD 1 undef = .slice (some ⟨g, 0, none⟩) d.length cap6 := hk 1 (by kernel_rfl)
          have e2 : tm.getD 2 undef = .pointer (some ⟨w.heap.size, 0, none⟩) := hk 2 (by kernel_rfl)
          have e3 : tm.getD 3 undef = undef := hk 3 (by kernel_rfl)
          have e4 : tm.getD 4 undef = .pointer (some ⟨w.heap.size + 1, 0, none⟩) := hk 4 (by kernel_rfl)
          have e5 : tm.getD 5 undef = .slice none 0 0 := hk 5 (by kernel_rfl)
          have e6 : tm.getD 6 undef = .int .i64 0 := hk 6 (by kernel_rfl)
          have e7 : tm.getD 7 undef = .string sb := hk 7 (by kernel_rfl)
          have e8 : tm.getD 8 undef = .bool true := hk 8 (by kernel_rfl)
          have e9 : tm.getD 9 undef = .pointer (some ⟨w2.heap.size, 0, none⟩) := hk 9 (by kernel_rfl)
          have e10 : tm.getD 10 undef = .pointer (some ⟨w4.heap.size, 0, none⟩) := hk 10 (by kernel_rfl)
          have e11 : tm.getD 11 undef = .string sy := hk 11 (by kernel_rfl)
          have e12 : tm.getD 12 undef = .int .i64 ii0 := hk 12 (by kernel_rfl)
          have e13 : tm.getD 13 undef = undef := hk 13 (by kernel_rfl)
          have e14 : tm.getD 14 undef = undef := hk 14 (by kernel_rfl)
          have e15 : tm.getD 15 undef = .tuple #[.string sb, .bool true] := hk 15 (by kernel_rfl)
          have e16 : tm.getD 16 undef = .slice (some { block := B, off := off }) d.length cap := hk 16 (by kernel_rfl)
          have e17 : tm.getD 17 undef = .pointer (some ⟨w.heap.size, 16, none⟩) := hk 17 (by kernel_rfl)
          have e18 : tm.getD 18 undef = .int .u64 pc := hk 18 (by kernel_rfl)
          have e19 : tm.getD 19 undef = .tuple #[.string sb, .bool true] := hk 19 (by kernel_rfl)
          have e20 : tm.getD 20 undef = .string sb := hk 20 (by kernel_rfl)
          have e21 : tm.getD 21 undef = .bool true := hk 21 (by kernel_rfl)
          have e22 : tm.getD 22 undef = .bool true := hk 22 (by kernel_rfl)
          have e23 : tm.getD 23 undef = .bool false := hk 23 (by kernel_rfl)
          have e24 : tm.getD 24 undef = undef := hk 24 (by kernel_rfl)
          have e25 : tm.getD 25 undef = undef := hk 25 (by kernel_rfl)
          have e26 : tm.getD 26 undef = .tuple #[.agg #[.int .i64 c.op, .int .i64 a, .int .i64 b, .int .i64 z, .int .i64 c.n], .bool true] := hk 26 (by kernel_rfl)
          have e27 : tm.getD 27 undef = .string sb := hk 27 (by kernel_rfl)
          have e28 : tm.getD 28 undef = .tuple #[.agg #[.int .i64 c.op, .int .i64 a, .int .i64 b, .int .i64 z, .int .i64 c.n], .bool true] := hk 28 (by kernel_rfl)
          have e29 : tm.getD 29 undef = .agg #[.int .i64 c.op, .int .i64 a, .int .i64 b, .int .i64 z, .int .i64 c.n] := hk 29 (by kernel_rfl)
          have e30 : tm.getD 30 undef = .bool true := hk 30 (by kernel_rfl)
          have e31 : tm.getD 31 undef = .bool true := hk 31 (by kernel_rfl)
          have e32 : tm.getD 32 undef = .bool false := hk 32 (by kernel_rfl)
          have e33 : tm.getD 33 undef = undef := hk 33 (by kernel_rfl)
          have e34 : tm.getD 34 undef = undef := hk 34 (by kernel_rfl)
          have e35 : tm.getD 35 undef = .agg cs := hk 35 (by kernel_rfl)
          have e36 : tm.getD 36 undef = .agg #[.int .i64 c.op, .int .i64 a, .int .i64 b, .int .i64 z, .int .i64 c.n] := hk 36 (by kernel_rfl)
          have e37 : tm.getD 37 undef = .agg #[.bool true, .int .u64 ad, .int .i64 k, .string sx] := hk 37 (by kernel_rfl)
          have e38 : tm.getD 38 undef = .pointer (some ⟨w4.heap.size, 2, none⟩) := hk 38 (by kernel_rfl)
          have e39 : tm.getD 39 undef = .int .i64 k := hk 39 (by kernel_rfl)
          have e40 : tm.getD 40 undef = .bool true := hk 40 (by kernel_rfl)
          have e41 : tm.getD 41 undef = .tuple #[.string sy, .bool true] := hk 41 (by kernel_rfl)
          have e42 : tm.getD 42 undef = .slice (some { block := B, off := off }) d.length cap := hk 42 (by kernel_rfl)
          have e43 : tm.getD 43 undef = .pointer (some ⟨w4.heap.size, 1, none⟩) := hk 43 (by kernel_rfl)
          have e44 : tm.getD 44 undef = .int .u64 ad := hk 44 (by kernel_rfl)
          have e45 : tm.getD 45 undef = .pointer (some ⟨w4.heap.size, 2, none⟩) := hk 45 (by kernel_rfl)
          have e46 : tm.getD 46 undef = .int .i64 k := hk 46 (by kernel_rfl)
          have e47 : tm.getD 47 undef = .tuple #[.string sy, .bool true] := hk 47 (by kernel_rfl)
          have e48 : tm.getD 48 undef = .string sy := hk 48 (by kernel_rfl)
          have e49 : tm.getD 49 undef = .bool true := hk 49 (by kernel_rfl)
          have e50 : tm.getD 50 undef = .bool true := hk 50 (by kernel_rfl)
          have e51 : tm.getD 51 undef = .bool false := hk 51 (by kernel_rfl)
          have e52 : tm.getD 52 undef = undef := hk 52 (by kernel_rfl)
          have e53 : tm.getD 53 undef = undef := hk 53 (by kernel_rfl)
          have e54 : tm.getD 54 undef = .pointer (some ⟨w4.heap.size, 0, none⟩) := hk 54 (by kernel_rfl)
          have e55 : tm.getD 55 undef = .bool true := hk 55 (by kernel_rfl)
          have e56 : tm.getD 56 undef = .slice (some ⟨W5.heap.size, 0, none⟩) 0 0 := hk 56 (by kernel_rfl)
          have e57 : tm.getD 57 undef = .slice (some { block := B, off := off }) d.length cap := hk 57 (by kernel_rfl)
          have e58 : tm.getD 58 undef = .slice (some ⟨g, 0, none⟩) d.length cap6 := hk 58 (by kernel_rfl)
          have e59 : tm.getD 59 undef = .int .i64 ii0 := hk 59 (by kernel_rfl)
          have e60 : tm.getD 60 undef = .pointer (some ⟨w4.heap.size, 2, none⟩) := hk 60 (by kernel_rfl)
          have e61 : tm.getD 61 undef = .int .i64 k := hk 61 (by kernel_rfl)
          have e62 : tm.getD 62 undef = .bool true := hk 62 (by kernel_rfl)
          have e63 : tm.getD 63 undef = u63 := hk 63 (by kernel_rfl)
          have e64 : tm.getD 64 undef = u64 := hk 64 (by kernel_rfl)
          have e76 : tm.getD 76 undef = undef := hk 76 (by kernel_rfl)
          have e77 : tm.getD 77 undef = undef := hk 77 (by kernel_rfl)
          have e78 : tm.getD 78 undef = undef := hk 78 (by kernel_rfl)
          have e79 : tm.getD 79 undef = undef := hk 79 (by kernel_rfl)
          have e80 : tm.getD 80 undef = undef := hk 80 (by kernel_rfl)
          have e81 : tm.getD 81 undef = undef := hk 81 (by kernel_rfl)
          have e82 : tm.getD 82 undef = undef := hk 82 (by kernel_rfl)
          have e83 : tm.getD 83 undef = undef := hk 83 (by kernel_rfl)
          have e84 : tm.getD 84 undef = undef := hk 84 (by kernel_rfl)
          have e85 : tm.getD 85 undef = undef := hk 85 (by kernel_rfl)
          have g65 : (tm.getD 65 undef) = .slice (some ⟨g, 0, none⟩) d.length cap6 := hG 0 65 (by decide) rfl
          have g66 : (tm.getD 66 undef) = .pointer (some ⟨w4.heap.size, 1, none⟩) := hG 1 66 (by decide) rfl
          have g67 : (tm.getD 67 undef) = .int .u64 (ad : Int) := hG 2 67 (by decide) rfl
          have g68 : (tm.getD 68 undef) = .int .i64 (ad : Int) := hG 3 68 (by decide) rfl
          have g69 : (tm.getD 69 undef) = .int .i64 (ii0 : Int) := hG 4 69 (by decide) rfl
          have g70 : (tm.getD 70 undef) = .int .i64 ((ad : Int) + (ii0 : Int)) := hG 5 70 (by decide) rfl
          have g71 : (tm.getD 71 undef) = .pointer (some ⟨w4.heap.size, 3, none⟩) := hG 6 71 (by decide) rfl
          have g72 : (tm.getD 72 undef) = .string sx := hG 7 72 (by decide) rfl
          have g73 : (tm.getD 73 undef) = .int .i64 (ii0 : Int) := hG 8 73 (by decide) rfl
          have g74 : (tm.getD 74 undef) = .int .u8 (b8.toNat : Int) := hG 9 74 (by decide) rfl
          have g75 : (tm.getD 75 undef) = .pointer (some ⟨g, ad + ii0, none⟩) := hG 10 75 (by decide) rfl
          have htm := arr_of tm ((.agg cs : Value) :: (.slice (some ⟨g, 0, none⟩) d.length cap6 : Value) :: (.pointer (some ⟨w.heap.size, 0, none⟩) : Value) :: (undef : Value) :: (.pointer (some ⟨w.heap.size + 1, 0, none⟩) : Value) :: (.slice none 0 0 : Value) :: (.int .i64 0 : Value) :: (.string sb : Value) :: (.bool true : Value) :: (.pointer (some ⟨w2.heap.size, 0, none⟩) : Value) :: (.pointer (some ⟨w4.heap.size, 0, none⟩) : Value) :: (.string sy : Value) :: (.int .i64 ii0 : Value) :: (undef : Value) :: (undef : Value) :: (.tuple #[.string sb, .bool true] : Value) :: (.slice (some { block := B, off := off }) d.length cap : Value) :: (.pointer (some ⟨w.heap.size, 16, none⟩) : Value) :: (.int .u64 pc : Value) :: (.tuple #[.string sb, .bool true] : Value) :: (.string sb : Value) :: (.bool true : Value) :: (.bool true : Value) :: (.bool false : Value) :: (undef : Value) :: (undef : Value) :: (.tuple #[.agg #[.int .i64 c.op, .int .i64 a, .int .i64 b, .int .i64 z, .int .i64 c.n], .bool true] : Value) :: (.string sb : Value) :: (.tuple #[.agg #[.int .i64 c.op, .int .i64 a, .int .i64 b, .int .i64 z, .int .i64 c.n], .bool true] : Value) :: (.agg #[.int .i64 c.op, .int .i64 a, .int .i64 b, .int .i64 z, .int .i64 c.n] : Value) :: (.bool true : Value) :: (.bool true : Value) :: (.bool false : Value) :: (undef : Value) :: (undef : Value) :: (.agg cs : Value) :: (.agg #[.int .i64 c.op, .int .i64 a, .int .i64 b, .int .i64 z, .int .i64 c.n] : Value) :: (.agg #[.bool true, .int .u64 ad, .int .i64 k, .string sx] : Value) :: (.pointer (some ⟨w4.heap.size, 2, none⟩) : Value) :: (.int .i64 k : Value) :: (.bool true : Value) :: (.tuple #[.string sy, .bool true] : Value) :: (.slice (some { block := B, off := off }) d.length cap : Value) :: (.pointer (some ⟨w4.heap.size, 1, none⟩) : Value) :: (.int .u64 ad : Value) :: (.pointer (some ⟨w4.heap.size, 2, none⟩) : Value) :: (.int .i64 k : Value) :: (.tuple #[.string sy, .bool true] : Value) :: (.string sy : Value) :: (.bool true : Value) :: (.bool true : Value) :: (.bool false : Value) :: (undef : Value) :: (undef : Value) :: (.pointer (some ⟨w4.heap.size, 0, none⟩) : Value) :: (.bool true : Value) :: (.slice (some ⟨W5.heap.size, 0, none⟩) 0 0 : Value) :: (.slice (some { block := B, off := off }) d.length cap : Value) :: (.slice (some ⟨g, 0, none⟩) d.length cap6 : Value) :: (.int .i64 ii0 : Value) :: (.pointer (some ⟨w4.heap.size, 2, none⟩) : Value) :: (.int .i64 k : Value) :: (.bool true : Value) :: (u63 : Value) :: (u64 : Value) :: (tm.getD 65 undef : Value) :: (tm.getD 66 undef : Value) :: (tm.getD 67 undef : Value) :: (tm.getD 68 undef : Value) :: (tm.getD 69 undef : Value) :: (tm.getD 70 undef : Value) :: (tm.getD 71 undef : Value) :: (tm.getD 72 undef : Value) :: (tm.getD 73 undef : Value) :: (tm.getD 74 undef : Value) :: (tm.getD 75 undef : Value) :: (undef : Value) :: (undef : Value) :: (undef : Value) :: (undef : Value) :: (undef : Value) :: (undef : Value) :: (undef : Value) :: (undef : Value) :: (undef : Value) :: (undef : Value) :: []) hs (by show (tm.getD 0 undef :: tm.getD 1 undef :: tm.getD 2 undef :: tm.getD 3 undef :: tm.getD 4 undef :: tm.getD 5 undef :: tm.getD 6 undef :: tm.getD 7 undef :: tm.getD 8 undef :: tm.getD 9 undef :: tm.getD 10 undef :: tm.getD 11 undef :: tm.getD 12 undef :: tm.getD 13 undef :: tm.getD 14 undef :: tm.getD 15 undef :: tm.getD 16 undef :: tm.getD 17 undef :: tm.getD 18 undef :: tm.getD 19 undef :: tm.getD 20 undef :: tm.getD 21 undef :: tm.getD 22 undef :: tm.getD 23 undef :: tm.getD 24 undef :: tm.getD 25 undef :: tm.getD 26 undef :: tm.getD 27 undef :: tm.getD 28 undef :: tm.getD 29 undef :: tm.getD 30 undef :: tm.getD 31 undef :: tm.getD 32 undef :: tm.getD 33 undef :: tm.getD 34 undef :: tm.getD 35 undef :: tm.getD 36 undef :: tm.getD 37 undef :: tm.getD 38 undef :: tm.getD 39 undef :: tm.getD 40 undef :: tm.getD 41 undef :: tm.getD 42 undef :: tm.getD 43 undef :: tm.getD 44 undef :: tm.getD 45 undef :: tm.getD 46 undef :: tm.getD 47 undef :: tm.getD 48 undef :: tm.getD 49 undef :: tm.getD 50 undef :: tm.getD 51 undef :: tm.getD 52 undef :: tm.getD 53 undef :: tm.getD 54 undef :: tm.getD 55 undef :: tm.getD 56 undef :: tm.getD 57 undef :: tm.getD 58 undef :: tm.getD 59 undef :: tm.getD 60 undef :: tm.getD 61 undef :: tm.getD 62 undef :: tm.getD 63 undef :: tm.getD 64 undef :: tm.getD 65 undef :: tm.getD 66 undef :: tm.getD 67 undef :: tm.getD 68 undef :: tm.getD 69 undef :: tm.getD 70 undef :: tm.getD 71 undef :: tm.getD 72 undef :: tm.getD 73 undef :: tm.getD 74 undef :: tm.getD 75 undef :: tm.getD 76 undef :: tm.getD 77 undef :: tm.getD 78 undef :: tm.getD 79 undef :: tm.getD 80 undef :: tm.getD 81 undef :: tm.getD 82 undef :: tm.getD 83 undef :: tm.getD 84 undef :: tm.getD 85 undef :: []) = _; rw [e0, e1, e2, e3, e4, e5, e6, e7, e8, e9, e10, e11, e12, e13, e14, e15, e16, e17, e18, e19, e20, e21, e22, e23, e24, e25, e26, e27, e28, e29, e30, e31, e32, e33, e34, e35, e36, e37, e38, e39, e40, e41, e42, e43, e44, e45, e46, e47, e48, e49, e50, e51, e52, e53, e54, e55, e56, e57, e58, e59, e60, e61, e62, e63, e64, e76, e77, e78, e79, e80, e81, e82, e83, e84, e85]; try rfl)
          clear hs hk hG e0 e1 e2 e3 e4 e5 e6 e7 e8 e9 e10 e11 e12 e13 e14 e15 e16 e17 e18 e19 e20 e21 e22 e23 e24 e25 e26 e27 e28 e29 e30 e31 e32 e33 e34 e35 e36 e37 e38 e39 e40 e41 e42 e43 e44 e45 e46 e47 e48 e49 e50 e51 e52 e53 e54 e55 e56 e57 e58 e59 e60 e61 e62 e63 e64 e76 e77 e78 e79 e80 e81 e82 e83 e84 e85
          generalize tm.getD 65 undef = t65 at htm g65
          generalize tm.getD 66 undef = t66 at htm g66
          generalize tm.getD 67 undef = t67 at htm g67
          generalize tm.getD 68 undef = t68 at htm g68
          generalize tm.getD 69 undef = t69 at htm g69
          generalize tm.getD 70 undef = t70 at htm g70
          generalize tm.getD 71 undef = t71 at htm g71
          generalize tm.getD 72 undef = t72 at htm g72
          generalize tm.getD 73 undef = t73 at htm g73
          generalize tm.getD 74 undef = t74 at htm g74
          generalize tm.getD 75 undef = t75 at htm g75
          subst htm
          subst g65
          subst g66
          subst g67
          subst g68
          subst g69
          subst g70
          subst g71
          subst g72
          subst g73
          subst g74
          subst g75
          simp only [List.drop_succ_cons, List.drop_zero]
          have hg7 := (hB.block _ (Array.getElem?_eq_some_iff.1 HGi.out).1).trans HGi.out
          have hcc : ad + ii0 < cu.size := ixc HF hlt hcu hnc
          obtain ⟨old, cc⟩ : ∃ old, X.cell? ⟨g, ad + ii0, none⟩ = some old := ⟨cu[ad + ii0], by simp [World.cell?, hg7, hcc]⟩
          have cz : X.frozen? ⟨g, ad + ii0, none⟩ = false := by simp [World.frozen?, hg7]
          have hw1 : wrap64 ((ii0 : Int) + 1) = (ii0 : Int) + 1 := wi1 hik hk88
          have HB7 := Lib.hid hB
          have HG7 := Lib.hid hg7
          have HF' := HF
          clear hB hg7 la lb lz hca hcb hcz hl3 hkk hads hdl hcm hix hix0 hixn hw8 hw9 hsii hkpos HF HI HSx
          go_wp2_with fail
          obtain ⟨cu', q1, q2, q3⟩ := st_row HG7.out HTi.out (by rw [hsl]; exact hlt) (by rw [hsl]; exact hyes) HV.out
          refine ⟨⟨ii0 + 1, cu', by rw [hw1]; rfl, hi1, q1, q2.trans hcu, q3, (HBi.out.trans (HB7.out.mono HBi.out.size)).setCell (p := ⟨g, ad + ii0, none⟩) hbg _⟩, ?_⟩
          rw [hw1]
          exact ms_step hlt
      · obtain rfl : ii0 = k := Nat.le_antisymm hik (Nat.le_of_not_lt hlt)
        have hii : ¬ (ii0 : Int) < (ii0 : Int) := Int.lt_irrefl _
        have hfin := fin_mem (e := over d ad (sl.take ii0)) HGi.out hnc HTi.out (over_len _ _ _)
        rw [List.take_of_length_le (by omega)] at hfin
        have HFm := Lib.hid hfin
        clear hfin HF HI HSx hads hdl hcm
        go_wp2_with fail
        go_meet
        exact ⟨g, cap6, rfl, hbg, HFm.out, HBi.out⟩
  case rest =>
    rename World => wC
    obtain ⟨g, cap6, hv1, hgb, hmem, hbx⟩ := hcut
    subst hv1
    have hBc : Below W.heap.size W wC := HBa.out.trans (hbx.mono HBa.out.size)
    have e0 := (hbx.block _ (Array.getElem?_eq_some_iff.1 e0).1).trans e0
    have kc := (hbx.block _ (Array.getElem?_eq_some_iff.1 kc).1).trans kc
    have y0 : wC.cell? ⟨w2.heap.size, 0, none⟩ = some (.int .i64 c.op) := by simp [World.cell?, kc]
    have y1 : wC.cell? ⟨w2.heap.size, 1, none⟩ = some (.int .i64 a) := by simp [World.cell?, kc]
    have y2 : wC.cell? ⟨w2.heap.size, 2, none⟩ = some (.int .i64 b) := by simp [World.cell?, kc]
    have y3 : wC.cell? ⟨w2.heap.size, 3, none⟩ = some (.int .i64 z) := by simp [World.cell?, kc]
    have y4 : wC.cell? ⟨w2.heap.size, 4, none⟩ = some (.int .i64 c.n) := by simp [World.cell?, kc]
    have HDo5 := HDo'.out wC sy
    obtain ⟨out3, ho3⟩ : ∃ o3 : List Int × Int × Int, (rr, pp, ww) = o3 := ⟨_, rfl⟩
    obtain ⟨rfl, rfl, rfl⟩ : rr = out3.1 ∧ pp = out3.2.1 ∧ ww = out3.2.2 := by rw [← ho3]; exact ⟨rfl, rfl, rfl⟩
    clear ho3
    obtain ⟨r', pc', what⟩ := out3
    simp only at HDo5 hok'
    have cmz : (Try.prog.info? 25).map (·.size) = some (stC r' pc').toArray.size := by rw [stC_size hok'.1]; exact stInfo
    have cmo := stC_one r' pc'
    have cmq : Hid ((stC r' pc').toArray.size = 17) := stC_size hok'.1
    have HDo6 : Hid (Calls Try.prog 24 #[.agg cs, .agg #[.int .i64 c.op, .int .i64 a, .int .i64 b, .int .i64 z, .int .i64 c.n], .string sy] wC fun e w' => e = .returned (.tuple #[.agg (stC r' pc').toArray, .int .i64 what]) ∧ Below wC.heap.size wC w') := HDo5
    obtain ⟨cm, cmE⟩ : ∃ c', (stC r' pc').toArray = c' := ⟨_, rfl⟩
    rw [cmE] at cmz cmo cmq HDo6
    have HM := Lib.hid hmem
    have HBc := Lib.hid hBc
    clear HDo5 hmem hbx hBc a0 a1 a2 a3 hyes hk88 hkk hkpos hsz8
    go_wp2_with (first
      | (refine wpList_load_row rfl 25 _ rfl w.heap.size rfl 25 _ (0, 0) _ e0 Try.underlying25 rfl hsz ?_)
      | (go_at_call 24; refine HDo6.out.mono ?_; rintro e w6 ⟨rfl, hB6⟩; refine Hid.out ?_))
    refine Lib.hid ?_
    obtain ⟨W7, hW7, n7, hb7⟩ := state_laid w6 cm
    have hn6 := heap_new w6 (.cells #[.int .u64 0, .int .u64 0, .int .u64 0, .int .u64 0, .int .u64 0, .int .u64 0, .int .u64 0, .int .u64 0, .int .u64 0, .int .u64 0, .int .u64 0, .int .u64 0, .int .u64 0, .int .u64 0, .int .u64 0, .int .u64 0, .int .u64 0] 25)
    have HW7 := Lib.hid hW7
    have hB7 := HBc.out.trans ((hB6.trans (hb7.mono hB6.size)).mono HBc.out.size)
    have g1 := (hB7.block _ hl1).trans b1
    have q7 := hbW.trans (hB7.mono hbW.size)
    have m7 := HM.out.below (hB6.trans (hb7.mono hB6.size))
    have HNg : Hid (∀ B' off', over d ad sl ≠ [] → (∃ len cap, Value.slice (some ⟨g, 0, none⟩) d.length cap6 = .slice (some ⟨B', off', none⟩) len cap) → B' ≠ w.heap.size + 1) := fun B' off' _ ⟨len, cap, he⟩ => by
      injection he with he1; injection he1 with he2; injection he2 with he3
      have := HBa.out.size
      omega
    clear hW7 hB6 hb7
    go_wp2_with (first
      | (refine wpList_store_row rfl 25 _ _ rfl w6.heap.size cm rfl rfl 25 _ hn6 cmz (by rw [cmq.out]; rfl) cmo ?_; rw [HW7.out])
      | (refine wpList_load_row rfl 25 _ rfl w6.heap.size rfl 25 _ (0, 0) _ n7 Try.underlying25 rfl cmz ?_)
      | (refine wpList_store_row rfl 25 _ _ rfl (w.heap.size + 1) cm rfl rfl 25 _ g1 cmz (by rw [cmq.out]; rfl) cmo ?_))
    refine bodyPost_ret (results_rstep _ _ (w.heap.size + 1) cm (.slice (some ⟨g, 0, none⟩) d.length cap6) (.int .i64 what) rfl (heap_setRow _ _ _ _ _ g1) cmq.out rfl rfl) rfl ⟨_, ?_, memAt_setRow m7 HNg.out cm, below_setRow q7 (by omega) cm⟩
    rw [cmE]
end Go.Proofs.Ytbccckjkmlmhhaa
