/- What Parse of package isa answers, for every string. -/
import Derived.Test.YtgldkmabhmlijaaDoorPNum
import Derived.Test.YtgldkmabhmlijaaDoorTail
namespace Go.Proofs.YtgldkmabhmlijaaDoor
open Go.RowKit Go.Sort
def spB (s : ByteArray) : List ByteArray := Lib.splitB ⟨#[32]⟩ 0 (min 4 (s.size + 1) - 1) s
def pcK (ps : List ByteArray) (h : Nat) : Nat → Cod
  | 0 => ⟨opN (ps.getD 0 ⟨#[]⟩).data.toList, 0, 0, 0, 0⟩
  | k + 1 => if k + 1 < ps.length then wth (pcK ps h k) (wd h k) (numL (ps.getD (k + 1) ⟨#[]⟩).data.toList) else pcK ps h k
/-- What Parse reads of a text, right or not. -/
def pcS (s : ByteArray) : Cod := pcK (spB s) (sh (opN ((spB s).getD 0 ⟨#[]⟩).data.toList)) 3
def parC (s : ByteArray) : Option Cod := if rightC (pcS s) = true ∧ textC (pcS s) = s.data.toList then some (pcS s) else none
def parE (o : Option Cod) : Int := if o.isSome then 0 else 2
theorem spB_len (s : ByteArray) : 1 ≤ (spB s).length ∧ (spB s).length ≤ 4 := by
  have := Lib.splitB_length_le ⟨#[32]⟩ 0 (min 4 (s.size + 1) - 1) s
  refine ⟨?_, by unfold spB; omega⟩
  unfold spB
  generalize min 4 (s.size + 1) - 1 = k
  cases k with
  | zero => simp [Lib.splitB]
  | succ k => rw [Lib.splitB]; split <;> simp
theorem splitB_sizes (sep : ByteArray) : ∀ (k : Nat) (s : ByteArray), ∀ x ∈ Lib.splitB sep 0 k s, x.size ≤ s.size
  | 0, s, x, hx => by simp [Lib.splitB] at hx; rw [hx]; exact Nat.le_refl _
  | k + 1, s, x, hx => by
    rw [Lib.splitB] at hx
    split at hx
    · simp at hx; rw [hx]; exact Nat.le_refl _
    · rcases List.mem_cons.1 hx with rfl | hx
      · rw [ByteArray.size_extract]; omega
      · have := splitB_sizes sep k _ x hx
        rw [ByteArray.size_extract] at this; omega
set_option maxRecDepth 100000 in
set_option maxHeartbeats 4000000 in
theorem Parse_any (s : ByteArray) (w : World) (hE : Env w) (hs : s.size < 4294967281) : Calls Tryd.prog 45 #[.string s] w fun e w' => e = .returned (.tuple #[((parC s).getD c0).v, .int .i64 (parE (parC s))]) ∧ Below w.heap.size w w' := by
  have hlen := spB_len s
  have hbA : Below w.heap.size w (w.alloc (.cells #[.int .i64 0, .int .i64 0, .int .i64 0, .int .i64 0, .int .i64 0] 25)) := (Below.refl _ _).alloc (Nat.le_refl _) _
  obtain ⟨m, hm⟩ := (hE.below hbA).ml
  have hSp := Tryd.strings_SplitN s ⟨#[32]⟩ 4 m _ hs hm (by decide) (by decide) (by decide)
  have hsz : ∀ j, ((spB s).getD j ⟨#[]⟩).size ≤ s.size := fun j => by
    by_cases h : j < (spB s).length
    · rw [List.getD_eq_getElem?_getD, List.getElem?_eq_getElem h]
      exact splitB_sizes _ _ _ _ (List.getElem_mem h)
    · rw [List.getD_eq_getElem?_getD, List.getElem?_eq_none (by omega)]; exact Nat.zero_le _
  rw [World.size_alloc] at hSp
  have HPS : Hid (pcS s = pcK (spB s) (sh (opN ((spB s).getD 0 ⟨#[]⟩).data.toList)) 3) := rfl
  have HPC : Hid (parC s = if rightC (pcS s) = true ∧ textC (pcS s) = s.data.toList then some (pcS s) else none) := rfl
  have hN : (spB s).length ≤ min 4 (s.size + 1) := by
    have := Lib.splitB_length_le ⟨#[32]⟩ 0 (min 4 (s.size + 1) - 1) s
    unfold spB; omega
  change Calls _ _ _ _ (fun e w' => e = .returned (.slice (some ⟨w.heap.size + 1, 0, none⟩) (spB s).length (min 4 (s.size + 1))) ∧ w' = (w.alloc (.cells #[.int .i64 0, .int .i64 0, .int .i64 0, .int .i64 0, .int .i64 0] 25)).alloc (.cells (Lib.cellsOf (spB s) (min 4 (s.size + 1))) 9)) at hSp
  generalize spB s = ps at *
  generalize min 4 (s.size + 1) = N at *
  have hcells : ∀ j, j < ps.length → (Lib.cellsOf ps N)[j]? = some (.string (ps.getD j ⟨#[]⟩)) := fun j hj => by
    simp only [Lib.cellsOf, List.getElem?_toArray]
    rw [List.getElem?_append_left (by simpa using hj), List.getElem?_map, List.getD_eq_getElem?_getD, List.getElem?_eq_getElem hj]; rfl
  go_enter Tryd.func45, Tryd.ntmps45
  go_wp2_with (first | (go_at_call 50; refine hSp.mono ?_; rintro e w1 ⟨rfl, hw1⟩; have HW1 := Lib.hid hw1; clear hw1; refine Hid.out ?_))
  refine Lib.hid ?_
  have hw1 := HW1.out
  have hb1 : Below w.heap.size w w1 := by rw [hw1]; exact hbA.alloc (by simp) _
  have hz1 : w1.heap.size = w.heap.size + 2 := by rw [hw1]; simp
  have hP1 : ∀ j, j < ps.length → w1.cell? ⟨w.heap.size + 1, j, none⟩ = some (.string (ps.getD j ⟨#[]⟩)) := fun j hj => by
    have e := World.cell?_alloc_new (w.alloc (.cells #[.int .i64 0, .int .i64 0, .int .i64 0, .int .i64 0, .int .i64 0] 25)) (Lib.cellsOf ps N) 9 j
    rw [World.size_alloc] at e
    rw [hw1, e]; exact hcells j hj
  have hR1 : At5 w1 w.heap.size c0 := by rw [hw1]; exact (At5.new w c0 _).below ((Below.refl _ _).alloc (Nat.le_refl _) _) (by simp)
  clear hw1 HW1 hSp hcells
  have hE1 := hE.below hb1
  have p0 := hP1 0 (by omega)
  have h0i : (0 : Int) < (ps.length : Int) := by omega
  have HP1 := Lib.hid hP1
  have HR1 := Lib.hid hR1
  clear hP1 hR1
  obtain ⟨o, ho⟩ : ∃ o, o = opN (ps.getD 0 ⟨#[]⟩).data.toList := ⟨_, rfl⟩
  have HOp : Hid (∀ W, Env W → Calls Tryd.prog 51 #[.string (ps.getD 0 ⟨#[]⟩)] W fun e w' => e = .returned (.int .i64 o) ∧ Below W.heap.size W w') := fun W hW => by rw [ho]; exact opOf_any _ W hW
  have HK0 : Hid (pcK ps (sh o) 0 = ⟨o, 0, 0, 0, 0⟩) := by rw [ho]; rfl
  rw [← ho] at HPS
  clear ho
  obtain ⟨h, hh⟩ : ∃ h, h = sh o := ⟨_, rfl⟩
  have HS := Lib.hid (shapeOf_any o)
  rw [← hh] at HS HPS HK0
  clear hh
  generalize hq0 : ps.getD 0 ⟨#[]⟩ = q0 at p0 HOp
  clear hq0
  go_wp2_with (first | (go_at_call 51; refine (HOp.out _ hE1).mono ?_; rintro e w2 ⟨rfl, hb2⟩; refine Hid.out ?_))
  refine Lib.hid ?_
  go_wp2_with (first | (go_at_call 14; refine (HS.out _).mono ?_; rintro e w3 ⟨rfl, hb3⟩; refine Hid.out ?_))
  refine Lib.hid ?_
  have hz2 := hb2.size
  have hz3 : w2.heap.size + 1 ≤ w3.heap.size := by have := hb3.size; simpa using this
  have hbC : Below w2.heap.size w2 w3 := ((Below.refl _ w2).alloc (Nat.le_refl _) _).trans (hb3.mono (by simp))
  have hC3 : At5 w3 w2.heap.size (pcK ps h 0) := by rw [HK0.out]; exact (At5.new w2 ⟨o, 0, 0, 0, 0⟩ _).below hb3 (by simp)
  have hB2 : Below w.heap.size w w2 := hb1.trans (hb2.mono (by omega))
  have hE2 := hE1.below hb2
  clear hb3 p0
  go_wp2_with fail
  go_loopw [20] (fun i wr => ∃ k : Nat, k ≤ 3 ∧ i = .int .i64 k ∧ At5 wr w2.heap.size (pcK ps h k) ∧ Below w2.heap.size w2 wr) (fun i _ => 3 - (intOf i).toNat)
  case atStart => exact ⟨0, by omega, rfl, hC3, hbC⟩
  case round =>
    clear hC3 hbC
    obtain ⟨k, hk, rfl, hC, hB⟩ := hrel
    have hzB := hB.size
    by_cases hlt : k < 3
    · have hki : (k : Int) < 3 := by omega
      have ik := idx3 h k hlt
      have hl := wd_lim h k
      obtain ⟨c, hc⟩ : ∃ c, c = pcK ps h k := ⟨_, rfl⟩
      rw [← hc] at hC
      by_cases hpl : k + 1 < ps.length
      · have HK : Hid (pcK ps h (k + 1) = wth c (wd h k) (numL (ps.getD (k + 1) ⟨#[]⟩).data.toList)) := by simp only [Hid, pcK]; rw [if_pos hpl, hc]
        have hpi : (k : Int) + 1 < (ps.length : Int) := by omega
        have hk0 : (0 : Int) ≤ (k : Int) + 1 := by omega
        have hkt : ((k : Int) + 1).toNat = k + 1 := by omega
        have hwk : IntKind.i64.wrap ((k : Int) + 1) = (k : Int) + 1 := IntWalk.i64_in _ (by omega)
        have hb1r : Below w1.heap.size w1 wr := hb2.trans (hB.mono (by omega))
        have hpt : wr.cell? ⟨w.heap.size + 1, k + 1, none⟩ = some (.string (ps.getD (k + 1) ⟨#[]⟩)) := (hb1r.cell (p := ⟨w.heap.size + 1, k + 1, none⟩) (by simp; omega)).trans (HP1.out (k + 1) hpl)
        have hps := hsz (k + 1)
        generalize ps.getD (k + 1) ⟨#[]⟩ = q at hpt hps HK
        have HN : Hid (∀ W, Env W → Calls Tryd.prog 52 #[.string q] W fun e w' => e = .returned (.int .i64 (numL q.data.toList)) ∧ Below W.heap.size W w') := fun W hW => number_any q W hW (by omega)
        generalize numL q.data.toList = x at HN HK
        have hEr := hE2.below hB
        have HEr := Lib.hid hEr
        have HC := Lib.hid hC
        obtain ⟨cl, ⟨a0, a1, a2, a3, a4⟩, af⟩ := hC
        have g0 : ∀ n os, (gx wr n os).cell? ⟨w2.heap.size, 0, none⟩ = some (.int .i64 c.op) := cell_gx cl a0
        have g1 : ∀ n os, (gx wr n os).cell? ⟨w2.heap.size, 1, none⟩ = some (.int .i64 c.a) := cell_gx cl a1
        have g2 : ∀ n os, (gx wr n os).cell? ⟨w2.heap.size, 2, none⟩ = some (.int .i64 c.b) := cell_gx cl a2
        have g3 : ∀ n os, (gx wr n os).cell? ⟨w2.heap.size, 3, none⟩ = some (.int .i64 c.c) := cell_gx cl a3
        have g4 : ∀ n os, (gx wr n os).cell? ⟨w2.heap.size, 4, none⟩ = some (.int .i64 c.n) := cell_gx cl a4
        have gp : ∀ n os, (gx wr n os).cell? ⟨w.heap.size + 1, k + 1, none⟩ = some (.string q) := cell_gx (by simp; omega) hpt
        clear hc hpt a0 a1 a2 a3 a4
        go_wp2
        refine wp_region_tail_gx 8 (by kernel_rfl) (by kernel_rfl) ?_
        simp only [List.take_succ_cons, List.take_zero, List.drop_succ_cons, List.drop_zero]
        repeat (quiet_step (first
          | (go_at_call 52; with_reducible exact calls_gx (HN.out _ (HEr.out.below (gx_below _ _ _))))))
        refine wpQuiet_nil ?_
        intro _ hw'
        obtain ⟨⟨nq, osq⟩, hw''⟩ := hw'
        subst hw''
        go_wp2_with (first | (go_at_call 26; refine (with_any c (wd h k) x _ hl).mono ?_; rintro e w4 ⟨rfl, hb4⟩; refine Hid.out ?_))
        refine Lib.hid ?_
        have hgx := gx_below wr nq osq
        have hb4r : Below wr.heap.size wr w4 := hgx.trans (hb4.mono hgx.size)
        have hz4 := hb4r.size
        obtain ⟨dl, ⟨d0, d1, d2, d3, d4⟩, df⟩ := HC.out.below hb4r cl
        clear g0 g1 g2 g3 g4 gp
        unfold Cod.v
        go_wp2
        go_roundw
        case rel =>
          have hd : At5 w4 w2.heap.size c := ⟨dl, ⟨d0, d1, d2, d3, d4⟩, df⟩
          refine ⟨k + 1, by omega, by go_num, by rw [HK.out]; exact hd.set5 _, (hB.trans (hb4r.mono hzB)).trans (set5_below (n := w2.heap.size) _ (Nat.le_refl _))⟩
        case measure => simp [intOf]; omega
      · have HK : Hid (pcK ps h (k + 1) = c) := by simp only [Hid, pcK]; rw [if_neg hpl, hc]
        have hpi : ¬ (k : Int) + 1 < (ps.length : Int) := by omega
        clear hc
        have HC := Lib.hid hC
        clear hC
        go_wp2
        go_roundw
        case rel => exact ⟨k + 1, by omega, by go_num, by rw [HK.out]; exact HC.out, hB⟩
        case measure => simp [intOf]; omega
    · obtain rfl : k = 3 := by omega
      have hEr := hE2.below hB
      rw [← HPS.out] at hC
      generalize pcS s = c at hC HPC
      have hv : c.v = .agg #[.int .i64 c.op, .int .i64 c.a, .int .i64 c.b, .int .i64 c.c, .int .i64 c.n] := rfl
      have hb1r : Below w1.heap.size w1 wr := hb2.trans (hB.mono (by omega))
      have hBr : Below w.heap.size w wr := hb1.trans (hb1r.mono (by omega))
      have HRr := Lib.hid (HR1.out.below hb1r (by omega))
      have HC := Lib.hid hC
      obtain ⟨cl, ⟨a0, a1, a2, a3, a4⟩, af⟩ := hC
      by_cases hr : rightC c = true
      · have hT := Text_yes c wr hEr hr
        rw [hv] at hT
        by_cases ht : textC c = s.data.toList
        · have HD : Hid (parC s = some c) := by simp only [Hid]; rw [HPC.out, if_pos ⟨hr, ht⟩]
          have hbq : ((⟨(textC c).toArray⟩ : ByteArray).toList == s.toList) = true := by rw [toL_beq]; simpa using ht
          generalize (⟨(textC c).toArray⟩ : ByteArray) = tb at hbq hT
          clear hv hr ht
          go_wp2_with (first | (go_at_call 7; refine hT.mono ?_; rintro e w4 ⟨rfl, hb4⟩; refine Hid.out ?_))
          refine Lib.hid ?_
          obtain ⟨el, ⟨e0, e1, e2, e3, e4⟩, ef⟩ := HRr.out.below hb4 (by omega)
          obtain ⟨fl, ⟨f0, f1, f2, f3, f4⟩, ff⟩ := HC.out.below hb4 cl
          go_wp2
          refine bodyPost_ret (v := .tuple #[c.v, .int .i64 0]) (by simp [results, Tryd.results45, go_sem, Cod.v, e0, e1, e2, e3, e4]) rfl ⟨by rw [HD.out]; rfl, ?_⟩
          exact (hBr.trans (hb4.mono hBr.size)).trans (set5_below (n := w.heap.size) _ (Nat.le_refl _))
        · have HD : Hid (parC s = none) := by simp only [Hid]; rw [HPC.out, if_neg (fun h => ht h.2)]
          have hbq : ((⟨(textC c).toArray⟩ : ByteArray).toList == s.toList) = false := by rw [toL_beq]; simpa using ht
          generalize (⟨(textC c).toArray⟩ : ByteArray) = tb at hbq hT
          clear hv hr ht
          go_wp2_with (first | (go_at_call 7; refine hT.mono ?_; rintro e w4 ⟨rfl, hb4⟩; refine Hid.out ?_))
          refine Lib.hid ?_
          obtain ⟨el, ⟨e0, e1, e2, e3, e4⟩, ef⟩ := HRr.out.below hb4 (by omega)
          go_wp2
          refine bodyPost_ret (v := .tuple #[c0.v, .int .i64 2]) (by simp [results, Tryd.results45, go_sem, Cod.v, c0, e0, e1, e2, e3, e4]) rfl ⟨by rw [HD.out]; rfl, ?_⟩
          first | exact hBr.trans (hb4.mono hBr.size) | exact (hBr.trans (hb4.mono hBr.size)).trans (set5_below (n := w.heap.size) c0 (Nat.le_refl _))
      · have hr' : rightC c = false := by simpa using hr
        have hT := Text_no c wr hr'
        rw [hv] at hT
        have HD : Hid (parC s = none) := by simp only [Hid]; rw [HPC.out, if_neg (fun h => hr h.1)]
        clear hv hr hr'
        go_wp2_with (first | (go_at_call 7; refine hT.mono ?_; rintro e w4 ⟨rfl, hb4⟩; refine Hid.out ?_))
        refine Lib.hid ?_
        obtain ⟨el, ⟨e0, e1, e2, e3, e4⟩, ef⟩ := HRr.out.below hb4 (by omega)
        go_wp2
        refine bodyPost_ret (v := .tuple #[c0.v, .int .i64 2]) (by simp [results, Tryd.results45, go_sem, Cod.v, c0, e0, e1, e2, e3, e4]) rfl ⟨by rw [HD.out]; rfl, ?_⟩
        first | exact hBr.trans (hb4.mono hBr.size) | exact (hBr.trans (hb4.mono hBr.size)).trans (set5_below (n := w.heap.size) c0 (Nat.le_refl _))
end Go.Proofs.YtgldkmabhmlijaaDoor
