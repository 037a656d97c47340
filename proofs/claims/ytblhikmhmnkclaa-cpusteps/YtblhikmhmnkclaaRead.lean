/- What Read of package pages answers, for every span. -/
import Derived.Test.YtblhikmhmnkclaaStr
namespace Go.Proofs.Ytblhikmhmnkclaa
open Go.RowKit Go.Lib
variable {K : Nat → Prop}
attribute [local go_sem] Oper.semAt_some
theorem Read_nil (a n : Int) (w : World) : Calls Try.prog 10 #[.pointer none, .int .i64 a, .int .i64 n] w fun e w' => e = .returned (.tuple #[.string ⟨#[]⟩, .int .i64 4]) ∧ Below w.heap.size w w' := by
  refine (callsIn_wide (n := 3)).1 ?_
  have h1 : Fence.wide.fn 10 := trivial
  have h2 : Fence.wide.fn 14 := trivial
  have hro : Fence.wide.round = none := rfl
  refine callsIn_of_wp_marks Try.func10 rfl h1 ?_ hro
  simp only [Try.ntmps10, List.size_toArray, List.length_cons, List.length_nil, Nat.reduceAdd, Nat.reduceSub, Array.replicate_succ, Array.replicate_zero, List.push_toArray, List.append_toArray, List.nil_append, List.cons_append]
  gi_wp2_with (first | (gi_at_call 14; refine (callsIn_wide.2 (check_nil _ _ _)).mono ?_; rintro e w' ⟨rfl, hw'⟩; rw [hw']; clear hw' w'))
  refine ⟨.tuple #[.string ⟨#[]⟩, .int .i64 4], ?_, rfl, (Below.refl _ _).alloc (Nat.le_refl _) _⟩
  simp [results, Try.results10, go_sem]
theorem Read_no (base Bb : Nat) (a n : Int) (d : List UInt8) (ls : List (Nat × Bool)) (w : World) (h : BAt K w base Bb d ls) (ha : a ≤ 9223372036854775807) (hf : fitsB d.length a n = false) :
    Calls Try.prog 10 #[.pointer (some ⟨Bb, 0, none⟩), .int .i64 a, .int .i64 n] w fun e w' => e = .returned (.tuple #[.string ⟨#[]⟩, .int .i64 9]) ∧ Below w.heap.size w w' := by
  have hb : Below w.heap.size w (w.alloc (.cells #[.pointer (some ⟨Bb, 0, none⟩)] 27)) := (Below.refl _ _).alloc (Nat.le_refl _) _
  have HC := Lib.hid (check_any (h.below hb) a n ha)
  rw [hf] at HC
  have HC' : Hid (Calls Try.prog 14 #[.pointer (some ⟨Bb, 0, none⟩), .int .i64 a, .int .i64 n] (w.alloc (.cells #[.pointer (some ⟨Bb, 0, none⟩)] 27)) fun e w' => e = .returned (.int .i64 9) ∧ w' = (w.alloc (.cells #[.pointer (some ⟨Bb, 0, none⟩)] 27))) := HC.out
  clear HC hf h
  refine (callsIn_wide (n := 3)).1 ?_
  have h1 : Fence.wide.fn 10 := trivial
  have h2 : Fence.wide.fn 14 := trivial
  have hro : Fence.wide.round = none := rfl
  refine callsIn_of_wp_marks Try.func10 rfl h1 ?_ hro
  simp only [Try.ntmps10, List.size_toArray, List.length_cons, List.length_nil, Nat.reduceAdd, Nat.reduceSub, Array.replicate_succ, Array.replicate_zero, List.push_toArray, List.append_toArray, List.nil_append, List.cons_append]
  gi_wp2_with (first | (gi_at_call 14; refine (callsIn_wide.2 HC'.out).mono ?_; rintro e w' ⟨rfl, hw'⟩; rw [hw']; clear hw' w'))
  refine ⟨.tuple #[.string ⟨#[]⟩, .int .i64 9], ?_, rfl, hb⟩
  simp [results, Try.results10, go_sem]
/-- What the pieces hold. -/
def rd (e : Nat) (d : List UInt8) (pre : List Nat) : List UInt8 := pre.flatMap fun x => (d.drop x).take (nx e x - x)
theorem rd_snoc (e : Nat) (d : List UInt8) (pre : List Nat) (x : Nat) : rd e d (pre ++ [x]) = rd e d pre ++ (d.drop x).take (nx e x - x) := by unfold rd; rw [List.flatMap_append]; simp
theorem rd_chn : ∀ (k e f : Nat) (d : List UInt8), e - f ≤ k → rd e d (chn k e f) = (d.drop f).take (e - f)
  | 0, e, f, d, hk => by rw [show e - f = 0 from by omega]; simp [chn, rd]
  | k + 1, e, f, d, hk => by
    unfold chn
    split
    · rename_i h
      have h1 := nx_lt h
      have h2 := nx_le e f
      show (d.drop f).take (nx e f - f) ++ rd e d (chn k e (nx e f)) = _
      rw [rd_chn k e (nx e f) d (by omega)]
      have : (d.drop f).take (e - f) = (d.drop f).take ((nx e f - f) + (e - nx e f)) := by congr 1; omega
      rw [this, List.take_add, List.drop_drop, show f + (nx e f - f) = nx e f from by omega]
    · rw [show e - f = 0 from by omega]; simp [rd]
theorem rd_all (a n : Nat) (d : List UInt8) : rd (a + n) d (allPc a (a + n)) = (d.drop a).take n := by
  unfold allPc; rw [rd_chn _ _ _ _ (Nat.le_refl _)]; congr 1; omega
theorem rd_le (e : Nat) (d : List UInt8) (pre : List Nat) : (rd e d pre).length ≤ pre.length * d.length := by
  unfold rd; induction pre with
  | nil => simp
  | cons x l ih => rw [List.flatMap_cons, List.length_append, List.length_cons, Nat.add_mul, List.length_take, List.length_drop]; omega
theorem piece_pad (d : List UInt8) (e x : Nat) (he : e ≤ d.length) (j : Nat) (hj : j < nx e x - x) : (pad d (x / 64))[x % 64 + j]? = ((d.drop x).take (nx e x - x))[j]? := by
  have h64 : x % 64 + j < 64 := by unfold nx at hj; omega
  have hlt : x + j < d.length := by unfold nx at hj; omega
  unfold pad
  rw [List.getElem?_map, List.getElem?_range h64, List.getElem?_take_of_lt hj, List.getElem?_drop]
  show some (d.getD (64 * (x / 64) + (x % 64 + j)) 0) = _
  rw [show 64 * (x / 64) + (x % 64 + j) = x + j from by omega, List.getD_eq_getElem?_getD, List.getElem?_eq_getElem hlt]; rfl
theorem bld_kept {W W' : World} {B b : Nat} {p : Value} {bs : List Value} {row : Option Nat} (h : Lib.BuilderAt 66 5 B b p bs W) (hg : W.grownBy W' row) (hr : ∀ r, row = some r → ∃ o : Obj, W.heap[r]? = some o ∧ o.isCells = false) : Lib.BuilderAt 66 5 B b p bs W' := by
  obtain ⟨hB, v, hv, hrow, hne⟩ := h
  refine ⟨hB, v, block_kept hv hg hr, hrow.kept hg ?_, hne⟩
  rcases hrow.2 with ⟨rfl, _⟩ | ⟨g, cap, cur, rfl, _, hgb, _⟩
  · exact .inl rfl
  · refine .inr fun e => ?_
    obtain ⟨o, ho, hc⟩ := hr g (by rw [← e]; simp [Value.ownBlock])
    rw [hgb] at ho; cases ho; cases hc
theorem bld_below {W W' : World} {B b : Nat} {p : Value} {bs : List Value} (h : Lib.BuilderAt 66 5 B b p bs W) (hb : Below W.heap.size W W') : Lib.BuilderAt 66 5 B b p bs W' :=
  bld_kept h (row := none) ⟨hb.os, hb.tape, hb.output, hb.size, fun k hk _ => hb.block k hk⟩ (fun r e => by cases e)
set_option maxRecDepth 100000 in
set_option maxHeartbeats 1000000 in
theorem Read_any (base Bb a n : Nat) (d : List UInt8) (ls : List (Nat × Bool)) (w : World) (h : BAt K w base Bb d ls) (hf : a + n ≤ d.length) :
    Calls Try.prog 10 #[.pointer (some ⟨Bb, 0, none⟩), .int .i64 a, .int .i64 n] w fun e w' => e = .returned (.tuple #[.string ⟨((d.drop a).take n).toArray⟩, .int .i64 0]) ∧ Below w.heap.size w w' := by
  have hlen := h.len
  have hb : Below w.heap.size w (w.alloc (.cells #[.pointer (some ⟨Bb, 0, none⟩)] 27)) := (Below.refl _ _).alloc (Nat.le_refl _) _
  have HC : Hid (Calls Try.prog 14 #[.pointer (some ⟨Bb, 0, none⟩), .int .i64 a, .int .i64 n] (w.alloc (.cells #[.pointer (some ⟨Bb, 0, none⟩)] 27)) fun e w' => e = .returned (.int .i64 0) ∧ w' = (w.alloc (.cells #[.pointer (some ⟨Bb, 0, none⟩)] 27))) := by
    have := check_any (h.below hb) (a : Int) (n : Int) (by omega)
    rw [show fitsB d.length (a : Int) (n : Int) = true from by simp [fitsB]; omega] at this
    exact this
  obtain ⟨W1, hW1⟩ : ∃ W1, (w.alloc (.cells #[.pointer (some ⟨Bb, 0, none⟩)] 27)).alloc (.cells #[.pointer none, .slice none 0 0] 66) = W1 := ⟨_, rfl⟩
  have hs1 : W1.heap.size = w.heap.size + 2 := by rw [← hW1]; simp
  have hB1 : Below w.heap.size w W1 := by rw [← hW1]; go_grown
  have hbk1 : W1.heap[w.heap.size + 1]? = some (.cells #[.pointer none, .slice none 0 0] 66 (0, 0)) := by
    rw [← hW1]
    have := heap_new (w.alloc (.cells #[.pointer (some ⟨Bb, 0, none⟩)] 27)) (.cells #[.pointer none, .slice none 0 0] 66)
    simpa using this
  have hq1 : W1.heap[w.heap.size]? = some (.cells #[.pointer (some ⟨Bb, 0, none⟩)] 27 (0, 0)) := by
    rw [← hW1, Below.heap_alloc _ _ _ (by simp)]; exact heap_new _ _
  have HG := Lib.hid (Try.Builder_Grow_fresh (w.heap.size + 1) (w.heap.size + 1) n W1 (Nat.le_refl _) hbk1 (by omega) (by omega))
  have HH := Lib.hid h
  clear h
  refine (callsIn_wide (n := 3)).1 ?_
  have h1 : Fence.wide.fn 10 := trivial
  have h2 : Fence.wide.fn 14 := trivial
  have h3 : Fence.wide.fn 35 := trivial
  have h4 : Fence.wide.fn 20 := trivial
  have h5 : Fence.wide.fn 19 := trivial
  have h6 : Fence.wide.fn 21 := trivial
  have h7 : Fence.wide.fn 22 := trivial
  have hro : Fence.wide.round = none := rfl
  refine callsIn_of_wp_marks Try.func10 rfl h1 ?_ hro
  simp only [Try.ntmps10, List.size_toArray, List.length_cons, List.length_nil, Nat.reduceAdd, Nat.reduceSub, Array.replicate_succ, Array.replicate_zero, List.push_toArray, List.append_toArray, List.nil_append, List.cons_append]
  gi_wp2_with (first
    | (gi_at_call 14; refine (callsIn_wide.2 HC.out).mono ?_; rintro e w' ⟨rfl, hw'⟩; rw [hw']; clear hw' w')
    | (gi_at_call 19; refine (callsIn_wide.2 HG.out).mono ?_; rintro e w2 ⟨rfl, hA2, hB2⟩)
    | (gi_at_call 20; refine (callsIn_wide.2 (pieces_any _ _ _)).mono ?_; rintro e w' ⟨rfl, rfl⟩))
  have hz2 := hB2.size
  have hb3 : Below w2.heap.size w2 ((w2.alloc (.cells #[.int .i64 a] 3)).alloc (.cells #[.int .i64 n] 3)) := by go_grown
  obtain ⟨W3, hW3⟩ : ∃ W3, ((w2.alloc (.cells #[.int .i64 a] 3)).alloc (.cells #[.int .i64 n] 3)) = W3 := ⟨_, rfl⟩
  have t0 : W3.cell? ⟨w2.heap.size, 0, none⟩ = some (.int .i64 a) := by rw [← hW3]; simp [go_sem]
  have t1 : W3.cell? ⟨w2.heap.size + 1, 0, none⟩ = some (.int .i64 n) := by rw [← hW3]; simp [go_sem]
  have hs3 : W3.heap.size = w2.heap.size + 2 := by rw [← hW3]; simp
  rw [hW3] at hb3 ⊢
  clear hW3 hW1
  have hA3 := bld_below hA2 hb3
  have hB3 : Below (w.heap.size + 1) W1 W3 := hB2.trans (hb3.mono (by omega))
  refine wpIn_rangeFunc_ownH hro (by decide) (gf := 35) (lb := #[.pointer (some ⟨w2.heap.size, 0, none⟩), .pointer (some ⟨w2.heap.size + 1, 0, none⟩)]) rfl h3 (enters_of Try.func35 (by kernel_rfl) rfl)
    (pieces_stops 2 (by decide) w2.heap.size (w2.heap.size + 1) a n W3 (by omega) t0 t1 (by omega) (by omega)) (fun _ _ => trivial) (fun _ _ _ _ _ _ _ _ => trivial) (Below.refl _ _) (fun _ => rfl)
    (fun pre W => Lib.BuilderAt 66 5 (w.heap.size + 1) (w.heap.size + 1) (.pointer (some ⟨w.heap.size + 1, 0, none⟩)) (byteCells (rd (a + n) d (pre.map (·.1)))) W ∧ Below (w.heap.size + 1) W1 W)
    (fun c pre W => False)
    (OwnFrom.and (fun x A B row hs hg hr => bld_kept hs hg (fun r e => (hr r e).2)) (ownFrom_below (by omega) (by omega)))
    (fun c => fun s A B row hs hg hr => hs)
    ⟨hA3, hB3⟩
    (fun x a' W => ∃ Bx, W.heap[Bx]? = some (.cells #[.int .i64 (x.1 / 64 : Nat), .int .i64 (x.1 % 64 : Nat), .int .i64 (x.1 % 64 + nx (a + n) x.1 - x.1 : Nat)] 72 (0, 0)) ∧ a' = { tmps := #[.pointer (some ⟨Bb, 0, none⟩), .int .i64 a, .int .i64 n, .pointer (some ⟨w.heap.size, 0, none⟩), undef, undef, .string ⟨#[]⟩, .int .i64 0, .int .i64 0, .pointer (some ⟨w.heap.size + 1, 0, none⟩), .pointer (some ⟨Bx, 0, none⟩), .pointer (some ⟨Bb, 0, none⟩), .int .i64 a, .int .i64 n, .int .i64 0, .int .i64 0, .bool false, undef, .int .i64 n, .tuple #[], .int .i64 a, .int .i64 n, .func (.func 35) #[] #[.pointer (some ⟨w2.heap.size, 0, none⟩), .pointer (some ⟨w2.heap.size + 1, 0, none⟩)], pcV (a + n) x.1, undef, undef, undef, undef, undef, undef, undef, undef, undef, undef, undef, undef, undef, undef, undef, undef, undef], defers := [] })
    (fun x a' _ X Y row hs hg hr => by obtain ⟨Bx, h1, h2⟩ := hs; exact ⟨Bx, block_kept h1 hg (fun r e => (hr r e).2), h2⟩)
    ?assign ?body ?done ?stop
  case assign =>
    rintro l pre x W K ⟨hA, hB⟩ hK
    simp only [encP, pcV]
    gi_wp2
    have hbA : Below W.heap.size W (W.alloc (.cells #[.int .i64 ((x.1 : Int) / 64), .int .i64 ((x.1 : Int) % 64), .int .i64 (x.1 % 64 + nx (a + n) x.1 - x.1 : Nat)] 72)) := (Below.refl _ _).alloc (Nat.le_refl _) _
    exact hK _ _ ((KeepsOthers.alloc _ _).from _) trivial ⟨bld_below hA hbA, hB.trans (hbA.mono (by have := hB.size; omega))⟩ ⟨W.heap.size, heap_new _ _, rfl⟩
  case body =>
    rintro l pre x a' W hl hr ⟨hA, hB⟩ ⟨Bx, kx, rfl⟩ hlt
    have hxe := x.property
    have hnl := nx_lt hxe
    have hBW : Below w.heap.size w W := hB1.trans (hB.mono (by omega))
    have hq : W.heap[w.heap.size]? = some (.cells #[.pointer (some ⟨Bb, 0, none⟩)] 27 (0, 0)) := (hB.block _ (by omega)).trans hq1
    have hAW := HH.out.below hBW
    obtain ⟨v, hv, hrw⟩ := hAW.blk
    have hil : x.1 / 64 < ls.length := by rw [hAW.cnt]; omega
    obtain ⟨xo, hxo⟩ : ∃ xo, ls[x.1 / 64]? = some xo := ⟨_, List.getElem?_eq_getElem hil⟩
    obtain ⟨px, own⟩ := xo
    obtain ⟨e0, _⟩ := lfs_at ls (x.1 / 64) (px, own) hxo
    have hpg := (hAW.pgs (x.1 / 64) (px, own) hxo).1
    obtain ⟨g, cap, rfl⟩ : ∃ g cap, v = .slice (some ⟨g, 0, none⟩) ls.length cap := by
      rcases hrw.2 with ⟨_, h⟩ | ⟨g, cap, _, h, _⟩
      · omega
      · exact ⟨g, cap, h⟩
    have G0 : ∀ k, (W.drewN k).cell? ⟨w.heap.size, 0, none⟩ = some (.pointer (some ⟨Bb, 0, none⟩)) := fun k => show W.cell? _ = _ by simp [World.cell?, hq]
    have G1 : ∀ k, (W.drewN k).cell? ⟨Bb, 1, none⟩ = some (.slice (some ⟨g, 0, none⟩) ls.length cap) := fun k => show W.cell? _ = _ by simp [World.cell?, hv]
    have G2 : ∀ k, (W.drewN k).cell? ⟨Bx, 0, none⟩ = some (.int .i64 ((x.1 : Int) / 64)) := fun k => show W.cell? _ = _ by simp [World.cell?, kx]
    have G3 : ∀ k, (W.drewN k).cell? ⟨Bx, 1, none⟩ = some (.int .i64 ((x.1 : Int) % 64)) := fun k => show W.cell? _ = _ by simp [World.cell?, kx]
    have G4 : ∀ k, (W.drewN k).cell? ⟨Bx, 2, none⟩ = some (.int .i64 (x.1 % 64 + nx (a + n) x.1 - x.1 : Nat)) := fun k => show W.cell? _ = _ by simp [World.cell?, kx]
    have G5 : ∀ k, (W.drewN k).cell? ⟨g, x.1 / 64 * 2, none⟩ = some (.pointer (some ⟨px, 0, none⟩)) := fun k => show W.cell? _ = _ from (hrw.cellAt (x.1 / 64 * 2) (by omega)).trans e0
    have G6 : ∀ k, (W.drewN k).cell? ⟨g, ((x.1 : Int) / 64).toNat * 2, none⟩ = some (.pointer (some ⟨px, 0, none⟩)) := fun k => by rw [show ((x.1 : Int) / 64).toNat = x.1 / 64 from by omega]; exact G5 k
    have hi1 : (0 : Int) ≤ (x.1 : Int) / 64 := by omega
    have hi2 : (x.1 : Int) / 64 < (ls.length : Int) := by omega
    have hnx64 : x.1 % 64 + nx (a + n) x.1 - x.1 ≤ 64 ∧ x.1 % 64 ≤ x.1 % 64 + nx (a + n) x.1 - x.1 ∧ x.1 % 64 + nx (a + n) x.1 - x.1 - x.1 % 64 = nx (a + n) x.1 - x.1 ∧ x.1 % 64 + (nx (a + n) x.1 - x.1) ≤ 64 ∧ nx (a + n) x.1 ≤ a + n := by unfold nx; omega
    have hsp : ∀ w', (Instr.sliceAt 96 (.pointer (some ⟨px, 0, none⟩)) (some (.int .i64 ((x.1 : Int) % 64))) (some (.int .i64 ((x.1 % 64 + nx (a + n) x.1 - x.1 : Nat) : Int))) none).run Try.prog w' = .ok (.slice (some ⟨px, x.1 % 64, none⟩) (nx (a + n) x.1 - x.1) (64 - x.1 % 64)) w' := fun w' => by
      have := slice_page px (x.1 % 64) (x.1 % 64 + nx (a + n) x.1 - x.1) w' (by omega) (by omega) (by omega)
      rw [hnx64.2.2.1] at this
      exact this
    have HW : Hid (∀ k, Calls Try.prog 21 #[.pointer (some ⟨w.heap.size + 1, 0, none⟩), .slice (some ⟨px, x.1 % 64, none⟩) (nx (a + n) x.1 - x.1) (64 - x.1 % 64)] (W.drewN k) fun e w' => (∃ v, e = .returned v) ∧ Lib.BuilderAt 66 5 (w.heap.size + 1) (w.heap.size + 1) (.pointer (some ⟨w.heap.size + 1, 0, none⟩)) (byteCells (rd (a + n) d (pre.map (·.1))) ++ byteCells ((d.drop x.1).take (nx (a + n) x.1 - x.1))) w' ∧ Below (w.heap.size + 1) (W.drewN k) w' ∧ KeepsOthers (W.drewN k) w') := fun k => by
      have hpl : ((d.drop x.1).take (nx (a + n) x.1 - x.1)).length = nx (a + n) x.1 - x.1 := by rw [List.length_take, List.length_drop]; omega
      refine BWrite_any (w.heap.size + 1) (w.heap.size + 1) _ ⟨px, x.1 % 64, none⟩ _ _ _ (W.drewN k) hA (by rw [byteCells_length, hpl]) (fun j u hu => ?_) (byteCells_one _) ?_ (by have := hB.size; show _ ≤ W.heap.size; omega)
      · show W.cell? _ = _
        have hj : j < nx (a + n) x.1 - x.1 := by have := (List.getElem?_eq_some_iff.1 hu).1; rwa [byteCells_length, hpl] at this
        rw [show (⟨px, x.1 % 64, none⟩ : Addr).add j = ⟨px, x.1 % 64 + j, none⟩ from by unfold Addr.add; split <;> simp_all]
        rw [cell_of_row _ _ _ _ _ _ hpg]
        have hpp := piece_pad d (a + n) x.1 (by omega) j hj
        unfold byteCells at hu
        rw [List.getElem?_map, ← hpp] at hu
        simpa [u8s] using hu
      · rw [byteCells_length]
        have := rd_le (a + n) d (pre.map (·.1))
        rw [List.length_map] at this
        have h2 : pre.length * d.length ≤ 4097 * 4096 := Nat.mul_le_mul (by omega) hlen
        omega
    have HB := Lib.hid hB
    clear hq hAW hv hrw hpg hA kx hB e0 hBW
    gi_wp2_with fail
    refine wpIn_region_quiet_tail (C := fun w' => ∃ k, w' = W.drewN k) 15 (by kernel_rfl) (by kernel_rfl) (by kernel_rfl) ⟨1, rfl⟩ ?_
    simp only [List.take_succ_cons, List.take_zero, List.drop_succ_cons, List.drop_zero]
    repeat (quiet_step (fail))
    refine wpQuiet_nil ?_
    intro _ hw'
    obtain ⟨nq, hw''⟩ := hw'
    subst hw''
    clear G0 G1 G2 G3 G4 G5 G6
    gi_wp2_with (gi_at_call 21; refine (CallsIn.inRound l (callsIn_wide.2 (HW.out nq))).mono ?_; rintro e w4 ⟨⟨u, rfl⟩, hA4, hB4, hK4⟩)
    refine ⟨(show KeepsOthers W w4 from ⟨hK4.size, hK4.same⟩).from _, trivial, ?_, HB.out.trans ⟨hB4.os, hB4.tape, hB4.output, hB4.size, hB4.block⟩⟩
    rw [List.map_append, List.map_singleton, rd_snoc]
    rw [show byteCells (rd (a + n) d (pre.map (·.1)) ++ (d.drop x.1).take (nx (a + n) x.1 - x.1)) = _ from List.map_append]
    exact hA4
  case done =>
    rintro D zs W hD hzs ⟨hA, hB⟩ hK
    rw [hzs, rd_all] at hA
    have hz := hB.size
    have HS := Lib.hid (String_any (w.heap.size + 1) (w.heap.size + 1) _ _ W hA (by omega))
    have HB := Lib.hid hB
    clear hA hB hzs
    gi_wp2_with (gi_at_call 22; refine (callsIn_wide.2 HS.out).mono ?_; rintro e w4 ⟨rfl, hb4, hk4⟩)
    have hK4 : w4.heap[D]? = some (.deferred (some [])) := hk4.same D _ hK rfl
    refine ⟨by simp, .inl ⟨_, _, rfl, run_takeDeferred hK4, ?_⟩⟩
    refine ⟨.tuple #[.string ⟨((d.drop a).take n).toArray⟩, .int .i64 0], ?_, rfl, ?_⟩
    · simp [results, Try.results10, go_sem]
    · have h4 : Below w.heap.size w w4 := hB1.trans ((HB.out.trans hb4).mono (by omega))
      exact h4.trans (belowK_b (w := w) (Nat.le_refl _) w4 D _ _ (by omega) hK4 rfl rfl)
  case stop =>
    rintro D c ys W hD hK h hp
    exact h.elim
end Go.Proofs.Ytblhikmhmnkclaa
