/- What Unlike of package pages answers, of any two rows of bytes. -/
import Derived.Test.YtpedinpjdepjdaaWordR
import Derived.Stop.BytesEq
namespace Go.Proofs.Ytpedinpjdepjdaa
open Go.RowKit Go.Lib
/-- Are the pages i unlike? -/
def unl (d e : List UInt8) (i : Nat) : Bool := takenI d.length i != takenI e.length i || !(pad d i == pad e i)
def unls (d e : List UInt8) (n : Nat) : List Nat := (List.range n).filter (unl d e)
theorem unls_succ (d e : List UInt8) (n : Nat) : unls d e (n + 1) = unls d e n ++ (if unl d e n = true then [n] else []) := by
  unfold unls; rw [List.range_succ, List.filter_append]; congr 1; simp only [List.filter_cons, List.filter_nil]
theorem unls_le (d e : List UInt8) (n : Nat) : (unls d e n).length ≤ n := by
  have := List.length_filter_le (unl d e) (List.range n); simpa [unls] using this
def nvs (l : List Nat) : List Value := l.map fun (j : Nat) => .int .i64 (j : Int)
/-- A load of a whole row, in a quiet region. -/
theorem quiet_load {P : Program} {C : World → Prop} {o : Oper} {a : Act} {K : Act → Prop} (ty : TypeId) (x : Operand) (g : Nat) (v : Value) (ho : o.op = .load ty x) (hx : a.eval x = .pointer (some ⟨g, 0, none⟩))
    (hl : ∀ w, C w → (loadVar ty ⟨g, 0, none⟩).run P w = .ok v w) (h : K (a.put o.dst v)) : o.quiet P a C K := by
  refine ⟨v, fun w hw => ?_, h⟩
  unfold Oper.quietAt execOp
  simp only [ho, hx, Instr.loadAt, Instr.sureAddr, Sem.run_bind, Sem.run_pure, Result.andThen_ok, hl w hw]
  exact ⟨rfl, rfl⟩
set_option maxRecDepth 100000 in
set_option maxHeartbeats 1000000 in
theorem Unlike_any (base Bb base2 Cb : Nat) (d e : List UInt8) (ls ls2 : List (Nat × Bool)) (w : World) (h : BAt w base Bb d ls) (h2 : BAt w base2 Cb e ls2) (N : Nat) (hN : max ((d.length + 63) / 64) ((e.length + 63) / 64) = N) :
    Calls Try.prog 11 #[.pointer (some ⟨Bb, 0, none⟩), .pointer (some ⟨Cb, 0, none⟩)] w fun r w' => ∃ v, r = .returned v ∧ w'.ownsRow w.heap.size 3 1 v (unls d e N).length (nvs (unls d e N)) ∧ Below w.heap.size w w' := by
  obtain ⟨i0, hi, hz0, hz1, hz2⟩ := info_parts intInfo
  have hlen := h.len
  have hlen2 := h2.len
  have HH := Lib.hid h
  have HH2 := Lib.hid h2
  have HP := Lib.hid (Pages_any h)
  have HP2 := Lib.hid (Pages_any h2)
  clear h h2
  go_enter Try.func11, Try.ntmps11
  go_wp2_with (first
    | (go_at_call_of 16 (Value.pointer (some ⟨Bb, 0, none⟩)); refine HP.out.mono ?_; rintro r w1 ⟨rfl, hw1⟩; rw [hw1]; clear hw1 w1)
    | (go_at_call_of 16 (Value.pointer (some ⟨Cb, 0, none⟩)); refine HP2.out.mono ?_; rintro r w1 ⟨rfl, hw1⟩; rw [hw1]; clear hw1 w1))
  have hmax : max (((d.length : Int) + 63) / 64) (((e.length : Int) + 63) / 64) = (N : Int) := by omega
  rw [hmax]
  have hN64 : N ≤ 64 := by omega
  have HN := Lib.hid hN
  clear hN hmax HP HP2
  go_loopw [5, 12] (fun x y wr => ∃ k : Nat, y = .int .i64 k ∧ k ≤ N ∧ wr.ownsRow w.heap.size 3 1 x (unls d e k).length (nvs (unls d e k)) ∧ RowKit.Below w.heap.size w wr) (fun _ y _ => (N - RowKit.intOf y).toNat)
  case atStart => exact ⟨0, rfl, Nat.zero_le _, World.ownsRow_nil _ _ _ _, Below.refl _ _⟩
  case round =>
    obtain ⟨k, rfl, hk, hrow, hB⟩ := hrel
    obtain ⟨sp, cap, rfl⟩ := row_formk hrow
    by_cases hlt : k < N
    · have hki : (k : Int) < (N : Int) := by omega
      have hul := unls_le d e k
      by_cases htk : takenI d.length k = takenI e.length k
      · obtain ⟨tk, htk1⟩ : ∃ tk, takenI d.length k = tk := ⟨_, rfl⟩
        have htk2 : takenI e.length k = tk := by rw [← htk, htk1]
        have hk1 : k < (d.length + 63) / 64 ∧ k < (e.length + 63) / 64 := by have := HN.out; unfold takenI at htk; omega
        have HT1 : Hid (∀ q, Calls Try.prog 27 #[.pointer (some ⟨Bb, 0, none⟩), .int .i64 k] (wr.drewN q) fun e w' => e = .returned (.int .i64 tk) ∧ ∃ q', w' = wr.drewN q') := fun q => by
          refine (taken_any (HH.out.below (show RowKit.Below w.heap.size w (wr.drewN q) from ⟨hB.os, hB.tape, hB.output, hB.size, hB.block⟩)) k (by omega)).mono ?_
          rintro e w' ⟨rfl, rfl⟩
          exact ⟨by rw [htk1], q, rfl⟩
        have HT2 : Hid (∀ q, Calls Try.prog 27 #[.pointer (some ⟨Cb, 0, none⟩), .int .i64 k] (wr.drewN q) fun e w' => e = .returned (.int .i64 tk) ∧ ∃ q', w' = wr.drewN q') := fun q => by
          refine (taken_any (HH2.out.below (show RowKit.Below w.heap.size w (wr.drewN q) from ⟨hB.os, hB.tape, hB.output, hB.size, hB.block⟩)) k (by omega)).mono ?_
          rintro e w' ⟨rfl, rfl⟩
          exact ⟨by rw [htk2], q, rfl⟩
        have hpb : (tk != tk) = false := by simp
        obtain ⟨x1, hx1⟩ : ∃ x, ls[k]? = some x := ⟨_, List.getElem?_eq_getElem (by rw [HH.out.cnt]; omega)⟩
        obtain ⟨x2, hx2⟩ : ∃ x, ls2[k]? = some x := ⟨_, List.getElem?_eq_getElem (by rw [HH2.out.cnt]; omega)⟩
        obtain ⟨v1, hv1, hr1⟩ := (HH.out.below hB).blk
        obtain ⟨v2, hv2, hr2⟩ := (HH2.out.below hB).blk
        have hp1 := ((HH.out.below hB).pgs k x1 hx1).1
        have hp2 := ((HH2.out.below hB).pgs k x2 hx2).1
        have hl1 := (List.getElem?_eq_some_iff.1 hx1).1
        have hl2 := (List.getElem?_eq_some_iff.1 hx2).1
        obtain ⟨g1, cap1, rfl⟩ : ∃ g cap, v1 = .slice (some ⟨g, 0, none⟩) ls.length cap := by
          rcases hr1.2 with ⟨_, h⟩ | ⟨g, cap, _, h, _⟩
          · omega
          · exact ⟨g, cap, h⟩
        obtain ⟨g2, cap2, rfl⟩ : ∃ g cap, v2 = .slice (some ⟨g, 0, none⟩) ls2.length cap := by
          rcases hr2.2 with ⟨_, h⟩ | ⟨g, cap, _, h, _⟩
          · omega
          · exact ⟨g, cap, h⟩
        have G1 : ∀ q, (wr.drewN q).cell? ⟨Bb, 1, none⟩ = some (.slice (some ⟨g1, 0, none⟩) ls.length cap1) := fun q => show wr.cell? _ = _ by simp [World.cell?, hv1]
        have G2 : ∀ q, (wr.drewN q).cell? ⟨Cb, 1, none⟩ = some (.slice (some ⟨g2, 0, none⟩) ls2.length cap2) := fun q => show wr.cell? _ = _ by simp [World.cell?, hv2]
        have G3 : ∀ q, (wr.drewN q).cell? ⟨g1, k * 2, none⟩ = some (.pointer (some ⟨x1.1, 0, none⟩)) := fun q => show wr.cell? _ = _ from (hr1.cellAt (k * 2) (by omega)).trans (lfs_at ls k x1 hx1).1
        have G4 : ∀ q, (wr.drewN q).cell? ⟨g2, k * 2, none⟩ = some (.pointer (some ⟨x2.1, 0, none⟩)) := fun q => show wr.cell? _ = _ from (hr2.cellAt (k * 2) (by omega)).trans (lfs_at ls2 k x2 hx2).1
        have hsz : ∀ (l : List UInt8) i, (Try.prog.info? 70).map (·.size) = some (u8s (pad l i)).toArray.size := fun l i => by
          rw [show (u8s (pad l i)).toArray.size = 64 from by simp [u8s, pad]]; kernel_rfl
        have L1 : ∀ q, (loadVar 70 ⟨x1.1, 0, none⟩).run Try.prog (wr.drewN q) = .ok (.agg (u8s (pad d k)).toArray) (wr.drewN q) := fun q => run_loadVar_row (P := Try.prog) (wr.drewN q) x1.1 70 70 _ (0, 0) _ hp1 Try.underlying70 rfl (hsz _ _)
        have L2 : ∀ q, (loadVar 70 ⟨x2.1, 0, none⟩).run Try.prog (wr.drewN q) = .ok (.agg (u8s (pad e k)).toArray) (wr.drewN q) := fun q => run_loadVar_row (P := Try.prog) (wr.drewN q) x2.1 70 70 _ (0, 0) _ hp2 Try.underlying70 rfl (hsz _ _)
        have j1 : (k : Int) < (ls.length : Int) := by omega
        have j2 : (k : Int) < (ls2.length : Int) := by omega
        have HU := Lib.hid (show unl d e k = !(pad d k == pad e k) from by unfold unl; rw [htk1, htk2]; simp)
        have EQ : ∀ q, (Op.equalIn 10000 70 (.agg (u8s (pad d k)).toArray) (.agg (u8s (pad e k)).toArray)).run Try.prog (wr.drewN q) = .ok (pad d k == pad e k) (wr.drewN q) := fun q =>
          run_equalIn_bytes (P := Try.prog) (wr.drewN q) 9998 70 5 64 Try.underlying70 Try.underlying5 (fun w => by kernel_rfl) (pad d k) (pad e k) (pad_len _ _) (pad_len _ _)
        clear htk htk1 htk2 hv1 hv2 hr1 hr2 hp1 hp2 hx1 hx2 hsz
        obtain ⟨px1, ow1⟩ := x1
        obtain ⟨px2, ow2⟩ := x2
        go_wp2_with fail
        have HL1 := Lib.hid L1
        have HL2 := Lib.hid L2
        clear L1 L2
        refine wp_region_quiet_lit (by kernel_rfl) (by kernel_rfl) ?_
        repeat (go_big_quiet_step (first | (go_at_call_of 27 (Value.pointer (some ⟨Bb, 0, none⟩)); exact HT1.out _) | (go_at_call_of 27 (Value.pointer (some ⟨Cb, 0, none⟩)); exact HT2.out _)))
        go_big_quiet_want
        refine quiet_load 70 _ px1 (.agg (u8s (pad d k)).toArray) rfl rfl (fun w ⟨q, hw⟩ => by subst hw; exact HL1.out q) ?_
        go_simp
        go_big_quiet_on
        repeat (go_big_quiet_step (fail))
        go_big_quiet_want
        refine quiet_load 70 _ px2 (.agg (u8s (pad e k)).toArray) rfl rfl (fun w ⟨q, hw⟩ => by subst hw; exact HL2.out q) ?_
        go_simp
        go_big_quiet_on
        repeat (go_big_quiet_step (fail))
        refine wpQuiet_nil ?_
        intro _ hw'
        obtain ⟨nq, hw''⟩ := hw'
        subst hw''
        clear HT1 HT2 EQ G1 G2 G3 G4 HL1 HL2
        by_cases hpe : (pad d k == pad e k) = true
        · have hpe' : (!(pad d k == pad e k)) = false := by rw [hpe]; rfl
          have HUS := Lib.hid (show unls d e (k + 1) = unls d e k from by rw [unls_succ, HU.out, hpe']; simp)
          rw [hpe]
          have hB' : RowKit.Below w.heap.size w (wr.drewN nq) := ⟨hB.os, hB.tape, hB.output, hB.size, hB.block⟩
          have HR := Lib.hid (show (wr.drewN nq).ownsRow w.heap.size 3 1 (.slice sp (unls d e k).length cap) (unls d e k).length (nvs (unls d e k)) from hrow)
          clear hrow hpe hpe' hB
          go_wp2
          go_roundw
          case rel => exact ⟨k + 1, by go_num, by omega, by rw [HUS.out]; exact HR.out, hB'⟩
          case measure => simp [RowKit.intOf]; omega
        · have hpe' : (!(pad d k == pad e k)) = true := by simpa using hpe
          rw [hpe']
          have hUk : unl d e k = true := by rw [HU.out]; exact hpe'
          clear hpe hpe'
          have HRA := Lib.hid (fun q => World.ownsRow.alloc (w := wr.drewN q) (show (wr.drewN q).ownsRow w.heap.size 3 1 (.slice sp (unls d e k).length cap) (unls d e k).length (nvs (unls d e k)) from hrow) (.cells #[.int .i64 k] 3))
          have HN' : Hid (∀ q j u, ([.int .i64 k] : List Value)[j]? = some u → ((wr.drewN q).alloc (.cells #[.int .i64 k] 3)).cell? ((⟨wr.heap.size, 0, none⟩ : Addr).add j) = some u) := fun q j u hu => by
            match j, hu with
            | 0, hu => simp at hu; subst hu; show World.cell? _ ⟨(wr.drewN q).heap.size, 0, none⟩ = _; rw [cell_of_row _ _ _ _ _ _ (heap_new _ _)]; rfl
            | j + 1, hu => simp at hu
          have HOn : Hid (∀ u ∈ ([.int .i64 k] : List Value), u.oneCell' = true) := fun u hu => by simp at hu; rcases hu with rfl; rfl
          have hsz := hB.size
          have HB := Lib.hid hB
          obtain ⟨L, hL⟩ : ∃ L, (unls d e k).length = L := ⟨_, rfl⟩
          rw [hL] at HRA hul ⊢
          have HUS := Lib.hid (show unls d e (k + 1) = unls d e k ++ [k] from by rw [unls_succ, hUk, if_pos rfl])
          have HL := Lib.hid hL
          clear hrow hB hL
          go_wp2_with (at_builtin; refine wpList_append_own _ rfl _ _ 42 rfl w.heap.size 3 i0 (.int .i64 0) 1 8 (by kernel_rfl) hi hz0 hz1 hz2 rfl (by decide) _ _ _ rfl (HRA.out nq) ⟨wr.heap.size, 0, none⟩ 1 1 [.int .i64 k] rfl rfl (HN'.out nq) HOn.out (by show _ ≤ 2 ^ 63 - 1; omega) (by omega) (by show _ ≤ (wr.heap.push _).size; rw [Array.size_push]; omega) ?_; intro v' w4 hown4 hgrow4 hnil4; clear hnil4; obtain ⟨g', cap', hv'⟩ := ownsRow_succ hown4; subst hv'; have HW4 := Lib.hid hown4; have HG4 := Lib.hid hgrow4; clear hown4 hgrow4)
          go_roundw
          case rel =>
            refine ⟨k + 1, by go_num, by omega, ?_, ?_⟩
            · rw [HUS.out, List.length_append, HL.out]
              show World.ownsRow _ _ _ _ _ _ (nvs (unls d e k ++ [k]))
              rw [show nvs (unls d e k ++ [k]) = nvs (unls d e k) ++ [.int .i64 k] from by unfold nvs; rw [List.map_append]; rfl]
              exact HW4.out
            · refine ((show RowKit.Below w.heap.size w (wr.drewN nq) from ⟨HB.out.os, HB.out.tape, HB.out.output, HB.out.size, HB.out.block⟩).alloc hsz _).trans ⟨HG4.out.os, HG4.out.tape, HG4.out.output, HG4.out.size, fun k hk => HG4.out.block k (by simp; omega) (fun e => ?_)⟩
              have := ((HRA.out nq).lt k e.symm).1
              omega
          case measure => simp [RowKit.intOf]; omega
      · obtain ⟨t1, ht1⟩ : ∃ t, takenI d.length k = t := ⟨_, rfl⟩
        obtain ⟨t2, ht2⟩ : ∃ t, takenI e.length k = t := ⟨_, rfl⟩
        have HT1 : Hid (∀ q, Calls Try.prog 27 #[.pointer (some ⟨Bb, 0, none⟩), .int .i64 k] (wr.drewN q) fun e w' => e = .returned (.int .i64 t1) ∧ ∃ q', w' = wr.drewN q') := fun q => by
          refine (taken_any (HH.out.below (show RowKit.Below w.heap.size w (wr.drewN q) from ⟨hB.os, hB.tape, hB.output, hB.size, hB.block⟩)) k (by omega)).mono ?_
          rintro e w' ⟨rfl, rfl⟩
          exact ⟨by rw [ht1], q, rfl⟩
        have HT2 : Hid (∀ q, Calls Try.prog 27 #[.pointer (some ⟨Cb, 0, none⟩), .int .i64 k] (wr.drewN q) fun e w' => e = .returned (.int .i64 t2) ∧ ∃ q', w' = wr.drewN q') := fun q => by
          refine (taken_any (HH2.out.below (show RowKit.Below w.heap.size w (wr.drewN q) from ⟨hB.os, hB.tape, hB.output, hB.size, hB.block⟩)) k (by omega)).mono ?_
          rintro e w' ⟨rfl, rfl⟩
          exact ⟨by rw [ht2], q, rfl⟩
        have hpb : (t1 != t2) = true := by rw [← ht1, ← ht2]; simpa using htk
        have hUk : unl d e k = true := by unfold unl; rw [ht1, ht2, hpb]; rfl
        clear htk ht1 ht2
        go_wp2_with fail
        go_quiet (first | (go_at_call_of 27 (Value.pointer (some ⟨Bb, 0, none⟩)); exact HT1.out _) | (go_at_call_of 27 (Value.pointer (some ⟨Cb, 0, none⟩)); exact HT2.out _))
        clear HT1 HT2
        have HRA := Lib.hid (fun q => World.ownsRow.alloc (w := wr.drewN q) (show (wr.drewN q).ownsRow w.heap.size 3 1 (.slice sp (unls d e k).length cap) (unls d e k).length (nvs (unls d e k)) from hrow) (.cells #[.int .i64 k] 3))
        have HN' : Hid (∀ q j u, ([.int .i64 k] : List Value)[j]? = some u → ((wr.drewN q).alloc (.cells #[.int .i64 k] 3)).cell? ((⟨wr.heap.size, 0, none⟩ : Addr).add j) = some u) := fun q j u hu => by
          match j, hu with
          | 0, hu => simp at hu; subst hu; show World.cell? _ ⟨(wr.drewN q).heap.size, 0, none⟩ = _; rw [cell_of_row _ _ _ _ _ _ (heap_new _ _)]; rfl
          | j + 1, hu => simp at hu
        have HOn : Hid (∀ u ∈ ([.int .i64 k] : List Value), u.oneCell' = true) := fun u hu => by simp at hu; rcases hu with rfl; rfl
        have hsz := hB.size
        have HB := Lib.hid hB
        obtain ⟨L, hL⟩ : ∃ L, (unls d e k).length = L := ⟨_, rfl⟩
        rw [hL] at HRA hul ⊢
        have HUS := Lib.hid (show unls d e (k + 1) = unls d e k ++ [k] from by rw [unls_succ, hUk, if_pos rfl])
        have HL := Lib.hid hL
        clear hrow hB hL
        go_wp2_with (at_builtin; refine wpList_append_own _ rfl _ _ 42 rfl w.heap.size 3 i0 (.int .i64 0) 1 8 (by kernel_rfl) hi hz0 hz1 hz2 rfl (by decide) _ _ _ rfl (HRA.out nq) ⟨wr.heap.size, 0, none⟩ 1 1 [.int .i64 k] rfl rfl (HN'.out nq) HOn.out (by show _ ≤ 2 ^ 63 - 1; omega) (by omega) (by show _ ≤ (wr.heap.push _).size; rw [Array.size_push]; omega) ?_; intro v' w4 hown4 hgrow4 hnil4; clear hnil4; obtain ⟨g', cap', hv'⟩ := ownsRow_succ hown4; subst hv'; have HW4 := Lib.hid hown4; have HG4 := Lib.hid hgrow4; clear hown4 hgrow4)
        go_roundw
        case rel =>
          refine ⟨k + 1, by go_num, by omega, ?_, ?_⟩
          · rw [HUS.out, List.length_append, HL.out]
            show World.ownsRow _ _ _ _ _ _ (nvs (unls d e k ++ [k]))
            rw [show nvs (unls d e k ++ [k]) = nvs (unls d e k) ++ [.int .i64 k] from by unfold nvs; rw [List.map_append]; rfl]
            exact HW4.out
          · refine ((show RowKit.Below w.heap.size w (wr.drewN nq) from ⟨HB.out.os, HB.out.tape, HB.out.output, HB.out.size, HB.out.block⟩).alloc hsz _).trans ⟨HG4.out.os, HG4.out.tape, HG4.out.output, HG4.out.size, fun k hk => HG4.out.block k (by simp; omega) (fun e => ?_)⟩
            have := ((HRA.out nq).lt k e.symm).1
            omega
        case measure => simp [RowKit.intOf]; omega
    · obtain rfl : k = N := by omega
      have hki : ¬ (k : Int) < (k : Int) := by omega
      have HR := Lib.hid hrow
      clear hrow
      go_wp2
      go_ret
      exact ⟨_, rfl, HR.out, hB⟩
end Go.Proofs.Ytpedinpjdepjdaa
