/- What Parse of the reference answers: SHAPES. -/
import Derived.Test.YtgldkmabhmlijaaGreatDoorRWords
import Derived.Test.YtgldkmabhmlijaaGreatDoorRReg
import Derived.Test.YtgldkmabhmlijaaGreatDoorRText
import Derived.Test.YtgldkmabhmlijaaGreatDoorRRight
import Derived.Test.YtgldkmabhmlijaaGreatDoorStpR
namespace Go.Proofs.YtgldkmabhmlijaaGreatDoor
open Go.RowKit Go.Sort
theorem At5.put0 {W : World} {B : Nat} {c : Cod} (h : At5 W B c) (x : Int) : At5 (W.setCell ⟨B, 0, none⟩ (.int .i64 x)) B { c with op := x } := by
  obtain ⟨l, ⟨a0, a1, a2, a3, a4⟩, f⟩ := h
  exact ⟨by simpa using l, ⟨cell_set a0, cell_set_off a1 (by decide), cell_set_off a2 (by decide), cell_set_off a3 (by decide), cell_set_off a4 (by decide)⟩, fun o => by rw [World.frozen?_setCell]; exact f o⟩
theorem At5.put1 {W : World} {B : Nat} {c : Cod} (h : At5 W B c) (x : Int) : At5 (W.setCell ⟨B, 1, none⟩ (.int .i64 x)) B { c with a := x } := by
  obtain ⟨l, ⟨a0, a1, a2, a3, a4⟩, f⟩ := h
  exact ⟨by simpa using l, ⟨cell_set_off a0 (by decide), cell_set a1, cell_set_off a2 (by decide), cell_set_off a3 (by decide), cell_set_off a4 (by decide)⟩, fun o => by rw [World.frozen?_setCell]; exact f o⟩
theorem At5.put2 {W : World} {B : Nat} {c : Cod} (h : At5 W B c) (x : Int) : At5 (W.setCell ⟨B, 2, none⟩ (.int .i64 x)) B { c with b := x } := by
  obtain ⟨l, ⟨a0, a1, a2, a3, a4⟩, f⟩ := h
  exact ⟨by simpa using l, ⟨cell_set_off a0 (by decide), cell_set_off a1 (by decide), cell_set a2, cell_set_off a3 (by decide), cell_set_off a4 (by decide)⟩, fun o => by rw [World.frozen?_setCell]; exact f o⟩
theorem At5.put3 {W : World} {B : Nat} {c : Cod} (h : At5 W B c) (x : Int) : At5 (W.setCell ⟨B, 3, none⟩ (.int .i64 x)) B { c with c := x } := by
  obtain ⟨l, ⟨a0, a1, a2, a3, a4⟩, f⟩ := h
  exact ⟨by simpa using l, ⟨cell_set_off a0 (by decide), cell_set_off a1 (by decide), cell_set_off a2 (by decide), cell_set a3, cell_set_off a4 (by decide)⟩, fun o => by rw [World.frozen?_setCell]; exact f o⟩
theorem At5.put4 {W : World} {B : Nat} {c : Cod} (h : At5 W B c) (x : Int) : At5 (W.setCell ⟨B, 4, none⟩ (.int .i64 x)) B { c with n := x } := by
  obtain ⟨l, ⟨a0, a1, a2, a3, a4⟩, f⟩ := h
  exact ⟨by simpa using l, ⟨cell_set_off a0 (by decide), cell_set_off a1 (by decide), cell_set_off a2 (by decide), cell_set_off a3 (by decide), cell_set a4⟩, fun o => by rw [World.frozen?_setCell]; exact f o⟩
/-- What Parse of the reference owes. -/
def RP (s : ByteArray) (w : World) (e : Ending) (w' : World) : Prop := (∃ (c : Cod) (nm : ByteArray) (ok : Bool), e = .returned (.tuple #[c.v, .string nm, .bool ok]) ∧ rpar s.data.toList = if ok = true then some (c, nm.data.toList) else none) ∧ Below w.heap.size w w'
theorem nmB_op (k : Nat) (hk : k < 27) (q : ByteArray) : ((nmB k).toList == q.toList) = decide (opN q.data.toList = k) := by
  rw [toL_beq, nmB_list (by omega), show ((k : Int)).toNat = k from by omega, decide_eq_decide]
  constructor
  · intro h; rw [← h]; exact opN_nm k hk
  · intro h
    unfold opN at h
    split at h
    · rename_i hh
      have : nmL.idxOf q.data.toList = k := by omega
      have e := List.getElem_idxOf hh
      rw [nm_get _ hh, this] at e
      exact e
    · omega
theorem bdl {w w' : World} (h : Below w.drew.heap.size w.drew w') : Below w.heap.size w w' := ⟨h.os, h.tape, h.output, h.size, h.block⟩
theorem text_pos (c : Cod) (hr : rightC c = true) : 1 ≤ (textC c).length := by
  obtain ⟨l1, _⟩ := right_lim hr
  have f := (nm_facts ⟨c.op.toNat, by omega⟩).2.1
  simp only at f
  rw [← txV_text, txV, List.length_append]; omega
/-- How far the search for the operation is. -/
def opP (o : Int) (k : Nat) : Int := if 0 ≤ o ∧ o < k then o else -1
set_option maxRecDepth 100000 in
set_option maxHeartbeats 4000000 in
theorem rParse_no (s : ByteArray) (w : World) (hs : s.size < 100000) (o : Int) (ho : opN ((wdA 32 [] s.data.toList).getD 0 []) = o) (h0 : o < 0) : Calls Tryz.prog 7 #[.string s] w (RP s w) := by
  have hl : s.data.toList.length = s.size := by simp
  have HWd := Lib.hid (fun W => Words_any s 32 W (by omega))
  have hws := wdA_len 32 s.data.toList []
  have hsz := wdA_sizes 32 s.data.toList []
  obtain ⟨ws, hwsd⟩ : ∃ ws, ws = wdA 32 [] s.data.toList := ⟨_, rfl⟩
  rw [← hwsd] at hws hsz ho
  simp only [← hwsd] at HWd
  have HWS := Lib.hid hwsd
  have hbl : (bas ws).length = ws.length := by simp [bas]
  have hwz : ∀ j, (toB (ws.getD j [])).size < 1000000 := fun j => by
    show (ws.getD j []).length < 1000000
    by_cases hj : j < ws.length
    · rw [List.getD_eq_getElem?_getD, List.getElem?_eq_getElem hj]
      have := hsz _ (List.getElem_mem hj)
      simp at this ⊢; omega
    · rw [List.getD_eq_getElem?_getD, List.getElem?_eq_none (by omega)]; decide
  have HWZ := Lib.hid hwz
  clear hwsd hsz hl hwz
  have hbA : Below w.heap.size w (w.alloc (.cells #[.int .i64 0, .int .i64 0, .int .i64 0, .int .i64 0, .int .i64 0] 24)) := (Below.refl _ _).alloc (Nat.le_refl _) _
  have hRA := At5.new w c0 24
  go_enter Tryz.func7, Tryz.ntmps7
  go_wp2_with (go_at_call 18; refine (HWd.out _).mono ?_; rintro e w1 ⟨v, rfl, how, hb1'⟩; refine Hid.out ?_)
  refine Lib.hid ?_
  have hb1 : Below w.heap.size w w1 := hbA.trans (hb1'.mono (by simp))
  have HR1 : Hid (At5 w1 w.heap.size c0) := hRA.below hb1' (by simp)
  have hlR : w.heap.size < w1.heap.size := by have := hb1'.size; simp at this; omega
  obtain ⟨g, cap, rfl, hg1, hg2, hcell⟩ := sts_cells how (by rw [hbl]; exact hws.1)
  have hcell2 : ∀ j, j < ws.length → w1.cell? ⟨g, j, none⟩ = some (.string (toB (ws.getD j []))) := fun j hj => by
    rw [hcell j (by omega)]; simp [bas, List.getD_eq_getElem?_getD, List.getElem?_eq_getElem hj]
  have HC := Lib.hid hcell2
  rw [hbl]
  obtain ⟨n, hn⟩ : ∃ n, ws.length = n := ⟨_, rfl⟩
  rw [hn] at hws HC ⊢
  have HNn := Lib.hid hn
  have hn1 : 1 ≤ n := hws.1
  clear hcell hcell2 how hbl hn HWd hws hbA hRA hb1' hg2
  have hA0 : At5 (w1.alloc (.cells #[.int .i64 (-1), .int .i64 0, .int .i64 0, .int .i64 0, .int .i64 0] 24)) w1.heap.size ⟨-1, 0, 0, 0, 0⟩ := At5.new w1 ⟨-1, 0, 0, 0, 0⟩ _
  have hB0 : Below w1.heap.size w1 (w1.alloc (.cells #[.int .i64 (-1), .int .i64 0, .int .i64 0, .int .i64 0, .int .i64 0] 24)) := (Below.refl _ _).alloc (Nat.le_refl _) _
  have h0n : (0 : Int) < (n : Int) := by omega
  have h0N : 0 < n := by omega
  obtain ⟨q0, hq0⟩ : ∃ q0, q0 = toB (ws.getD 0 []) := ⟨_, rfl⟩
  have hoq : opN q0.data.toList = o := by rw [hq0, list_toB]; exact ho
  have HNm : Hid (∀ k : Nat, k < 27 → ((nmB k).toList == q0.toList) = decide (o = k)) := fun k hk => by rw [nmB_op k hk, hoq]
  have HC0 := Lib.hid (HC.out 0 (by omega))
  rw [← hq0] at HC0
  have HO := Lib.hid ho
  clear hq0 hoq ho
  go_wp2_with fail
  go_loopw [7] (fun iv wr => ∃ k : Nat, k ≤ 27 ∧ iv = .int .i64 k ∧ At5 wr w1.heap.size ⟨opP o k, 0, 0, 0, 0⟩ ∧ Below w1.heap.size w1 wr) (fun iv _ => 27 - (intOf iv).toNat)
  case atStart => exact ⟨0, by omega, rfl, by rw [show opP o 0 = -1 from by unfold opP; rw [if_neg (by omega)]]; exact hA0, hB0⟩
  case round =>
    clear hA0 hB0
    obtain ⟨k, hk, rfl, hA, hB⟩ := hrel
    have hzB := hB.size
    by_cases hlt : k < 27
    · have hki : (k : Int) ≤ 26 := by omega
      have HN : Hid (∀ W, Calls Tryz.prog 19 #[.int .i64 (k : Int)] W fun e w' => e = .returned (.string (nmB k)) ∧ Below W.heap.size W w') := fun W => (Name_in k W (by omega)).mono fun e w' ⟨h1, h2⟩ => ⟨h1, by rw [h2]; exact Below.refl _ _⟩
      have gc0 : ∀ n os, (gx wr n os).cell? ⟨g, 0, none⟩ = some (.string q0) := cell_gx (by show g < wr.heap.size; omega) ((hB.cell (p := ⟨g, 0, none⟩) hg1).trans HC0.out)
      have hbe := HNm.out k hlt
      obtain ⟨bk, hbk⟩ : ∃ bk, bk = decide (o = (k : Int)) := ⟨_, rfl⟩
      rw [← hbk] at hbe
      have HBK := Lib.hid hbk
      clear hbk
      generalize nmB k = nb at HN hbe
      have HAA := Lib.hid hA
      have HBB := Lib.hid hB
      have hl5 := hA.1
      clear hA hB
      go_wp2_with fail
      refine wp_region_quiet_gx (by kernel_rfl) (by kernel_rfl) ?_
      repeat (quiet_step (first | (go_at_call 19; with_reducible exact calls_gx (HN.out _))))
      refine wpQuiet_nil ?_
      intro _ hw'
      obtain ⟨⟨nq, osq⟩, hw''⟩ := hw'
      subst hw''
      have hb2 := gx_below wr nq osq
      have hA2 := HAA.out.below hb2 hl5
      have HB2 := Lib.hid (HBB.out.trans (hb2.mono hzB))
      generalize gx wr nq osq = w2 at hb2 hA2 HB2 ⊢
      have HA2 := Lib.hid hA2
      have f0 := hA2.2.2 0
      have c0' := hA2.2.1.1
      clear hA2 hb2 gc0
      clear hbe
      rcases bk with _ | _
      rotate_left
      · have hok : o = k := of_decide_eq_true HBK.out.symm
        exfalso; omega
      · have hok : ¬ o = k := of_decide_eq_false HBK.out.symm
        have HP : Hid (opP o (k + 1) = opP o k) := by simp only [Hid]; unfold opP; congr 1; rw [eq_iff_iff]; omega
        clear hok
        go_wp2
        go_roundw
        case rel => exact ⟨k + 1, by omega, by go_num, by rw [HP.out]; exact HA2.out, HB2.out⟩
        case measure => simp [intOf]; omega
    · obtain rfl : k = 27 := by omega
      have hki : ¬ ((27 : Nat) : Int) ≤ 26 := by omega
      clear hlt HNm HC0
      rw [show opP o 27 = -1 from by unfold opP; rw [if_neg (by omega)]] at hA
      have c0' := hA.2.1.1
      have HR : Hid (rpar s.data.toList = none) := by simp only [Hid]; unfold rpar; rw [← HWS.out, HO.out, if_pos (.inl h0)]
      have hBW := hB
      clear hA hB
      obtain ⟨el, ⟨e0, e1, e2, e3, e4⟩, ef⟩ := HR1.out.below hBW hlR
      have HX : Hid (Below w.heap.size w wr) := hb1.trans (hBW.mono hb1.size)
      clear hBW
      go_wp2
      refine bodyPost_ret (v := .tuple #[(c0 : Cod).v, .string ⟨#[]⟩, .bool false]) (by simp [results, Tryz.results7, go_sem, Cod.v, c0, e0, e1, e2, e3, e4]) rfl ⟨⟨c0, ⟨#[]⟩, false, rfl, HR.out⟩, ?_⟩
      first | exact HX.out | exact HX.out.trans (set5_below (n := w.heap.size) c0 (Nat.le_refl _))
end Go.Proofs.YtgldkmabhmlijaaGreatDoor
