/- The iterator of package dir: what entries tells, for all bytes. -/
import Derived.Test.YthifejdphflfpaaDoorFirst2
import Derived.RangeFuncNested
import Derived.RangeFuncBound
import Derived.RangeFuncCalls
import Derived.RangeFuncLeaves
import Derived.RangeFuncBox
import Derived.RangeFuncWrites
import Derived.OwnWalkIn
import Derived.TacticsInMore
import Derived.LoopNIn
import Derived.LoopIn
namespace Go.Proofs.YthifejdphflfpaaDoor
open Go.RowKit Go.Sort
attribute [local go_sem] Oper.semAt_some
def c0 (s : ByteArray) : Nat := (s.data.getD 0 0).toNat
def fstT (s : ByteArray) : Nm := ⟨s.extract 1 (1 + c0 s), ((s.data.getD (1 + c0 s) 0).toNat : Int), wrap64 (numL ((s.extract (2 + c0 s) s.size).data.toList.take 8) : Nat)⟩
def wholeB (s : ByteArray) : Bool := decide (c0 s + 10 ≤ s.size)
def restS (s : ByteArray) : ByteArray := s.extract (c0 s + 10) s.size
def zeroN : Nm := ⟨⟨#[]⟩, 0, 0⟩
/-- The entries that bytes say, and whether each is whole; one that isn't is the last. -/
def entF : Nat → ByteArray → List (Nm × Bool)
  | 0, _ => []
  | f + 1, s => if s.size = 0 then [] else if wholeB s = true then (fstT s, true) :: entF f (restS s) else [(zeroN, false)]
def allEn (s : ByteArray) : List (Nm × Bool) := entF s.size s
theorem getD_byte (s : ByteArray) (i : Nat) (h : i < s.size) : s[i].toNat = (s.data.getD i 0).toNat := by
  simp [ByteArray.getElem_eq_getElem_data, Array.getD, h]
theorem c0_eq (s : ByteArray) (h : 0 < s.size) : s[0].toNat = c0 s := by
  unfold c0; simp [ByteArray.getElem_eq_getElem_data, Array.getD, h]
theorem fst_eq (s : ByteArray) (h : 0 < s.size) (h2 : s[0].toNat + 10 ≤ s.size) : fstN s h h2 = fstT s := by
  unfold fstN fstT
  have e := c0_eq s h
  have e2 : ((s[1 + s[0].toNat]'(by omega)).toNat) = (s.data.getD (1 + c0 s) 0).toNat := by
    rw [getD_byte s _ (by omega), e]
  simp only [e2]
  simp only [e]
theorem first_any (s : ByteArray) (w : World) (h : 0 < s.size) (hm : s.size ≤ 4096) :
    Calls Tryd.prog 50 #[.string s] w fun e w' => e = .returned (.tuple #[nmV (if wholeB s = true then fstT s else zeroN), .bool (wholeB s)]) ∧ Below w.heap.size w w' := by
  have e := c0_eq s h
  by_cases h2 : s[0].toNat + 10 ≤ s.size
  · have hw : wholeB s = true := by unfold wholeB; rw [decide_eq_true_eq]; omega
    rw [hw, if_pos rfl, ← fst_eq s h h2]
    exact first_yes s w h h2 hm
  · have hw : wholeB s = false := by unfold wholeB; rw [decide_eq_false_iff_not]; omega
    rw [hw, if_neg (by decide)]
    exact first_no s w h (by omega) hm
theorem fst_width (s : ByteArray) (hw : wholeB s = true) : (fstT s).nm.size + 10 = c0 s + 10 := by
  unfold wholeB at hw
  rw [decide_eq_true_eq] at hw
  show (s.extract 1 (1 + c0 s)).size + 10 = _
  rw [ByteArray.size_extract]; omega
theorem rest_size (s : ByteArray) : (restS s).size = s.size - (c0 s + 10) := by unfold restS; rw [ByteArray.size_extract]; omega
theorem entF_len : ∀ (f : Nat) (s : ByteArray), (entF f s).length ≤ f
  | 0, _ => by simp [entF]
  | f + 1, s => by
    unfold entF
    split
    · simp
    · split
      · have := entF_len f (restS s); simp only [List.length_cons]; omega
      · simp
def encY (x : Nm × Bool) : Array Value := #[nmV x.1, .bool x.2]
/-- The block of the row that a box names. -/
def rowOf (W : World) (Bl : Nat) : Option Nat := match W.cell? ⟨Bl, 0, none⟩ with | some v => v.ownBlock | none => none
/-- What a round keeps: all cells but the box's, and the row's that it names. -/
structure KpE (n₀ Bl : Nat) (W W' : World) : Prop where
  below : Below n₀ W W'
  keep : ∀ (k : Nat) (cs : Array Value) (t : TypeId) (fz : Nat × Nat), W.heap[k]? = some (Obj.cells cs t fz) → k ≠ Bl → rowOf W Bl ≠ some k → W'.heap[k]? = some (Obj.cells cs t fz)
  row : ∀ k, rowOf W' Bl = some k → rowOf W Bl = some k ∨ W.heap.size ≤ k
  lt : (∀ k, rowOf W Bl = some k → k < W.heap.size) → ∀ k, rowOf W' Bl = some k → k < W'.heap.size
theorem kpe_t {n₀ Bl : Nat} {A B C : World} (h : KpE n₀ Bl A B) (k : KpE n₀ Bl B C) : KpE n₀ Bl A C where
  below := h.below.trans k.below
  keep i cs t fz hi hne hr := k.keep i cs t fz (h.keep i cs t fz hi hne hr) hne (fun e => by
    rcases h.row i e with e | e
    · exact hr e
    · have := (Array.getElem?_eq_some_iff.1 hi).1; omega)
  row i e := by
    rcases k.row i e with e | e
    · exact h.row i e
    · exact .inr (Nat.le_trans h.below.size e)
  lt hl := k.lt (h.lt hl)
theorem rowOf_same {W W' : World} {Bl : Nat} (h : W'.heap[Bl]? = W.heap[Bl]?) : rowOf W' Bl = rowOf W Bl := by
  unfold rowOf World.cell?; rw [h]
theorem kpe_below {n₀ Bl : Nat} {W W' : World} (h : Below W.heap.size W W') (hn : n₀ ≤ W.heap.size) (hB : Bl < W.heap.size) : KpE n₀ Bl W W' where
  below := h.mono hn
  keep k cs t fz hk _ _ := (h.block k (Array.getElem?_eq_some_iff.1 hk).1).trans hk
  row k e := .inl (by rwa [rowOf_same (h.block Bl hB)] at e)
  lt hl k e := by rw [rowOf_same (h.block Bl hB)] at e; exact Nat.lt_of_lt_of_le (hl k e) h.size
theorem kpe_b {n₀ Bl : Nat} {w : World} (hn : n₀ ≤ w.heap.size) (hB : Bl < w.heap.size) (W : World) (l : Nat) (o o' : Obj) (hl : w.heap.size ≤ l) (h : W.heap[l]? = some o) (h1 : o.isCells = false) (h2 : o.isWalk = false) : KpE n₀ Bl W (W.putObj l o') where
  below := belowK_b hn W l o o' hl h h1 h2
  keep k cs t fz hk _ _ := by
    have hne : k ≠ l := fun e => by subst e; rw [hk] at h; cases h; cases h1
    exact (World.putObj_heap_other hne).trans hk
  row k e := .inl (by rwa [rowOf_same (World.putObj_heap_other (show Bl ≠ l by omega))] at e)
  lt hl2 k e := by
    rw [rowOf_same (World.putObj_heap_other (show Bl ≠ l by omega))] at e
    have := hl2 k e
    have hs := (belowK_b hn W l o o' hl h h1 h2).size
    omega
theorem entries_any (s : ByteArray) (w : World) : Calls Tryd.prog 35 #[.string s] w fun e w' => e = .returned (.func (.func 49) #[] #[.pointer (some ⟨w.heap.size, 0, none⟩)]) ∧ w' = w.alloc (.cells #[.string s] 9) := by
  go_enter Tryd.func35, Tryd.ntmps35
  go_wp2
  go_ret
  exact ⟨rfl, rfl⟩
theorem abides_below {β : Type} {B : Nat} {J : β → World → Prop} (h : AbidesFrom B J) {s : β} {W W' : World} (hs : J s W) (hb : Below W.heap.size W W') : J s W' :=
  h s W W' none hs ⟨hb.os, hb.tape, hb.output, hb.size, fun k hk _ => hb.block k hk⟩ (fun r e => by cases e)
set_option maxRecDepth 100000 in
set_option maxHeartbeats 2000000 in
theorem entries1_in (n : Nat) (hn : 1 ≤ n) (l Bt n₀ Bl B0 : Nat) (s : ByteArray) (J Jx : List (Nm × Bool) → World → Prop) (hJ : AbidesFrom B0 J) (hs : s.size ≤ 4096)
    (hY : ∀ pre x W, J pre W → pre.length < s.size + 1 → YieldAt Fence.wide (n - 1) Tryd.prog l (encY x) W fun e W' =>
      (e = .returned (.bool true) ∧ J (pre ++ [x]) W' ∧ KpE n₀ Bl W W') ∨ (e = .returned (.bool false) ∧ Jx (pre ++ [x]) W'))
    (W : World) (hBl : Bl < W.heap.size) (t0 : W.cell? ⟨Bt, 0, none⟩ = some (.string s)) (hrow : ∀ k, rowOf W Bl = some k → k < W.heap.size) (h0 : J [] W) :
    CallsIn Fence.wide n Tryd.prog 49 #[.func (.yield l) #[] #[], .pointer (some ⟨Bt, 0, none⟩)] W fun e W' => (∃ v, e = .returned v) ∧
      ((∃ zs, zs = allEn s ∧ J zs W') ∨ (∃ pre, pre <+: allEn s ∧ Jx pre W')) := by
  have h1 : Fence.wide.fn 49 := trivial
  have h2 : Fence.wide.fn 50 := trivial
  have h3 : Fence.wide.fn 31 := trivial
  have hro : Fence.wide.round = none := rfl
  refine callsIn_of_wp Tryd.func49 rfl h1 ?_ hro
  simp only [Tryd.ntmps49, List.size_toArray, List.length_cons, List.length_nil, Nat.reduceAdd, Nat.reduceSub, Array.replicate_succ, Array.replicate_zero, List.push_toArray, List.append_toArray, List.nil_append, List.cons_append]
  gi_wp2_with fail
  gi_loopw [3] (fun q wr => ∃ (pre : List (Nm × Bool)) (f : Nat) (cur : ByteArray), q = .string cur ∧ (allEn s = pre ++ entF f cur ∧ pre.length + f ≤ s.size ∧ cur.size ≤ f) ∧ J pre wr ∧ W.heap.size ≤ wr.heap.size ∧ (∀ k, rowOf wr Bl = some k → k < wr.heap.size)) (fun q _ => match q with | .string q => q.size | _ => 0)
  case atStart => exact ⟨[], s.size, s, rfl, ⟨by simp [allEn], by simp, Nat.le_refl _⟩, h0, Nat.le_refl _, hrow⟩
  case round =>
    obtain ⟨pre, f, cur, rfl, hA, hJs, hz, hrw⟩ := hrel
    have HA := Lib.hid hA
    clear hA
    by_cases he : cur.size = 0
    · have hem : cur.toList.isEmpty = true := by rw [tl]; have : cur.data.toList.length = 0 := by simp [he]
                                                 rw [List.isEmpty_iff]; exact List.length_eq_zero_iff.1 this
      have HN : Hid (allEn s = pre) := by
        simp only [Hid]; rw [HA.out.1]
        cases f with
        | zero => simp [entF]
        | succ f => simp [entF, he]
      gi_wp2
      go_end0
      exact ⟨⟨_, rfl⟩, .inl ⟨pre, HN.out.symm, hJs⟩⟩
    · have hem : cur.toList.isEmpty = false := by
        rw [tl, Bool.eq_false_iff]
        intro h
        have := List.isEmpty_iff.1 h
        have h2 : cur.data.toList.length = cur.size := by simp
        rw [this] at h2; simp at h2; omega
      obtain ⟨f', rfl⟩ : ∃ f', f = f' + 1 := ⟨f - 1, by have := HA.out; omega⟩
      have hc4 : cur.size ≤ 4096 := by have := HA.out; omega
      have HF := Lib.hid (first_any cur wr (by omega) hc4)
      cases hw : wholeB cur
      · rw [hw, if_neg (by decide)] at HF
        have HN : Hid (allEn s = pre ++ [(zeroN, false)]) := by
          simp only [Hid]; rw [HA.out.1, entF, if_neg he, if_neg (by simp [hw])]
        unfold zeroN nmV at HF
        gi_wp2_with (gi_at_call 50; refine (callsIn_wide.2 HF.out).mono ?_; rintro e w1 ⟨rfl, hb1⟩; refine Hid.out ?_)
        refine Lib.hid ?_
        obtain ⟨X, hX⟩ : ∃ X, w1.alloc (.cells #[.string ⟨#[]⟩, .int .i64 0, .int .i64 0] 25) = X := ⟨_, rfl⟩
        have hXm : X.heap[w1.heap.size]? = some (nmB zeroN) := by rw [← hX]; exact heap_new _ _
        have hXB : Below w1.heap.size w1 X := by rw [← hX]; exact (Below.refl _ _).alloc (Nat.le_refl _) _
        have hWX : Below wr.heap.size wr X := hb1.trans (hXB.mono hb1.size)
        have hXs : X.heap.size = w1.heap.size + 1 := by rw [← hX]; simp
        obtain ⟨e0, e1, e2⟩ := nm_cells hXm
        obtain ⟨fn, tmps, assign, body, hy0, hR⟩ := hY pre (zeroN, false) X (abides_below hJ hJs hWX) (by have := HA.out; omega)
        dsimp only [encY, zeroN, nmV] at hy0
        have HXm := Lib.hid hXm
        have HWX := Lib.hid hWX
        have HXs := Lib.hid hXs
        have hz1 := hb1.size
        clear hXm hXB hWX hJs hXs hb1 HF
        subst hX
        dsimp only [zeroN] at e0 e1 e2
        gi_wp2
        refine hR.mono ?_
        rintro e W3 (⟨rfl, hJ3, hk3⟩ | ⟨rfl, hJx3⟩)
        · have HJ3 := Lib.hid hJ3
          clear hJ3 hR e0 e1 e2
          gi_wp2
          refine bodyPost_ret (results_none rfl _ _ _) rfl ?_
          exact ⟨⟨_, rfl⟩, .inl ⟨_, HN.out.symm, HJ3.out⟩⟩
        · gi_wp2
          refine bodyPost_ret (results_none rfl _ _ _) rfl ?_
          exact ⟨⟨_, rfl⟩, .inr ⟨_, by rw [HN.out]; exact List.prefix_refl _, hJx3⟩⟩
      · rw [hw, if_pos rfl] at HF
        have HN : Hid (allEn s = (pre ++ [(fstT cur, true)]) ++ entF f' (restS cur)) := by
          simp only [Hid]; rw [HA.out.1, entF, if_neg he, if_pos hw]; simp
        have hwd := fst_width cur hw
        have hrs := rest_size cur
        have hrd : restS cur = cur.extract (c0 cur + 10) cur.size := rfl
        have hcw : c0 cur + 10 ≤ cur.size := by unfold wholeB at hw; simpa using hw
        obtain ⟨m, hm⟩ : ∃ m, fstT cur = m := ⟨_, rfl⟩
        rw [hm] at HF HN hwd
        unfold nmV at HF
        gi_wp2_with (gi_at_call 50; refine (callsIn_wide.2 HF.out).mono ?_; rintro e w1 ⟨rfl, hb1⟩; refine Hid.out ?_)
        refine Lib.hid ?_
        obtain ⟨X, hX⟩ : ∃ X, w1.alloc (.cells #[.string m.nm, .int .i64 m.kd, .int .i64 m.id] 25) = X := ⟨_, rfl⟩
        have hXm : X.heap[w1.heap.size]? = some (nmB m) := by rw [← hX]; exact heap_new _ _
        have hXB : Below w1.heap.size w1 X := by rw [← hX]; exact (Below.refl _ _).alloc (Nat.le_refl _) _
        have hWX : Below wr.heap.size wr X := hb1.trans (hXB.mono hb1.size)
        have hXs : X.heap.size = w1.heap.size + 1 := by rw [← hX]; simp
        obtain ⟨e0, e1, e2⟩ := nm_cells hXm
        obtain ⟨fn, tmps, assign, body, hy0, hR⟩ := hY pre (m, true) X (abides_below hJ hJs hWX) (by have := HA.out; omega)
        dsimp only [encY, nmV] at hy0
        have HXm := Lib.hid hXm
        have HWX := Lib.hid hWX
        have HXs := Lib.hid hXs
        have hz1 := hb1.size
        clear hXm hXB hWX hJs hXs hb1 HF
        gi_wp2
        refine hR.mono ?_
        rintro e W3 (⟨rfl, hJ3, hk3⟩ | ⟨rfl, hJx3⟩)
        · have hne1 : w1.heap.size ≠ Bl := by have := HWX.out.size; have := HXs.out; omega
          have hrX : rowOf X Bl = rowOf wr Bl := rowOf_same (HWX.out.block Bl (by omega))
          have hm3 : W3.heap[w1.heap.size]? = some (nmB m) := hk3.keep _ _ _ _ HXm.out (by have := HXs.out; omega) (fun e => by
            rw [hrX] at e
            have := hrw _ e
            omega)
          obtain ⟨x0, x1, x2⟩ := nm_cells hm3
          have HJ3 := Lib.hid hJ3
          have HK3 := Lib.hid hk3
          have hl3 := (Array.getElem?_eq_some_iff.1 hm3).1
          have HWd := Lib.hid (fun W => width_any m W (by omega))
          unfold nmV at HWd
          rw [show ((m.nm.size : Int) + 10) = ((c0 cur + 10 : Nat) : Int) from by omega] at HWd
          have hci : ((c0 cur + 10 : Nat) : Int) ≤ (cur.size : Int) := by omega
          have hc0 : (0 : Int) ≤ ((c0 cur + 10 : Nat) : Int) := by omega
          obtain ⟨C, hC⟩ : ∃ C, c0 cur + 10 = C := ⟨_, rfl⟩
          rw [hC] at HWd hci hc0 hrd hrs
          have hrd' : cur.extract C cur.size = restS cur := hrd.symm
          obtain ⟨R, hR'⟩ : ∃ R, restS cur = R := ⟨_, rfl⟩
          rw [hR'] at hrd' hrs HN
          have hCp : 0 < C := by omega
          clear hJ3 hk3 hR hX e0 e1 e2 hm3 hC hrd hwd hm hR' hcw
          gi_wp2_with (gi_at_call 31; refine (callsIn_wide.2 (HWd.out _)).mono ?_; rintro e w4 ⟨rfl, hb4⟩; have HB4 := Lib.hid hb4; clear hb4)
          go_roundw
          case rel =>
            have hB4 : Below W3.heap.size W3 w4 := HB4.out
            refine ⟨pre ++ [(m, true)], f', R, rfl, ⟨HN.out, by have := HA.out; rw [List.length_append]; simp; omega, by have := HA.out; omega⟩, abides_below hJ HJ3.out hB4, by have := HK3.out.below.size; have := hB4.size; have := HXs.out; omega, fun k e => ?_⟩
            have hBl3 : Bl < W3.heap.size := by have := HK3.out.below.size; have := HXs.out; omega
            rw [rowOf_same (hB4.block Bl hBl3)] at e
            have := HK3.out.lt (fun k e => by rw [hrX] at e; have := hrw k e; have := HXs.out; omega) k e
            have := hB4.size; omega
          case measure => simp only []; omega
        · gi_wp2
          refine bodyPost_ret (results_none rfl _ _ _) rfl ?_
          exact ⟨⟨_, rfl⟩, .inr ⟨_, ⟨_, HN.out.symm⟩, hJx3⟩⟩
theorem entries_stops (n : Nat) (hn : 1 ≤ n) (Bt n₀ Bl : Nat) (s : ByteArray) (w : World) (hs : s.size ≤ 4096) (hBl : Bl < w.heap.size) (t0 : w.cell? ⟨Bt, 0, none⟩ = some (.string s)) (hBt : Bt < w.heap.size) (hrow : ∀ k, rowOf w Bl = some k → k < w.heap.size) :
    SeqStopsK Fence.wide n Tryd.prog 49 #[.pointer (some ⟨Bt, 0, none⟩)] encY (KpE n₀ Bl) (fun zs => zs = allEn s) (fun pre => pre <+: allEn s) (s.size + 1) w := fun l J Jx W hW hJ _ hY h0 =>
  entries1_in n hn l Bt n₀ Bl W.heap.size s J Jx hJ hs hY W (Nat.lt_of_lt_of_le hBl hW.size) ((hW.cell (p := ⟨Bt, 0, none⟩) hBt).trans t0) (fun k e => by rw [rowOf_same (hW.block Bl hBl)] at e; exact Nat.lt_of_lt_of_le (hrow k e) hW.size) h0
end Go.Proofs.YthifejdphflfpaaDoor
