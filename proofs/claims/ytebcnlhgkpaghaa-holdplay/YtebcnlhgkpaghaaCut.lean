/- What cut of package hold does. -/
import Derived.Test.YtebcnlhgkpaghaaHas
import Derived.Lib.SliceRun
namespace Go.Proofs.Ytebcnlhgkpaghaa
open Go.RowKit Go.Sort
def setL (xs : List Value) : Nat → List Value → List Value
  | _, [] => xs
  | o, v :: vs => setL (xs.set o v) (o + 1) vs
theorem setL_take : ∀ (vs : List Value) (xs : List Value) (o k : Nat), k ≤ o → (setL xs o vs).take k = xs.take k
  | [], _, _, _, _ => rfl
  | v :: vs, xs, o, k, h => by
    show (setL (xs.set o v) (o + 1) vs).take k = _
    rw [setL_take vs _ (o + 1) k (by omega), List.take_set_of_le h]
theorem gtrans {a b c : World} {r : Option Nat} (h : a.grownBy b r) (k : b.grownBy c r) : a.grownBy c r :=
  ⟨k.os.trans h.os, k.tape.trans h.tape, k.output.trans h.output, Nat.le_trans h.size k.size, fun i hi hr => (k.block i (Nat.lt_of_lt_of_le hi h.size) hr).trans (h.block i hi hr)⟩
theorem own_setCells {base e size g n cap : Nat} : ∀ (vs : List Value) (o : Nat) (xs : List Value) (w : World), w.ownsRow base e size (.slice (some ⟨g, 0, none⟩) n cap) n xs →
    (w.setCells g o vs).ownsRow base e size (.slice (some ⟨g, 0, none⟩) n cap) n (setL xs o vs) ∧ w.grownBy (w.setCells g o vs) (some g)
  | [], _, _, w, h => ⟨h, ⟨rfl, rfl, rfl, Nat.le_refl _, fun _ _ _ => rfl⟩⟩
  | v :: vs, o, xs, w, h => by
    obtain ⟨h1, h2⟩ := h.stored o v
    obtain ⟨h3, h4⟩ := own_setCells vs (o + 1) _ _ h1
    exact ⟨h3, gtrans h2 h4⟩
theorem own_take {base e size g n cap i : Nat} {xs : List Value} {w : World} (h : w.ownsRow base e size (.slice (some ⟨g, 0, none⟩) n cap) n xs) (hi : i ≤ n) : w.ownsRow base e size (.slice (some ⟨g, 0, none⟩) i cap) i (xs.take (i * size)) := by
  have hm : i * size ≤ n * size := Nat.mul_le_mul_right _ hi
  rcases h.2 with ⟨h', _⟩ | ⟨g', cap', cur, h', hb, hg, hnc, hcm, hcs, htake⟩
  · simp at h'
  · simp only [Value.slice.injEq, Option.some.injEq, Addr.mk.injEq, and_true, true_and] at h'
    obtain ⟨rfl, rfl⟩ := h'
    refine ⟨by rw [List.length_take, h.1]; omega, .inr ⟨g, cap, cur, rfl, hb, hg, by omega, hcm, hcs, ?_⟩⟩
    rw [← htake, List.take_take, Nat.min_eq_left hm]
/-- 'clear(s)', s a slice of n > 0 elements. -/
theorem run_clear_any {P : Program} (w : World) (t e ty : TypeId) (z : Value) (ht : P.underlying t = some (.slice e)) (hv : ∀ w, (zeroValue e).run P w = .ok z w) (b o n c : Nat) (hn : 0 < n)
    (hc : ∀ j, j < (Builtin.zeroCells z.cells n).toList.length → (w.cell? ⟨b, o + j, none⟩).isSome = true) (hf : ∀ j, j < (Builtin.zeroCells z.cells n).toList.length → w.frozen? ⟨b, o + j, none⟩ = false) (h1 : ∀ v ∈ (Builtin.zeroCells z.cells n).toList, v.oneCell' = true) :
    (Builtin.clear_ #[t] ty #[.slice (some ⟨b, o, none⟩) n c]).run P w = .ok (.tuple #[]) (w.setCells b o (Builtin.zeroCells z.cells n).toList) := by
  have hst := run_storeCells_cells (P := P) b o (Builtin.zeroCells z.cells n).toList 0 w (by simpa using hc) (by simpa using hf) h1
  simp only [Nat.add_zero] at hst
  obtain ⟨m, rfl⟩ : ∃ m, n = m + 1 := ⟨n - 1, by omega⟩
  simp [Builtin.clear_, run_underlying ht, hv]
  rw [hst]
  rfl
theorem zeroI (w : World) : (zeroValue 3).run Try.prog w = .ok (.int .i64 0) w := by
  obtain ⟨i0, hi, hz0, hz1, hz2⟩ := info_parts intInfo
  simp [zeroValue, typeInfo, hi, hz0]
theorem zeroI_len (n : Nat) : (Builtin.zeroCells (Value.int .i64 0).cells n).toList.length = n := by simp [Builtin.zeroCells, Value.cells]
theorem zeroI_one (n : Nat) : ∀ v ∈ (Builtin.zeroCells (Value.int .i64 0).cells n).toList, v.oneCell' = true := by
  intro v hv
  simp only [Builtin.zeroCells, Value.cells, Array.toList_map, List.mem_map] at hv
  obtain ⟨a, _, rfl⟩ := hv
  show (#[Value.int .i64 0][a % 1]!).oneCell' = true
  rw [Nat.mod_one]; rfl
theorem clear_ints {w : World} {base g cap i c n : Nat} {xs : List Value} (h : w.ownsRow base 3 1 (.slice (some ⟨g, 0, none⟩) n cap) n xs) (hi : i < n) :
    ∃ w', (Builtin.clear_ #[41] 0 #[.slice (some ⟨g, i, none⟩) (n - i) c]).run Try.prog w = .ok (.tuple #[]) w' ∧ w'.ownsRow base 3 1 (.slice (some ⟨g, 0, none⟩) i cap) i (xs.take i) ∧ w.grownBy w' (some g) := by
  have hl := zeroI_len (n - i)
  refine ⟨_, run_clear_any w 41 3 0 _ Try.underlying41 zeroI g i (n - i) c (by omega) ?_ (fun j _ => h.frozenAt _) (zeroI_one _), ?_, ?_⟩
  · intro j hj
    rw [hl] at hj
    rw [h.cellAt (i + j) (by omega)]
    rw [List.getElem?_eq_getElem (by rw [h.1]; omega)]; rfl
  · obtain ⟨h1, _⟩ := own_setCells (Builtin.zeroCells (Value.int .i64 0).cells (n - i)).toList i _ _ h
    have := own_take h1 (Nat.le_of_lt hi)
    rwa [Nat.mul_one, setL_take _ _ _ _ (Nat.le_refl _)] at this
  · exact (own_setCells _ i _ _ h).2
theorem cut1_any (B : Nat) (x y : Int) (w : World) (hl : w.cell? ⟨B, 0, none⟩ = some (.int .i64 x)) :
    Calls Try.prog 65 #[.int .i64 y, .pointer (some ⟨B, 0, none⟩)] w fun e w' => e = .returned (.bool (y == x)) ∧ w' = w := by
  go_enter Try.func65, Try.ntmps65
  go_wp2
  go_ret
  exact ⟨rfl, rfl⟩
def idxJ (x : Int) : List Int → Nat → Int
  | [], _ => -1
  | y :: l, k => if (y == x) = true then (k : Int) else idxJ x l (k + 1)
theorem idxJ_step (x : Int) (l : List Int) (k : Nat) (h : k < l.length) : idxJ x (l.drop k) k = if (l[k] == x) = true then (k : Int) else idxJ x (l.drop (k + 1)) (k + 1) := by
  rw [List.drop_eq_getElem_cons h]; rfl
set_option maxRecDepth 100000 in
set_option maxHeartbeats 1000000 in
theorem IndexFunc_any (base B g cap : Nat) (l : List Int) (x : Int) (w : World) (hn : l.length < 1000000) (hr : w.ownsRow base 3 1 (.slice (some ⟨g, 0, none⟩) l.length cap) l.length (ivs l)) (hl : w.cell? ⟨B, 0, none⟩ = some (.int .i64 x)) :
    Calls Try.prog 73 #[.slice (some ⟨g, 0, none⟩) l.length cap, .func (.func 65) #[] #[.pointer (some ⟨B, 0, none⟩)]] w fun e w' => e = .returned (.int .i64 (idxJ x l 0)) ∧ w' = w := by
  have HC := Lib.hid (fun y => cut1_any B x y w hl)
  have HR := Lib.hid hr
  clear hr hl
  go_enter Try.func73, Try.ntmps73
  go_wp2_with fail
  go_loopw [8] (fun y wr => ∃ k : Nat, y = .int .i64 k ∧ k ≤ l.length ∧ idxJ x l 0 = idxJ x (l.drop k) k ∧ w = wr) (fun y _ => (l.length - (RowKit.intOf y).toNat))
  case atStart => exact ⟨0, rfl, Nat.zero_le _, by simp, rfl⟩
  case round =>
    obtain ⟨k, rfl, hk, hx, rfl⟩ := hrel
    have HX := Lib.hid hx
    clear hx
    by_cases hlt : k < l.length
    · have hki : (k : Int) < (l.length : Int) := by omega
      have HST := Lib.hid (idxJ_step x l k hlt)
      have c0 : w.cell? ⟨g, k, none⟩ = some (.int .i64 l[k]) := (HR.out.cellAt k (by omega)).trans (by unfold ivs; simp [hlt])
      by_cases he : (l[k] == x) = true
      · go_wp2_with (go_at_call 65; refine (HC.out _).mono ?_; rintro e w1 ⟨rfl, hw1⟩; rw [hw1]; clear hw1 w1)
        go_ret
        exact ⟨by rw [HX.out, HST.out, if_pos he]; rfl, rfl⟩
      · have he' : (l[k] == x) = false := by simpa using he
        go_wp2_with (go_at_call 65; refine (HC.out _).mono ?_; rintro e w1 ⟨rfl, hw1⟩; rw [hw1]; clear hw1 w1)
        go_roundw
        case rel => exact ⟨k + 1, by go_num, by omega, by rw [HX.out, HST.out, if_neg he], trivial⟩
        case measure => simp [RowKit.intOf]; omega
    · obtain rfl : k = l.length := by omega
      have hkk : ¬ (l.length : Int) < (l.length : Int) := by omega
      go_wp2
      go_ret
      exact ⟨by rw [HX.out, List.drop_length]; rfl, rfl⟩
theorem idxJ_spec (x : Int) : ∀ (l : List Int) (k : Nat), x ∈ l → ∃ m, idxJ x l k = ((k + m : Nat) : Int) ∧ m < l.length ∧ (l.take (m + 1)).filter (fun y => !(y == x)) = l.take m
  | [], k, h => by simp at h
  | y :: l, k, h => by
    by_cases he : (y == x) = true
    · refine ⟨0, by simp [idxJ, he], by simp, by simp [he]⟩
    · have he' : (y == x) = false := by simpa using he
      have hm : x ∈ l := by
        rcases List.mem_cons.1 h with h | h
        · subst h; simp at he'
        · exact h
      obtain ⟨m, h1, h2, h3⟩ := idxJ_spec x l (k + 1) hm
      refine ⟨m + 1, ?_, by simp; omega, ?_⟩
      · simp only [idxJ, he', Bool.false_eq_true, if_false, h1]; congr 1; omega
      · rw [List.take_succ_cons, List.filter_cons, he', List.take_succ_cons]
        simp only [Bool.not_false, if_true]
        rw [h3]
def without (x : Int) (l : List Int) : List Int := l.filter fun y => !(y == x)
theorem ivs_set (c : List Int) (i : Nat) (v : Int) : (ivs c).set i (.int .i64 v) = ivs (c.set i v) := by unfold ivs; rw [List.map_set]
theorem ivs_take (c : List Int) (i : Nat) : (ivs c).take i = ivs (c.take i) := by unfold ivs; rw [List.map_take]
set_option maxRecDepth 100000 in
set_option maxHeartbeats 1000000 in
theorem DeleteFunc_any (base B g cap : Nat) (l : List Int) (x : Int) (w : World) (hn : l.length < 1000000) (hr : w.ownsRow base 3 1 (.slice (some ⟨g, 0, none⟩) l.length cap) l.length (ivs l)) (hl : w.cell? ⟨B, 0, none⟩ = some (.int .i64 x)) (hBg : B ≠ g) (hBl : B < w.heap.size) (hx : x ∈ l) :
    Calls Try.prog 64 #[.slice (some ⟨g, 0, none⟩) l.length cap, .func (.func 65) #[] #[.pointer (some ⟨B, 0, none⟩)]] w fun e w' => e = .returned (.slice (some ⟨g, 0, none⟩) (without x l).length cap) ∧ w'.ownsRow base 3 1 (.slice (some ⟨g, 0, none⟩) (without x l).length cap) (without x l).length (ivs (without x l)) ∧ w.grownBy w' (some g) := by
  obtain ⟨j0, hj0, hjl, hpre⟩ := idxJ_spec x l 0 hx
  rw [Nat.zero_add] at hj0
  have HI := IndexFunc_any base B g cap l x w hn hr hl
  rw [hj0] at HI
  have HI2 := Lib.hid HI
  have HR := Lib.hid hr
  have HLc := Lib.hid hl
  have hcap : l.length ≤ cap := by
    rcases hr.2 with ⟨h', _⟩ | ⟨g', cap', cur, h', _, _, hc, _⟩
    · simp at h'
    · simp only [Value.slice.injEq, Option.some.injEq, Addr.mk.injEq, and_true, true_and] at h'
      omega
  have hj1 : ((j0 : Int) == -1) = false := by simp
  clear hr HI hl
  go_enter Try.func64, Try.ntmps64
  go_wp2_with (first | (go_at_call 73; refine HI2.out.mono ?_; rintro e w1 ⟨rfl, hw1⟩; rw [hw1]; clear hw1 w1))
  go_loopw [5, 6] (fun a b wr => ∃ (ii jj : Nat) (c : List Int), a = .int .i64 ii ∧ b = .int .i64 jj ∧ ii < jj ∧ jj ≤ l.length ∧ c.length = l.length ∧ wr.ownsRow base 3 1 (.slice (some ⟨g, 0, none⟩) l.length cap) l.length (ivs c) ∧ c.take ii = without x (l.take jj) ∧ c.drop jj = l.drop jj ∧ w.grownBy wr (some g)) (fun _ b _ => (l.length - (RowKit.intOf b).toNat))
  case atStart => exact ⟨j0, j0 + 1, l, rfl, by go_num, by omega, by omega, rfl, HR.out, hpre.symm, rfl, ⟨rfl, rfl, rfl, Nat.le_refl _, fun _ _ _ => rfl⟩⟩
  case round =>
    obtain ⟨ii, jj, c, rfl, rfl, hij, hjn, hcl, hrow, hct, hcd, hG⟩ := hrel
    have hBc : wr.cell? ⟨B, 0, none⟩ = some (.int .i64 x) := by
      have := hG.block B hBl (by simpa using hBg)
      rw [← HLc.out]; simp [World.cell?, this]
    have HC := Lib.hid (fun y => cut1_any B x y wr hBc)
    by_cases hlt : jj < l.length
    · have hki : (jj : Int) < (l.length : Int) := by omega
      have hcj : c[jj]'(by omega) = l[jj] := by
        have := congrArg (fun (t : List Int) => t[0]?) hcd
        simpa [hlt, hcl] using this
      have c0 : wr.cell? ⟨g, jj, none⟩ = some (.int .i64 l[jj]) := (hrow.cellAt jj (by omega)).trans (by unfold ivs; simp [hcl, hlt, hcj])
      have hii : (ii : Int) < (l.length : Int) := by omega
      have c1 : ∃ u, wr.cell? ⟨g, ii, none⟩ = some u := ⟨.int .i64 (c[ii]'(by omega)), (hrow.cellAt ii (by omega)).trans (by unfold ivs; simp [hcl, (by omega : ii < l.length)])⟩
      have f1 : wr.frozen? ⟨g, ii, none⟩ = false := hrow.frozenAt _
      obtain ⟨u1, c1⟩ := c1
      have hws : without x (l.take (jj + 1)) = without x (l.take jj) ++ (if (l[jj] == x) = true then [] else [l[jj]]) := by
        unfold without
        rw [List.take_succ_eq_append_getElem hlt, List.filter_append, List.filter_cons, List.filter_nil]
        by_cases h : (l[jj] == x) = true
        · simp [h]
        · have h' : (l[jj] == x) = false := by simpa using h
          simp [h']
      have HRw := Lib.hid hrow
      have HCt := Lib.hid hct
      have HCd := Lib.hid hcd
      have HWs := Lib.hid hws
      have HGr := Lib.hid hG
      clear hrow hct hcd hws hG hBc
      by_cases he : (l[jj] == x) = true
      · go_wp2_with (go_at_call 65; refine (HC.out _).mono ?_; rintro e w1 ⟨rfl, hw1⟩; rw [hw1]; clear hw1 w1)
        go_roundw
        case rel => exact ⟨ii, jj + 1, c, rfl, by go_num, by omega, by omega, hcl, HRw.out, by rw [HWs.out, if_pos he, List.append_nil]; exact HCt.out, by have := congrArg (List.drop 1) HCd.out; rwa [List.drop_drop, List.drop_drop] at this, HGr.out⟩
        case measure => simp [RowKit.intOf]; omega
      · have he' : (l[jj] == x) = false := by simpa using he
        go_wp2_with (go_at_call 65; refine (HC.out _).mono ?_; rintro e w1 ⟨rfl, hw1⟩; rw [hw1]; clear hw1 w1)
        go_roundw
        case rel =>
          obtain ⟨s1, s2⟩ := HRw.out.stored ii (.int .i64 l[jj])
          rw [ivs_set] at s1
          refine ⟨ii + 1, jj + 1, c.set ii l[jj], by go_num, by go_num, by omega, by omega, by rw [List.length_set]; exact hcl, s1, ?_, ?_, gtrans HGr.out s2⟩
          · rw [HWs.out, if_neg he, ← HCt.out]
            rw [List.take_succ_eq_append_getElem (by rw [List.length_set]; omega), List.getElem_set_self, List.take_set_of_le (Nat.le_refl _)]
          · have := congrArg (List.drop 1) HCd.out
            rw [List.drop_drop, List.drop_drop] at this
            rw [List.drop_set_of_lt (by omega)]; exact this
        case measure => simp [RowKit.intOf]; omega
    · obtain rfl : jj = l.length := by omega
      have hkk : ¬ (l.length : Int) < (l.length : Int) := by omega
      rw [List.take_length] at hct
      have hwl : (without x l).length = ii := by rw [← hct, List.length_take]; omega
      obtain ⟨w3, hcl3, hr3, hg3⟩ := clear_ints (c := cap - ii) hrow hij
      have h0i : (0 : Int) ≤ (ii : Int) := by omega
      have hil : (ii : Int) ≤ (l.length : Int) := by omega
      have hic : (ii : Int) ≤ (cap : Int) := by omega
      have hlc : (l.length : Int) ≤ (cap : Int) := by omega
      have hc0 : ¬ cap = 0 := by omega
      have HR3 := Lib.hid hr3
      have HG3 := Lib.hid (gtrans hG hg3)
      have HCt := Lib.hid hct
      have HWl := Lib.hid hwl
      clear hrow hr3 hg3 hG hct hwl hcd HC
      go_wp2_with fail
      go_ret
      refine ⟨by rw [HWl.out]; rfl, ?_, HG3.out⟩
      have h3 := HR3.out
      rw [ivs_take, HCt.out] at h3
      rw [HWl.out]; exact h3
/-- The box without an entry. -/
def cutR (r : Rc) (x : Int) (iv : Value) : Rc := { r with iv := iv, ob := { r.ob with ents := without x r.ob.ents } }
set_option maxRecDepth 100000 in
set_option maxHeartbeats 1000000 in
theorem cut_any (base : Nat) (r : Rc) (x : Int) (w : World) (h : RAt w base r) (hn : r.ob.ents.length < 1000000) (hx : x ∈ r.ob.ents) :
    Calls Try.prog 44 #[.pointer (some ⟨r.B, 7, none⟩), .int .i64 x] w fun e w' => (∃ v, e = .returned v) ∧ ∃ iv, RAt w' base (cutR r x iv) ∧ iv.ownBlock = r.iv.ownBlock ∧ Fm w w' (foot r) (fun _ => False) := by
  obtain ⟨g, cap, hv⟩ : ∃ g cap, r.iv = .slice (some ⟨g, 0, none⟩) r.ob.ents.length cap := by
    rcases h.row.2 with ⟨_, h0⟩ | ⟨g, cap, _, hv, _⟩
    · rw [List.length_eq_zero_iff.1 h0] at hx; simp at hx
    · exact ⟨g, cap, hv⟩
  have hrw := h.row
  rw [hv] at hrw
  have hgl := (hrw.lt g rfl).2
  have hbl := (h.lt (.inl rfl)).2
  have hW1 : Below w.heap.size w (w.alloc (.cells #[.int .i64 x] 3)) := by go_grown
  have hD := DeleteFunc_any base w.heap.size g cap r.ob.ents x (w.alloc (.cells #[.int .i64 x] 3)) hn (hrw.alloc _) (by simp [go_sem]) (by omega) (by simp) hx
  have HD := Lib.hid hD
  have c7 : (w.alloc (.cells #[.int .i64 x] 3)).cell? ⟨r.B, 7, none⟩ = some (.slice (some ⟨g, 0, none⟩) r.ob.ents.length cap) := by
    rw [hW1.cell (p := ⟨r.B, 7, none⟩) hbl, ← hv]; simp [World.cell?, h.blk, cellsR]
  have hgB : g ≠ r.B := fun e => by have := row_ne hrw h.blk (by decide); rw [e] at this; exact this rfl
  have HH := Lib.hid h
  have HV := Lib.hid hv
  clear h hrw hD
  go_enter Try.func44, Try.ntmps44
  go_wp2_with (first | (go_at_call 64; refine HD.out.mono ?_; rintro e w4 ⟨rfl, hr4, hg4⟩; have hB4 : w4.heap[r.B]? = some (.cells (cellsR r) 54 (0, 0)) := ((hg4.block r.B (by simp; omega) (by simpa using Ne.symm hgB)).trans ((Below.heap_alloc _ _ _ hbl).trans HH.out.blk)); have d7 : w4.cell? ⟨r.B, 7, none⟩ = some r.iv := (by simp [World.cell?, hB4, cellsR]); have g7 : w4.frozen? ⟨r.B, 7, none⟩ = false := (by simp [World.frozen?, hB4]); have HR4 := Lib.hid hr4; have HG4 := Lib.hid hg4; have HB4 := Lib.hid hB4; clear hr4 hg4 hB4))
  go_end0
  have z4 := HG4.out.size
  simp at z4
  refine ⟨⟨_, rfl⟩, .slice (some ⟨g, 0, none⟩) (without x r.ob.ents).length cap, ⟨?_, ?_, ?_, HH.out.low⟩, by rw [HV.out]; rfl, ?_⟩
  · rw [show (cutR r x (.slice (some ⟨g, 0, none⟩) (without x r.ob.ents).length cap)).B = r.B from rfl, heap_setCell_same _ _ _ _ _ _ HB4.out]; rfl
  · refine row_same HH.out.cat (fun k hk => ?_)
    have hkl := (HH.out.cat.lt k hk).2
    rw [heap_ne _ _ _ (fun e => by subst e; exact HH.out.catB hk), HG4.out.block k (by simp; omega) (fun e => by
      have : k = g := by simpa using e
      subst this
      exact HH.out.catRow hk (by rw [HV.out]; rfl)), Below.heap_alloc _ _ _ hkl]
  · exact row_same HR4.out (fun k hk => heap_ne _ _ _ (fun e => by
      have h2 : some g = some k := hk
      have h3 : g = k := Option.some.inj h2
      subst e; exact hgB h3))
  · refine ⟨HG4.out.os, HG4.out.tape, HG4.out.output, by simp; omega, fun k hk hf => ?_, fun k hk => hk.elim⟩
    rw [heap_ne _ _ _ (fun e => hf (.inl e)), HG4.out.block k (by simp; omega) (fun e => hf (.inr (.inr (by rw [HV.out]; exact e.symm)))), Below.heap_alloc _ _ _ hk]
end Go.Proofs.Ytebcnlhgkpaghaa
