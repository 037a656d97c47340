/- What shrink of package pages does. -/
import Derived.Test.YtblhikmhmnkclaaGrow
import Derived.Test.YtblhikmhmnkclaaTail
import Derived.Test.YtblhikmhmnkclaaPInv
import Derived.Lib.SliceRun
namespace Go.Proofs.Ytblhikmhmnkclaa
open Go.RowKit Go.Lib
def setL (xs : List Value) : Nat → List Value → List Value
  | _, [] => xs
  | o, v :: vs => setL (xs.set o v) (o + 1) vs
theorem setL_take : ∀ (vs : List Value) (xs : List Value) (o k : Nat), k ≤ o → (setL xs o vs).take k = xs.take k
  | [], _, _, _, _ => rfl
  | v :: vs, xs, o, k, h => by
    show (setL (xs.set o v) (o + 1) vs).take k = _
    rw [setL_take vs _ (o + 1) k (by omega), List.take_set_of_le h]
theorem gtrans {a b c : World} {r : Option Nat} (h : a.grownBy b r) (k : b.grownBy c r) : a.grownBy c r :=
  ⟨k.os.trans h.os, k.tape.trans h.tape, k.output.trans h.output, Nat.le_trans h.size k.size, fun i hi hr => (k.block i (Nat.lt_of_lt_of_le hi h.size) hr).trans (h.block i hi hr)⟩
theorem own_setCells {base e size g n cap : Nat} : ∀ (vs : List Value) (o : Nat) (xs : List Value) (w : World), w.ownsRow base e size (.slice (some ⟨g, 0, none⟩) n cap) n xs →
    (w.setCells g o vs).ownsRow base e size (.slice (some ⟨g, 0, none⟩) n cap) n (setL xs o vs) ∧ w.grownBy (w.setCells g o vs) (some g)
  | [], _, _, w, h => ⟨h, ⟨rfl, rfl, rfl, Nat.le_refl _, fun _ _ _ => rfl⟩⟩
  | v :: vs, o, xs, w, h => by
    obtain ⟨h1, h2⟩ := h.stored o v
    obtain ⟨h3, h4⟩ := own_setCells vs (o + 1) _ _ h1
    exact ⟨h3, gtrans h2 h4⟩
theorem own_take {base e size g n cap i : Nat} {xs : List Value} {w : World} (h : w.ownsRow base e size (.slice (some ⟨g, 0, none⟩) n cap) n xs) (hi : i ≤ n) : w.ownsRow base e size (.slice (some ⟨g, 0, none⟩) i cap) i (xs.take (i * size)) := by
  have hm : i * size ≤ n * size := Nat.mul_le_mul_right _ hi
  rcases h.2 with ⟨h', _⟩ | ⟨g', cap', cur, h', hb, hg, hnc, hcm, hcs, htake⟩
  · simp at h'
  · simp only [Value.slice.injEq, Option.some.injEq, Addr.mk.injEq, and_true, true_and] at h'
    obtain ⟨rfl, rfl⟩ := h'
    refine ⟨by rw [List.length_take, h.1]; omega, .inr ⟨g, cap, cur, rfl, hb, hg, by omega, hcm, hcs, ?_⟩⟩
    rw [← htake, List.take_take, Nat.min_eq_left hm]
theorem lfs_take : ∀ (ls : List (Nat × Bool)) (i : Nat), (lfs ls).take (i * 2) = lfs (ls.take i)
  | [], i => by simp [lfs]
  | x :: l, 0 => rfl
  | x :: l, i + 1 => by
    rw [show (i + 1) * 2 = i * 2 + 1 + 1 from by omega]
    show Value.pointer (some ⟨x.1, 0, none⟩) :: Value.bool x.2 :: ((lfs l).take (i * 2)) = _
    rw [lfs_take l i]; rfl
/-- 'clear(s)', s a slice of n > 0 elements. -/
theorem run_clear_any {P : Program} (w : World) (t e ty : TypeId) (z : Value) (ht : P.underlying t = some (.slice e)) (hv : ∀ w, (zeroValue e).run P w = .ok z w) (b o n c : Nat) (hn : 0 < n)
    (hc : ∀ j, j < (Builtin.zeroCells z.cells n).toList.length → (w.cell? ⟨b, o + j, none⟩).isSome = true) (hf : ∀ j, j < (Builtin.zeroCells z.cells n).toList.length → w.frozen? ⟨b, o + j, none⟩ = false) (h1 : ∀ v ∈ (Builtin.zeroCells z.cells n).toList, v.oneCell' = true) :
    (Builtin.clear_ #[t] ty #[.slice (some ⟨b, o, none⟩) n c]).run P w = .ok (.tuple #[]) (w.setCells b o (Builtin.zeroCells z.cells n).toList) := by
  have hst := run_storeCells_cells (P := P) b o (Builtin.zeroCells z.cells n).toList 0 w (by simpa using hc) (by simpa using hf) h1
  simp only [Nat.add_zero] at hst
  obtain ⟨m, rfl⟩ : ∃ m, n = m + 1 := ⟨n - 1, by omega⟩
  simp [Builtin.clear_, run_underlying ht, hv]
  rw [hst]
  rfl
theorem zeroLeaf (w : World) : (zeroValue 79).run Try.prog w = .ok (.agg #[.pointer none, .bool false]) w := by
  obtain ⟨i0, hi, hz0, hz1, hz2⟩ := info_parts leafInfo
  simp [zeroValue, typeInfo, hi, hz0]
theorem zeroLeaf_len (n : Nat) : (Builtin.zeroCells (Value.agg #[.pointer none, .bool false]).cells n).toList.length = n * 2 := by
  simp [Builtin.zeroCells, Value.cells]
theorem zeroLeaf_one (n : Nat) : ∀ v ∈ (Builtin.zeroCells (Value.agg #[.pointer none, .bool false]).cells n).toList, v.oneCell' = true := by
  intro v hv
  simp only [Builtin.zeroCells, Value.cells, Array.toList_map, List.mem_map] at hv
  obtain ⟨a, _, rfl⟩ := hv
  have : a % 2 = 0 ∨ a % 2 = 1 := by omega
  rcases this with h | h
  · show (#[Value.pointer none, Value.bool false][a % 2]!).oneCell' = true
    rw [h]; rfl
  · show (#[Value.pointer none, Value.bool false][a % 2]!).oneCell' = true
    rw [h]; rfl
/-- The leaves from i on, cleared. -/
theorem clear_leaves {w : World} {base g cap i c : Nat} {ls : List (Nat × Bool)} (h : w.ownsRow base 79 2 (.slice (some ⟨g, 0, none⟩) ls.length cap) ls.length (lfs ls)) (hi : i < ls.length) :
    ∃ w', (Builtin.clear_ #[45] 0 #[.slice (some ⟨g, i * 2, none⟩) (ls.length - i) c]).run Try.prog w = .ok (.tuple #[]) w' ∧ w'.ownsRow base 79 2 (.slice (some ⟨g, 0, none⟩) i cap) i (lfs (ls.take i)) ∧ w.grownBy w' (some g) := by
  have hl := zeroLeaf_len (ls.length - i)
  refine ⟨_, run_clear_any w 45 79 0 _ Try.underlying45 zeroLeaf g (i * 2) (ls.length - i) c (by omega) ?_ (fun j _ => h.frozenAt _) (zeroLeaf_one _), ?_, ?_⟩
  · intro j hj
    rw [hl] at hj
    rw [h.cellAt (i * 2 + j) (by omega)]
    rw [List.getElem?_eq_getElem (by rw [h.1]; omega)]; rfl
  · obtain ⟨h1, _⟩ := own_setCells (Builtin.zeroCells (Value.agg #[.pointer none, .bool false]).cells (ls.length - i)).toList (i * 2) _ _ h
    have := own_take h1 (Nat.le_of_lt hi)
    rwa [setL_take _ _ _ _ (Nat.le_refl _), lfs_take] at this
  · exact (own_setCells _ (i * 2) _ _ h).2
set_option maxRecDepth 100000 in
set_option maxHeartbeats 1000000 in
theorem Delete_same (sp : Option Addr) (n cap i : Nat) (w : World) (hi : i = n) (hc : n ≤ cap) (hn : n ≤ 64) :
    Calls Try.prog 36 #[.slice sp n cap, .int .i64 i, .int .i64 n] w fun e w' => e = .returned (.slice sp n cap) ∧ w' = w := by
  subst hi
  go_enter Try.func36, Try.ntmps36
  go_wp2
  go_ret
  exact ⟨rfl, rfl⟩
set_option maxRecDepth 100000 in
set_option maxHeartbeats 1000000 in
theorem Delete_any (base g cap i : Nat) (ls : List (Nat × Bool)) (w : World) (hr : w.ownsRow base 79 2 (.slice (some ⟨g, 0, none⟩) ls.length cap) ls.length (lfs ls)) (hi : i < ls.length) (hn : ls.length ≤ 64) :
    Calls Try.prog 36 #[.slice (some ⟨g, 0, none⟩) ls.length cap, .int .i64 i, .int .i64 ls.length] w fun e w' => e = .returned (.slice (some ⟨g, 0, none⟩) i cap) ∧ w'.ownsRow base 79 2 (.slice (some ⟨g, 0, none⟩) i cap) i (lfs (ls.take i)) ∧ w.grownBy w' (some g) := by
  have hcap : ls.length ≤ cap := by
    rcases hr.2 with ⟨h', _⟩ | ⟨g', cap', cur, h', _, _, hc, _⟩
    · simp at h'
    · simp only [Value.slice.injEq, Option.some.injEq, Addr.mk.injEq, and_true, true_and] at h'
      omega
  have hii : (i : Int) < (ls.length : Int) := by omega
  have HR := Lib.hid hr
  clear hr
  go_enter Try.func36, Try.ntmps36
  go_wp2_with fail
  refine wp_region_tail_d 6 (by kernel_rfl) (by kernel_rfl) ?_
  simp only [List.take_succ_cons, List.take_zero, List.drop_succ_cons, List.drop_zero]
  have h0i : (0 : Int) ≤ (i : Int) := by omega
  have h0l : (0 : Int) ≤ (ls.length : Int) := by omega
  have hic : (i : Int) ≤ (cap : Int) := by omega
  have hlc : (ls.length : Int) ≤ (cap : Int) := by omega
  have hll : (ls.length : Int) ≤ (ls.length : Int) := by omega
  have hc0 : ¬ cap = 0 := by omega
  rcases Nat.eq_or_lt_of_le hcap with hcc | hcc
  · subst hcc
    repeat (quiet_step (fail))
    refine wpQuiet_nil ?_
    intro _ hw'
    obtain ⟨nq, hw''⟩ := hw'
    subst hw''
    obtain ⟨w3, hcl, hr3, hg3⟩ := clear_leaves (w := w.drewN nq) (base := base) (g := g) (i := i) (c := ls.length - i) HR.out hi
    have HR3 := Lib.hid hr3
    have HG3 := Lib.hid hg3
    clear hr3 hg3
    go_wp2
    go_ret
    exact ⟨rfl, HR3.out, ⟨HG3.out.os, HG3.out.tape, HG3.out.output, HG3.out.size, HG3.out.block⟩⟩
  · have hcn : ¬ cap = ls.length := by omega
    repeat (quiet_step (fail))
    refine wpQuiet_nil ?_
    intro _ hw'
    obtain ⟨nq, hw''⟩ := hw'
    subst hw''
    obtain ⟨w3, hcl, hr3, hg3⟩ := clear_leaves (w := w.drewN nq) (base := base) (g := g) (i := i) (c := cap - i) HR.out hi
    have HR3 := Lib.hid hr3
    have HG3 := Lib.hid hg3
    clear hr3 hg3
    go_wp2
    go_ret
    exact ⟨rfl, HR3.out, ⟨HG3.out.os, HG3.out.tape, HG3.out.output, HG3.out.size, HG3.out.block⟩⟩
theorem Delete_le (base g cap i : Nat) (ls : List (Nat × Bool)) (w : World) (hr : w.ownsRow base 79 2 (.slice (some ⟨g, 0, none⟩) ls.length cap) ls.length (lfs ls)) (hi : i ≤ ls.length) (hn : ls.length ≤ 64) :
    Calls Try.prog 36 #[.slice (some ⟨g, 0, none⟩) ls.length cap, .int .i64 i, .int .i64 ls.length] w fun e w' => e = .returned (.slice (some ⟨g, 0, none⟩) i cap) ∧ w'.ownsRow base 79 2 (.slice (some ⟨g, 0, none⟩) i cap) i (lfs (ls.take i)) ∧ w.grownBy w' (some g) := by
  rcases Nat.eq_or_lt_of_le hi with rfl | hlt
  · have hcap : ls.length ≤ cap := by
      rcases hr.2 with ⟨h', _⟩ | ⟨g', cap', cur, h', _, _, hc, _⟩
      · simp at h'
      · simp only [Value.slice.injEq, Option.some.injEq, Addr.mk.injEq, and_true, true_and] at h'
        omega
    refine (Delete_same _ _ cap _ w rfl hcap hn).mono ?_
    rintro e w' ⟨rfl, rfl⟩
    exact ⟨rfl, by rw [List.take_length]; exact hr, ⟨rfl, rfl, rfl, Nat.le_refl _, fun _ _ _ => rfl⟩⟩
  · exact Delete_any base g cap i ls w hr hlt hn
/-- Fewer leaves. -/
theorem LAt.cutted {w w4 : World} {base Bb n g cap i : Nat} {d : List UInt8} {ls : List (Nat × Bool)} (h : LAt w base Bb n d ls) (hgl : ∃ cur, w.heap[g]? = some (.cells cur 79 (0, 0)))
    (hg : w.grownBy w4 (some g)) (hr : w4.ownsRow base 79 2 (.slice (some ⟨g, 0, none⟩) i cap) i (lfs (ls.take i))) (hi : i ≤ ls.length) : LAt (w4.setCell ⟨Bb, 1, none⟩ (.slice (some ⟨g, 0, none⟩) i cap)) base Bb n d (ls.take i) := by
  obtain ⟨⟨v, hv, _⟩, hpg, h3, h6⟩ := h
  obtain ⟨cur, hgl⟩ := hgl
  have hk : ∀ (k : Nat) (c : Array Value) (t : TypeId) (f : Nat × Nat), w.heap[k]? = some (.cells c t f) → t ≠ 79 → w4.heap[k]? = some (.cells c t f) := fun k c t f hk ht =>
    (hg.block k (Array.getElem?_eq_some_iff.1 hk).1 (fun e => by cases e; rw [hgl] at hk; cases hk; exact ht rfl)).trans hk
  have hv4 := hk Bb _ _ _ hv (by decide)
  have hne : ∀ (k : Nat) (c : Array Value) (t : TypeId) (f : Nat × Nat), w4.heap[k]? = some (.cells c t f) → t ≠ 47 → k ≠ Bb := fun k c t f hk ht e => by subst e; rw [hv4] at hk; cases hk; exact ht rfl
  refine ⟨⟨_, set2b _ hv4, ?_⟩, ?_, ?_, h6⟩
  · rw [List.length_take, Nat.min_eq_left hi]
    refine hr.kept (row := some Bb) ⟨rfl, rfl, rfl, by simp, fun i _ hi => heap_setCell_ne _ _ _ (fun e => hi (by rw [e]))⟩ (.inr fun e => ?_)
    have : g = Bb := by simpa [Value.ownBlock] using e
    subst this
    rw [hgl] at hv; cases hv
  · intro j x hj
    have hj' : ls[j]? = some x := by
      rw [List.getElem?_take] at hj
      split at hj
      · exact hj
      · cases hj
    obtain ⟨h1, h2⟩ := hpg j x hj'
    have h1' := hk _ _ _ _ h1 (by decide)
    exact ⟨(heap_setCell_ne _ _ _ (hne _ _ _ _ h1' (by decide))).trans h1', h2⟩
  · rw [List.map_take]; exact h3.sublist (List.take_sublist _ _)
/-- How many bytes there are is set. -/
theorem LAt.num {w : World} {base Bb n : Nat} {d : List UInt8} {ls : List (Nat × Bool)} (h : LAt w base Bb n d ls) (m : Nat) : LAt (w.setCell ⟨Bb, 0, none⟩ (.int .i64 m)) base Bb m d ls := by
  obtain ⟨⟨v3, hv3, hr3⟩, hp3, hd3, hb3⟩ := h
  have hne : ∀ (k : Nat) (c : Array Value) (t : TypeId) (f : Nat × Nat), w.heap[k]? = some (.cells c t f) → t ≠ 47 → k ≠ Bb := fun k c t f hk ht e => by subst e; rw [hv3] at hk; cases hk; exact ht rfl
  refine ⟨⟨v3, set2a _ hv3, ?_⟩, ?_, hd3, hb3⟩
  · refine hr3.kept (row := some Bb) ⟨rfl, rfl, rfl, by simp, fun i _ hi => heap_setCell_ne _ _ _ (fun e => hi (by rw [e]))⟩ ?_
    rcases hr3.2 with ⟨rfl, _⟩ | ⟨g, cap, cur, rfl, _, hgb, _⟩
    · exact .inl rfl
    · refine .inr fun e => ?_
      have : g = Bb := by simpa [Value.ownBlock] using e
      exact hne g _ _ _ hgb (by decide) this
  · intro i x hi
    exact ⟨(heap_setCell_ne _ _ _ (hne _ _ _ _ (hp3 i x hi).1 (by decide))).trans (hp3 i x hi).1, (hp3 i x hi).2⟩
/-- The pages hold as well what is alike, page by page. -/
theorem LAt.alike {w : World} {base Bb n : Nat} {d d' : List UInt8} {ls : List (Nat × Bool)} (h : LAt w base Bb n d ls) (he : ∀ i, i < ls.length → pad d' i = pad d i) : LAt w base Bb n d' ls :=
  ⟨h.blk, fun i x hi => by rw [he i (List.getElem?_eq_some_iff.1 hi).1]; exact h.pgs i x hi, h.dis, h.bb⟩
theorem pad_take (d : List UInt8) (n i : Nat) (h : 64 * i + 64 ≤ n) : pad (d.take n) i = pad d i := by
  unfold pad
  apply List.map_congr_left
  intro j hj
  rw [List.mem_range] at hj
  exact getD_take d n _ (by omega)
theorem pad_take_at (d : List UInt8) (n : Nat) (h : n ≤ d.length) : pad (d.take n) (n / 64) = (pad d (n / 64)).take (n % 64) ++ List.replicate (64 - n % 64) 0 := by
  refine ext_getD (by simp [pad_len]; omega) (fun j hj => ?_)
  rw [pad_len] at hj
  have hp : ∀ (d : List UInt8) (i j : Nat), j < 64 → (pad d i).getD j 0 = d.getD (64 * i + j) 0 := fun d i j hj => by
    unfold pad; rw [List.getD_eq_getElem?_getD, List.getElem?_map, List.getElem?_range hj]; rfl
  rw [hp _ _ _ hj, List.getD_eq_getElem?_getD (l := _ ++ _), List.getElem?_append, List.length_take, pad_len]
  by_cases h1 : j < n % 64
  · rw [if_pos (by omega), List.getElem?_take_of_lt h1, ← List.getD_eq_getElem?_getD, hp _ _ _ hj, getD_take _ _ _ (by omega)]
  · rw [if_neg (by omega), List.getElem?_replicate, List.getD_eq_getElem?_getD, List.getElem?_eq_none (by rw [List.length_take]; omega)]
    split <;> rfl
set_option maxRecDepth 100000 in
theorem slice_from (pb lo : Nat) (w : World) (h3 : lo < 64) : (Instr.sliceAt 96 (.pointer (some ⟨pb, 0, none⟩)) (some (.int .i64 (lo : Int))) none none).run Try.prog w = .ok (.slice (some ⟨pb, lo, none⟩) (64 - lo) (64 - lo)) w := by
  have ha : Try.prog.arrayLen 96 = 64 := by kernel_rfl
  have he : Try.prog.elem 96 = 5 := by kernel_rfl
  have hz : (Go.sizeOf 5).run Try.prog w = .ok 1 w := by
    obtain ⟨i, hi⟩ := Option.isSome_iff_exists.1 (show (Try.prog.info? 5).isSome = true by kernel_rfl)
    have hs : (Try.prog.info? 5).map (·.size) = some 1 := by kernel_rfl
    rw [hi] at hs
    simp only [Option.map_some, Option.some.injEq] at hs
    simp [Go.sizeOf, typeInfo, hi, hs]
  have := run_sliceAt_array_l (P := Try.prog) w 96 ⟨pb, 0, none⟩ (by kernel_rfl) .i64 lo (by omega) (by rw [ha]; omega)
  rw [this, he, hz]
  simp only [Result.andThen, slicedAt, Int.toNat_natCast, ha, Nat.mul_one]
  rw [if_neg (by omega)]
  congr 3
  unfold Addr.add; split <;> simp_all
/-- A page of one's own is set. -/
theorem LAt.page_set {w : World} {base Bb n i pb : Nat} {d d' : List UInt8} {ls : List (Nat × Bool)} (h : LAt w base Bb n d ls) (hi : ls[i]? = some (pb, true)) (he : ∀ j, j < ls.length → j ≠ i → pad d' j = pad d j) :
    LAt (w.setRow pb (u8s (pad d' i)).toArray) base Bb n d' ls ∧ Below base w (w.setRow pb (u8s (pad d' i)).toArray) := by
  obtain ⟨⟨v, hv, hr⟩, hp, h3, h6⟩ := h
  obtain ⟨hpb, hown⟩ := hp i _ hi
  have hb := hown rfl
  have hne : ∀ (k : Nat) (c : Array Value) (t : TypeId) (f : Nat × Nat), w.heap[k]? = some (.cells c t f) → t ≠ 96 → k ≠ pb := fun k c t f hk ht e => by
    subst e; rw [hpb] at hk; cases hk; exact ht rfl
  refine ⟨⟨⟨v, ?_, ?_⟩, ?_, h3, h6⟩, below_setRow (Below.refl _ _) hb _⟩
  · rw [setRow_other _ _ _ _ (hne Bb _ _ _ hv (by decide))]; exact hv
  · have hg : w.grownBy (w.setRow pb (u8s (pad d' i)).toArray) (some pb) := ⟨rfl, rfl, rfl, by simp, fun k _ hk => setRow_other _ _ _ _ (fun e => hk (by rw [e]))⟩
    refine hr.kept hg ?_
    rcases hr.2 with ⟨rfl, _⟩ | ⟨g, cap, cur, rfl, _, hgb, _⟩
    · exact .inl rfl
    · refine .inr fun e => ?_
      have : g = pb := by simpa [Value.ownBlock] using e
      exact hne g _ _ _ hgb (by decide) this
  · intro j y hj
    obtain ⟨h1, h2⟩ := hp j y hj
    refine ⟨?_, h2⟩
    by_cases hij : j = i
    · subst hij
      rw [hi] at hj; cases hj
      exact setRow_heap _ _ _ _ _ _ hpb
    · rw [setRow_other _ _ _ _ (fun e => dis_ne h3 hj hi hij e), h1, he j (List.getElem?_eq_some_iff.1 hj).1 hij]
theorem zeroByte (w : World) : (zeroValue 5).run Try.prog w = .ok (.int .u8 0) w := by
  obtain ⟨i, hi⟩ := Option.isSome_iff_exists.1 (show (Try.prog.info? 5).isSome = true by kernel_rfl)
  have hs : (Try.prog.info? 5).map (·.zero) = some (some (.int .u8 0)) := by kernel_rfl
  rw [hi] at hs
  simp only [Option.map_some, Option.some.injEq] at hs
  simp [zeroValue, typeInfo, hi, hs]
theorem zeroByte_cells (n : Nat) : (Builtin.zeroCells (Value.int .u8 0).cells n).toList = u8s (List.replicate n 0) := by
  apply List.ext_getElem
  · simp [Builtin.zeroCells, Value.cells, u8s]
  · intro i h1 h2
    simp [Builtin.zeroCells, Value.cells, u8s, Nat.mod_one]
/-- The bytes of a page from lo on, cleared. -/
theorem clear_page {w : World} {pb lo : Nat} {l : List UInt8} (h : w.heap[pb]? = some (.cells (u8s l).toArray 96 (0, 0))) (hl : l.length = 64) (hlo : lo < 64) (ty : TypeId) (c : Nat) :
    (Builtin.clear_ #[64] ty #[.slice (some ⟨pb, lo, none⟩) (64 - lo) c]).run Try.prog w = .ok (.tuple #[]) (w.setRow pb (u8s (l.take lo ++ List.replicate (64 - lo) 0)).toArray) := by
  have hsz : (u8s l).length = 64 := by simp [u8s, hl]
  have hst := run_storeCells_at Try.prog pb lo 96 (u8s (List.replicate (64 - lo) 0)) 0 _ w h (by simp [u8s, hl]; omega) (by intro v hv; simp [u8s] at hv; obtain ⟨_, rfl⟩ := hv; rfl)
  simp only [Nat.add_zero] at hst
  have hrow : ((u8s l).toArray.toList.take lo ++ u8s (List.replicate (64 - lo) 0) ++ (u8s l).toArray.toList.drop (lo + (u8s (List.replicate (64 - lo) 0)).length)).toArray = (u8s (l.take lo ++ List.replicate (64 - lo) 0)).toArray := by
    rw [List.drop_eq_nil_of_le (by simp [u8s, hl]; omega), List.append_nil]
    simp [u8s, List.map_take]
  rw [hrow] at hst
  obtain ⟨m, hm⟩ : ∃ m, 64 - lo = m + 1 := ⟨63 - lo, by omega⟩
  rw [hm] at hst ⊢
  simp [Builtin.clear_, run_underlying Try.underlying64, zeroByte_cells]
  rw [hst]
  rfl
set_option maxRecDepth 100000 in
set_option maxHeartbeats 1000000 in
theorem shrink_any (base Bb n : Nat) (d : List UInt8) (ls : List (Nat × Bool)) (w : World) (h : BAt N0 w base Bb d ls) (hn : n < d.length) :
    Calls Try.prog 24 #[.pointer (some ⟨Bb, 0, none⟩), .int .i64 n] w fun e w' => (∃ v, e = .returned v) ∧ (∃ ls', BAt N0 w' base Bb (d.take n) ls') ∧ Below base w w' ∧ Fz w w' := by
  have hlen := h.len
  have HP := Lib.hid (pagesOf_any n (by omega))
  have HCnt := Lib.hid h.cnt
  have hll : (n + 63) / 64 ≤ ls.length := by rw [h.cnt]; omega
  have hl0 : 0 < ls.length := by rw [h.cnt]; omega
  have hl64 : ls.length ≤ 64 := by rw [h.cnt]; omega
  obtain ⟨v, hv, hr⟩ := h.blk
  obtain ⟨g, cap, rfl⟩ : ∃ g cap, v = .slice (some ⟨g, 0, none⟩) ls.length cap := by
    rcases hr.2 with ⟨_, h⟩ | ⟨g, cap, _, h, _⟩
    · omega
    · exact ⟨g, cap, h⟩
  have c1 : w.cell? ⟨Bb, 1, none⟩ = some (.slice (some ⟨g, 0, none⟩) ls.length cap) := by simp [World.cell?, hv]
  have HV := Lib.hid hv
  have HR := Lib.hid hr
  have HH := Lib.hid h
  clear h hv hr
  go_enter Try.func24, Try.ntmps24
  go_wp2_with fail
  have hBg : Bb ≠ g := fun e => by
    subst e
    rcases HR.out.2 with ⟨h', _⟩ | ⟨g', cap', cur, h', _, hgb, _⟩
    · simp at h'
    · simp only [Value.slice.injEq, Option.some.injEq, Addr.mk.injEq, and_true, true_and] at h'
      obtain ⟨rfl, rfl⟩ := h'
      rw [HV.out] at hgb; cases hgb
  have e40 : ∀ args w, (callFunc 37 args).run Try.prog w = .ok (.enter 37 args) w := enters_of Try.func37 (by kernel_rfl) rfl
  have e46 : ∀ args w, (callFunc 36 args).run Try.prog w = .ok (.enter 36 args) w := enters_of Try.func36 (by kernel_rfl) rfl
  refine wp_region_inv (I := (fun li a' w' => ∃ (b0 b1 b2 b3 b4 b5 b6 b7 b8 b9 b10 b11 b12 b13 b14 b15 : Bool) (t5 t6 t7 t8 t9 t10 t11 t12 t13 t14 t15 t16 t17 t18 t19 : Value), li = #[b0, b1, b2, b3, b4, b5, b6, b7, b8, b9, b10, b11, b12, b13, b14, b15] ∧ a' = { tmps := #[.pointer (some ⟨Bb, 0, none⟩), .int .i64 n, undef, undef, undef, t5, t6, t7, t8, t9, t10, t11, t12, t13, t14, t15, t16, t17, t18, t19, undef, undef, undef, undef, undef, undef, undef, undef, undef, undef, undef, undef, undef, undef, undef], defers := [] } ∧ (b0 = true → t5 = .pointer (some ⟨Bb, 0, none⟩)) ∧ (b1 = true → t6 = .pointer (some ⟨Bb, 0, none⟩)) ∧ (b2 = true → t7 = .pointer (some ⟨Bb, 0, none⟩)) ∧ (b3 = true → t8 = .pointer (some ⟨Bb, 1, none⟩)) ∧ (b4 = true → t9 = .slice (some ⟨g, 0, none⟩) ls.length cap) ∧ (b5 = true → t10 = .int .i64 n) ∧ (b6 = true → t11 = .int .i64 ((n + 63) / 64 : Nat)) ∧ (b7 = true → t12 = .pointer (some ⟨Bb, 0, none⟩)) ∧ (b8 = true → t13 = .pointer (some ⟨Bb, 0, none⟩)) ∧ (b9 = true → t14 = .pointer (some ⟨Bb, 1, none⟩)) ∧ (b10 = true → t15 = .slice (some ⟨g, 0, none⟩) ls.length cap) ∧ (b11 = true → t16 = .int .i64 ls.length) ∧ (b12 = true → t17 = .slice (some ⟨g, 0, none⟩) ((n + 63) / 64) cap) ∧ (b13 = true → t18 = .pointer (some ⟨Bb, 0, none⟩)) ∧ (b14 = true → t19 = .pointer (some ⟨Bb, 1, none⟩)) ∧ (b12 = true → b4 = true ∧ b10 = true) ∧ (b11 = true → b10 = true) ∧ (b15 = true → b12 = true) ∧ ((b12 = false ∧ b15 = false ∧ w' = w.drew) ∨ (b12 = true ∧ b15 = false ∧ (w'.ownsRow base 79 2 (.slice (some ⟨g, 0, none⟩) ((n + 63) / 64) cap) ((n + 63) / 64) (lfs (ls.take ((n + 63) / 64))) ∧ w.grownBy w' (some g))) ∨ (b15 = true ∧ (∃ w2, w2.ownsRow base 79 2 (.slice (some ⟨g, 0, none⟩) ((n + 63) / 64) cap) ((n + 63) / 64) (lfs (ls.take ((n + 63) / 64))) ∧ w.grownBy w2 (some g) ∧ w' = w2.setCell ⟨Bb, 1, none⟩ (.slice (some ⟨g, 0, none⟩) ((n + 63) / 64) cap)))))) (by kernel_rfl) ?step ?fin ⟨false, false, false, false, false, false, false, false, false, false, false, false, false, false, false, false, undef, undef, undef, undef, undef, undef, undef, undef, undef, undef, undef, undef, undef, undef, undef, rfl, rfl, by simp, by simp, by simp, by simp, by simp, by simp, by simp, by simp, by simp, by simp, by simp, by simp, by simp, by simp, by simp, by simp, by simp, by simp, .inl ⟨rfl, rfl, rfl⟩⟩
  case step =>
    rintro li a' w' i o ⟨b0, b1, b2, b3, b4, b5, b6, b7, b8, b9, b10, b11, b12, b13, b14, b15, t5, t6, t7, t8, t9, t10, t11, t12, t13, t14, t15, t16, t17, t18, t19, rfl, rfl, f0, f1, f2, f3, f4, f5, f6, f7, f8, f9, f10, f11, f12, f13, f14, x1, x2, x3, hst⟩ hu ho hd
    have hi : i < 16 := (Array.getElem?_eq_some_iff.1 ho).1
    obtain rfl | rfl | rfl | rfl | rfl | rfl | rfl | rfl | rfl | rfl | rfl | rfl | rfl | rfl | rfl | rfl : i = 0 ∨ i = 1 ∨ i = 2 ∨ i = 3 ∨ i = 4 ∨ i = 5 ∨ i = 6 ∨ i = 7 ∨ i = 8 ∨ i = 9 ∨ i = 10 ∨ i = 11 ∨ i = 12 ∨ i = 13 ∨ i = 14 ∨ i = 15 := by omega
    · obtain rfl : _ = o := Option.some.inj ho
      have ui : b0 = false := hu
      refine ⟨rfl, .inl ⟨.pointer (some ⟨Bb, 0, none⟩), w', ?_, ⟨true, b1, b2, b3, b4, b5, b6, b7, b8, b9, b10, b11, b12, b13, b14, b15, _, _, _, _, _, _, _, _, _, _, _, _, _, _, _, rfl, rfl, (fun _ => rfl), f1, f2, f3, f4, f5, f6, f7, f8, f9, f10, f11, f12, f13, f14, x1, x2, x3, hst⟩⟩⟩
      clear hst hu ho hd
      go_simp
    · obtain rfl : _ = o := Option.some.inj ho
      have ui : b1 = false := hu
      refine ⟨rfl, .inl ⟨.pointer (some ⟨Bb, 0, none⟩), w', ?_, ⟨b0, true, b2, b3, b4, b5, b6, b7, b8, b9, b10, b11, b12, b13, b14, b15, _, _, _, _, _, _, _, _, _, _, _, _, _, _, _, rfl, rfl, f0, (fun _ => rfl), f2, f3, f4, f5, f6, f7, f8, f9, f10, f11, f12, f13, f14, x1, x2, x3, hst⟩⟩⟩
      clear hst hu ho hd
      go_simp
    · obtain rfl : _ = o := Option.some.inj ho
      have ui : b2 = false := hu
      have e1 : b1 = true := hd ⟨1, .data⟩ (by simp) rfl
      have g1 := f1 e1
      subst g1
      refine ⟨rfl, .inl ⟨.pointer (some ⟨Bb, 0, none⟩), w', ?_, ⟨b0, b1, true, b3, b4, b5, b6, b7, b8, b9, b10, b11, b12, b13, b14, b15, _, _, _, _, _, _, _, _, _, _, _, _, _, _, _, rfl, rfl, f0, f1, (fun _ => rfl), f3, f4, f5, f6, f7, f8, f9, f10, f11, f12, f13, f14, x1, x2, x3, hst⟩⟩⟩
      clear hst hu ho hd
      go_simp
    · obtain rfl : _ = o := Option.some.inj ho
      have ui : b3 = false := hu
      have e2 : b2 = true := hd ⟨2, .data⟩ (by simp) rfl
      have g2 := f2 e2
      subst g2
      refine ⟨rfl, .inl ⟨.pointer (some ⟨Bb, 1, none⟩), w', ?_, ⟨b0, b1, b2, true, b4, b5, b6, b7, b8, b9, b10, b11, b12, b13, b14, b15, _, _, _, _, _, _, _, _, _, _, _, _, _, _, _, rfl, rfl, f0, f1, f2, (fun _ => rfl), f4, f5, f6, f7, f8, f9, f10, f11, f12, f13, f14, x1, x2, x3, hst⟩⟩⟩
      clear hst hu ho hd
      go_simp
    · obtain rfl : _ = o := Option.some.inj ho
      have ui : b4 = false := hu
      have e3 : b3 = true := hd ⟨3, .data⟩ (by simp) rfl
      have g3 := f3 e3
      subst g3
      have hw' : w' = w.drew := by
        rcases hst with ⟨_, _, h⟩ | ⟨h, _, _⟩ | ⟨h, _⟩
        · exact h
        · have := x1 h; simp [ui] at this
        · have := x1 (x3 h); simp [ui] at this
      have c1' : w'.cell? ⟨Bb, 1, none⟩ = some (.slice (some ⟨g, 0, none⟩) ls.length cap) := by rw [hw']; exact c1
      refine ⟨rfl, .inl ⟨.slice (some ⟨g, 0, none⟩) ls.length cap, w', ?_, ⟨b0, b1, b2, b3, true, b5, b6, b7, b8, b9, b10, b11, b12, b13, b14, b15, _, _, _, _, _, _, _, _, _, _, _, _, _, _, _, rfl, rfl, f0, f1, f2, f3, (fun _ => rfl), f5, f6, f7, f8, f9, f10, f11, f12, f13, f14, (fun h => ⟨rfl, (x1 h).2⟩), x2, x3, hst⟩⟩⟩
      clear hst hu ho hd hw'
      go_simp
    · obtain rfl : _ = o := Option.some.inj ho
      have ui : b5 = false := hu
      refine ⟨rfl, .inl ⟨.int .i64 n, w', ?_, ⟨b0, b1, b2, b3, b4, true, b6, b7, b8, b9, b10, b11, b12, b13, b14, b15, _, _, _, _, _, _, _, _, _, _, _, _, _, _, _, rfl, rfl, f0, f1, f2, f3, f4, (fun _ => rfl), f6, f7, f8, f9, f10, f11, f12, f13, f14, x1, x2, x3, hst⟩⟩⟩
      clear hst hu ho hd
      go_simp
    · obtain rfl : _ = o := Option.some.inj ho
      have ui : b6 = false := hu
      have e5 : b5 = true := hd ⟨5, .data⟩ (by simp) rfl
      have g5 := f5 e5
      subst g5
      refine ⟨rfl, .inr (.inr ⟨37, #[.int .i64 n], ?_, ?_⟩)⟩
      · clear hst hu ho hd
        go_simp
      · refine (HP.out w').mono ?_
        rintro e w1 ⟨rfl, rfl⟩
        exact ⟨_, rfl, ⟨b0, b1, b2, b3, b4, b5, true, b7, b8, b9, b10, b11, b12, b13, b14, b15, _, _, _, _, _, _, _, _, _, _, _, _, _, _, _, rfl, rfl, f0, f1, f2, f3, f4, f5, (fun _ => rfl), f7, f8, f9, f10, f11, f12, f13, f14, x1, x2, x3, hst⟩⟩
    · obtain rfl : _ = o := Option.some.inj ho
      have ui : b7 = false := hu
      refine ⟨rfl, .inl ⟨.pointer (some ⟨Bb, 0, none⟩), w', ?_, ⟨b0, b1, b2, b3, b4, b5, b6, true, b8, b9, b10, b11, b12, b13, b14, b15, _, _, _, _, _, _, _, _, _, _, _, _, _, _, _, rfl, rfl, f0, f1, f2, f3, f4, f5, f6, (fun _ => rfl), f8, f9, f10, f11, f12, f13, f14, x1, x2, x3, hst⟩⟩⟩
      clear hst hu ho hd
      go_simp
    · obtain rfl : _ = o := Option.some.inj ho
      have ui : b8 = false := hu
      have e7 : b7 = true := hd ⟨7, .data⟩ (by simp) rfl
      have g7 := f7 e7
      subst g7
      refine ⟨rfl, .inl ⟨.pointer (some ⟨Bb, 0, none⟩), w', ?_, ⟨b0, b1, b2, b3, b4, b5, b6, b7, true, b9, b10, b11, b12, b13, b14, b15, _, _, _, _, _, _, _, _, _, _, _, _, _, _, _, rfl, rfl, f0, f1, f2, f3, f4, f5, f6, f7, (fun _ => rfl), f9, f10, f11, f12, f13, f14, x1, x2, x3, hst⟩⟩⟩
      clear hst hu ho hd
      go_simp
    · obtain rfl : _ = o := Option.some.inj ho
      have ui : b9 = false := hu
      have e8 : b8 = true := hd ⟨8, .data⟩ (by simp) rfl
      have g8 := f8 e8
      subst g8
      refine ⟨rfl, .inl ⟨.pointer (some ⟨Bb, 1, none⟩), w', ?_, ⟨b0, b1, b2, b3, b4, b5, b6, b7, b8, true, b10, b11, b12, b13, b14, b15, _, _, _, _, _, _, _, _, _, _, _, _, _, _, _, rfl, rfl, f0, f1, f2, f3, f4, f5, f6, f7, f8, (fun _ => rfl), f10, f11, f12, f13, f14, x1, x2, x3, hst⟩⟩⟩
      clear hst hu ho hd
      go_simp
    · obtain rfl : _ = o := Option.some.inj ho
      have ui : b10 = false := hu
      have e9 : b9 = true := hd ⟨9, .data⟩ (by simp) rfl
      have g9 := f9 e9
      subst g9
      have hw' : w' = w.drew := by
        rcases hst with ⟨_, _, h⟩ | ⟨h, _, _⟩ | ⟨h, _⟩
        · exact h
        · have := x1 h; simp [ui] at this
        · have := x1 (x3 h); simp [ui] at this
      have c1' : w'.cell? ⟨Bb, 1, none⟩ = some (.slice (some ⟨g, 0, none⟩) ls.length cap) := by rw [hw']; exact c1
      refine ⟨rfl, .inl ⟨.slice (some ⟨g, 0, none⟩) ls.length cap, w', ?_, ⟨b0, b1, b2, b3, b4, b5, b6, b7, b8, b9, true, b11, b12, b13, b14, b15, _, _, _, _, _, _, _, _, _, _, _, _, _, _, _, rfl, rfl, f0, f1, f2, f3, f4, f5, f6, f7, f8, f9, (fun _ => rfl), f11, f12, f13, f14, (fun h => ⟨(x1 h).1, rfl⟩), (fun _ => rfl), x3, hst⟩⟩⟩
      clear hst hu ho hd hw'
      go_simp
    · obtain rfl : _ = o := Option.some.inj ho
      have ui : b11 = false := hu
      have e10 : b10 = true := hd ⟨10, .data⟩ (by simp) rfl
      have g10 := f10 e10
      subst g10
      refine ⟨rfl, .inl ⟨.int .i64 ls.length, w', ?_, ⟨b0, b1, b2, b3, b4, b5, b6, b7, b8, b9, b10, true, b12, b13, b14, b15, _, _, _, _, _, _, _, _, _, _, _, _, _, _, _, rfl, rfl, f0, f1, f2, f3, f4, f5, f6, f7, f8, f9, f10, (fun _ => rfl), f12, f13, f14, x1, (fun _ => e10), x3, hst⟩⟩⟩
      clear hst hu ho hd
      go_simp
    · obtain rfl : _ = o := Option.some.inj ho
      have ui : b12 = false := hu
      have e4 : b4 = true := hd ⟨4, .data⟩ (by simp) rfl
      have g4 := f4 e4
      subst g4
      have e6 : b6 = true := hd ⟨6, .data⟩ (by simp) rfl
      have g6 := f6 e6
      subst g6
      have e11 : b11 = true := hd ⟨11, .data⟩ (by simp) rfl
      have g11 := f11 e11
      subst g11
      have hw' : w' = w.drew ∧ b15 = false := by
        rcases hst with ⟨_, h2, h⟩ | ⟨h, _, _⟩ | ⟨h, _⟩
        · exact ⟨h, h2⟩
        · rw [ui] at h; cases h
        · have := x3 h; rw [ui] at this; cases this
      obtain ⟨hw', h15⟩ := hw'
      refine ⟨rfl, .inr (.inr ⟨36, #[.slice (some ⟨g, 0, none⟩) ls.length cap, .int .i64 ((n + 63) / 64 : Nat), .int .i64 ls.length], ?_, ?_⟩)⟩
      · clear hst hu ho hd hw'
        go_simp
      · subst hw'
        refine (Delete_le base g cap ((n + 63) / 64) ls w.drew HR.out hll hl64).mono ?_
        rintro e w1 ⟨rfl, hr2, hg2⟩
        exact ⟨_, rfl, ⟨b0, b1, b2, b3, b4, b5, b6, b7, b8, b9, b10, b11, true, b13, b14, b15, _, _, _, _, _, _, _, _, _, _, _, _, _, _, _, rfl, rfl, f0, f1, f2, f3, f4, f5, f6, f7, f8, f9, f10, f11, (fun _ => rfl), f13, f14, (fun _ => ⟨e4, x2 e11⟩), x2, (fun _ => rfl), (.inr (.inl ⟨rfl, h15, hr2, ⟨hg2.os, hg2.tape, hg2.output, hg2.size, hg2.block⟩⟩))⟩⟩
    · obtain rfl : _ = o := Option.some.inj ho
      have ui : b13 = false := hu
      have e0 : b0 = true := hd ⟨0, .data⟩ (by simp) rfl
      have g0 := f0 e0
      subst g0
      refine ⟨rfl, .inl ⟨.pointer (some ⟨Bb, 0, none⟩), w', ?_, ⟨b0, b1, b2, b3, b4, b5, b6, b7, b8, b9, b10, b11, b12, true, b14, b15, _, _, _, _, _, _, _, _, _, _, _, _, _, _, _, rfl, rfl, f0, f1, f2, f3, f4, f5, f6, f7, f8, f9, f10, f11, f12, (fun _ => rfl), f14, x1, x2, x3, hst⟩⟩⟩
      clear hst hu ho hd
      go_simp
    · obtain rfl : _ = o := Option.some.inj ho
      have ui : b14 = false := hu
      have e13 : b13 = true := hd ⟨13, .data⟩ (by simp) rfl
      have g13 := f13 e13
      subst g13
      refine ⟨rfl, .inl ⟨.pointer (some ⟨Bb, 1, none⟩), w', ?_, ⟨b0, b1, b2, b3, b4, b5, b6, b7, b8, b9, b10, b11, b12, b13, true, b15, _, _, _, _, _, _, _, _, _, _, _, _, _, _, _, rfl, rfl, f0, f1, f2, f3, f4, f5, f6, f7, f8, f9, f10, f11, f12, f13, (fun _ => rfl), x1, x2, x3, hst⟩⟩⟩
      clear hst hu ho hd
      go_simp
    · obtain rfl : _ = o := Option.some.inj ho
      have ui : b15 = false := hu
      have e14 : b14 = true := hd ⟨14, .data⟩ (by simp) rfl
      have g14 := f14 e14
      subst g14
      have e12 : b12 = true := hd ⟨12, .data⟩ (by simp) rfl
      have g12 := f12 e12
      subst g12
      have hD : (w'.ownsRow base 79 2 (.slice (some ⟨g, 0, none⟩) ((n + 63) / 64) cap) ((n + 63) / 64) (lfs (ls.take ((n + 63) / 64))) ∧ w.grownBy w' (some g)) := by
        rcases hst with ⟨h, _⟩ | ⟨_, _, h⟩ | ⟨h, _⟩
        · rw [e12] at h; cases h
        · exact h
        · rw [ui] at h; cases h
      have hv4 : w'.heap[Bb]? = some (.cells #[.int .i64 d.length, .slice (some ⟨g, 0, none⟩) ls.length cap] 47 (0, 0)) := (hD.2.block Bb (Array.getElem?_eq_some_iff.1 HV.out).1 (fun e => by cases e; exact hBg rfl)).trans HV.out
      have c4 : w'.frozen? ⟨Bb, 1, none⟩ = false := by simp [World.frozen?, hv4]
      have d4 : w'.cell? ⟨Bb, 1, none⟩ = some (.slice (some ⟨g, 0, none⟩) ls.length cap) := by simp [World.cell?, hv4]
      refine ⟨rfl, .inr (.inl ⟨_, ?_, ⟨b0, b1, b2, b3, b4, b5, b6, b7, b8, b9, b10, b11, b12, b13, b14, true, _, _, _, _, _, _, _, _, _, _, _, _, _, _, _, rfl, rfl, f0, f1, f2, f3, f4, f5, f6, f7, f8, f9, f10, f11, f12, f13, f14, x1, x2, (fun _ => e12), (.inr (.inr ⟨rfl, w', hD.1, hD.2, rfl⟩))⟩⟩)⟩
      clear hst hu ho hd hD hv4
      go_simp
  case fin =>
    rintro li a' w' ⟨b0, b1, b2, b3, b4, b5, b6, b7, b8, b9, b10, b11, b12, b13, b14, b15, t5, t6, t7, t8, t9, t10, t11, t12, t13, t14, t15, t16, t17, t18, t19, rfl, rfl, f0, f1, f2, f3, f4, f5, f6, f7, f8, f9, f10, f11, f12, f13, f14, x1, x2, x3, hst⟩ hrd
    have hall := ready_nil_all (by kernel_rfl) rfl hrd 15
    have e15 : b15 = true := hall 15 (by omega) (by decide)
    have hE : ∃ w2, w2.ownsRow base 79 2 (.slice (some ⟨g, 0, none⟩) ((n + 63) / 64) cap) ((n + 63) / 64) (lfs (ls.take ((n + 63) / 64))) ∧ w.grownBy w2 (some g) ∧ w' = w2.setCell ⟨Bb, 1, none⟩ (.slice (some ⟨g, 0, none⟩) ((n + 63) / 64) cap) := by
      rcases hst with ⟨_, h, _⟩ | ⟨_, h, _⟩ | ⟨_, h⟩
      · rw [e15] at h; cases h
      · rw [e15] at h; cases h
      · exact h
    obtain ⟨w2, hr2, hg2, rfl⟩ := hE
    clear hst f0 f1 f2 f3 f4 f5 f6 f7 f8 f9 f10 f11 f12 f13 f14 x1 x2 x3 hall hrd e15
    have hgl : ∃ cur, w.heap[g]? = some (.cells cur 79 (0, 0)) := by
      rcases HR.out.2 with ⟨h', _⟩ | ⟨g', cap', cur, h', _, hgb, _⟩
      · simp at h'
      · simp only [Value.slice.injEq, Option.some.injEq, Addr.mk.injEq, and_true, true_and] at h'
        obtain ⟨rfl, rfl⟩ := h'
        exact ⟨cur, hgb⟩
    have hL2 := HH.out.toL.cutted hgl hg2 hr2 hll
    have hgb : base ≤ g := (HR.out.lt g rfl).1
    have hbb := HH.out.bb
    have hlB : Bb < w.heap.size := (Array.getElem?_eq_some_iff.1 HV.out).1
    have hB2 : Below base w (w2.setCell ⟨Bb, 1, none⟩ (.slice (some ⟨g, 0, none⟩) ((n + 63) / 64) cap)) :=
      (show Below base w w2 from ⟨hg2.os, hg2.tape, hg2.output, hg2.size, fun k hk => hg2.block k (by omega) (fun e => by cases e; omega)⟩).setCell (p := ⟨Bb, 1, none⟩) hbb _
    have hF2 : Fz w (w2.setCell ⟨Bb, 1, none⟩ (.slice (some ⟨g, 0, none⟩) ((n + 63) / 64) cap)) := by
      obtain ⟨cur, hgl⟩ := hgl
      exact (show Fz w w2 from ⟨hg2.size, fun k o hk h1 _ _ => (hg2.block k (Array.getElem?_eq_some_iff.1 hk).1 (fun e => by cases e; rw [hgl] at hk; cases hk; exact h1 _ _ rfl)).trans hk⟩).set ((hg2.block Bb hlB (fun e => by cases e; exact hBg rfl)).trans HV.out) 1 _
    clear hr2 hg2 hgl
    generalize w2.setCell ⟨Bb, 1, none⟩ (.slice (some ⟨g, 0, none⟩) ((n + 63) / 64) cap) = W at hL2 hB2 hF2 ⊢
    have HL2 := Lib.hid hL2
    obtain ⟨v2, hv2, _⟩ := hL2.blk
    have HV2 := Lib.hid hv2
    have d0 : W.cell? ⟨Bb, 0, none⟩ = some (.int .i64 d.length) := by simp [World.cell?, hv2]
    have df : W.frozen? ⟨Bb, 0, none⟩ = false := by simp [World.frozen?, hv2]
    have hlW : Bb < W.heap.size := (Array.getElem?_eq_some_iff.1 hv2).1
    clear hL2 hv2 c1 e40 e46
    have hfin : ∀ (W' : World) {l : List (Nat × Bool)}, LAt W' base Bb n (d.take n) l → l.length = (n + 63) / 64 → BAt N0 W' base Bb (d.take n) l := fun W' l hl hc => by
      have hdl : (d.take n).length = n := by rw [List.length_take]; omega
      refine LAt.toB (by rw [hdl]; exact hl) (by omega) (by rw [hdl]; exact hc)
    by_cases hov : n % 64 = 0
    · have hovi : (n : Int) % 64 = 0 := by omega
      go_wp2
      go_end0
      refine ⟨⟨_, rfl⟩, ⟨_, hfin _ ((HL2.out.alike (fun i hi => pad_take d n i ?_)).num n) (by rw [List.length_take, Nat.min_eq_left hll])⟩, hB2.setCell (p := ⟨Bb, 0, none⟩) hbb _, hF2.set HV2.out 0 _⟩
      rw [List.length_take, Nat.min_eq_left hll] at hi
      omega
    · have hovi : ¬ (n : Int) % 64 = 0 := by omega
      have hovi2 : (0 : Int) < (n : Int) % 64 := by omega
      have hi64 : n / 64 < (ls.take ((n + 63) / 64)).length := by rw [List.length_take, Nat.min_eq_left hll]; omega
      obtain ⟨xo, hxo⟩ : ∃ xo, (ls.take ((n + 63) / 64))[n / 64]? = some xo := by
        rw [List.getElem?_eq_getElem hi64]; exact ⟨_, rfl⟩
      have HO := Lib.hid (openL_any base Bb (n / 64) d.length d _ W HL2.out xo hxo)
      go_wp2_with (first | (go_at_call 26; refine HO.out.mono ?_; rintro e w3 ⟨rfl, hL3, hB3, hF3⟩; refine Hid.out ?_))
      refine Lib.hid ?_
      generalize opB xo W = pb at hL3 ⊢
      have hself : ((ls.take ((n + 63) / 64)).set (n / 64) (pb, true))[n / 64]? = some (pb, true) := List.getElem?_set_self hi64
      have hcl := clear_page (hL3.pgs (n / 64) (pb, true) hself).1 (pad_len d _) (lo := n % 64) (by omega) 0 (64 - n % 64)
      rw [← pad_take_at d n (by omega)] at hcl
      obtain ⟨hL4, hB4⟩ := hL3.page_set (d' := d.take n) hself (fun j hj hji => pad_take d n j (by rw [List.length_set, List.length_take, Nat.min_eq_left hll] at hj; omega))
      have hsl : ∀ w', (Instr.sliceAt 96 (.pointer (some ⟨pb, 0, none⟩)) (some (.int .i64 ((n : Int) % 64))) none none).run Try.prog w' = .ok (.slice (some ⟨pb, n % 64, none⟩) (64 - n % 64) (64 - n % 64)) w' := fun w' => slice_from pb (n % 64) w' (by omega)
      have HL4 := Lib.hid hL4
      have HF4 : Hid (Fz w (w3.setRow pb (u8s (pad (d.take n) (n / 64))).toArray)) := by
        have hpb3 := (hL3.pgs (n / 64) (pb, true) hself).1
        refine hF2.trans ((hF3.fr (K := N0) (fun _ h => h.elim)).fz.trans ⟨by simp, fun k o hk _ h2 _ => (setRow_other _ _ _ _ (fun e => ?_)).trans hk⟩)
        subst e
        rw [hpb3] at hk
        cases hk
        exact h2 _ _ rfl
      have HB4 := Lib.hid hB4
      have HB3 := Lib.hid hB3
      obtain ⟨v4, hv4, _⟩ := hL4.blk
      have HV4 := Lib.hid hv4
      have d4 : (w3.setRow pb (u8s (pad (d.take n) (n / 64))).toArray).cell? ⟨Bb, 0, none⟩ = some (.int .i64 d.length) := by simp [World.cell?, hv4]
      have df4 : (w3.setRow pb (u8s (pad (d.take n) (n / 64))).toArray).frozen? ⟨Bb, 0, none⟩ = false := by simp [World.frozen?, hv4]
      generalize w3.setRow pb (u8s (pad (d.take n) (n / 64))).toArray = W4 at hcl d4 df4 HL4 HB4 HF4 HV4
      clear hL3 hL4 hB4 hB3 hF3 hv4 hself d0 df
      go_wp2
      go_end0
      exact ⟨⟨_, rfl⟩, ⟨_, hfin _ (HL4.out.num n) (by rw [List.length_set, List.length_take, Nat.min_eq_left hll])⟩, ((hB2.trans HB3.out).trans HB4.out).setCell (p := ⟨Bb, 0, none⟩) hbb _, HF4.out.set HV4.out 0 _⟩
end Go.Proofs.Ytblhikmhmnkclaa
