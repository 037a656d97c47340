/- What put of package pages does: a part is written where there is room for it. -/
import Derived.Test.YtmgfakfiiaeofaaGreatPgOver
import Derived.Test.YtmgfakfiiaeofaaGreatPgRTail
import Derived.Laws.CopyOwn
namespace Go.Proofs.YtmgfakfiiaeofaaGreat.Pg
open Go.RowKit Go.Lib
variable {K : Nat -> Prop}
attribute [local go_sem] Oper.semAt_some
theorem run_copy_str {P : Program} (w : World) (dT sT ty elem : TypeId) (g o dLen dCap : Nat) (s : ByteArray) (cur : Array Value) (t : TypeId)
 (hu : P.underlying dT = some (.slice elem)) (hs : (P.info? elem).map (·.size) = some 1) (hg : w.heap[g]? = some (.cells cur t (0, 0))) (hfit : o + Nat.min s.size dLen <= cur.size) :
 (Builtin.copy_ #[dT, sT] ty #[.slice (some ⟨g, o, none⟩) dLen dCap, .string s]).run P w =
  .ok (goInt (Nat.min s.size dLen)) (w.setRow g (cur.toList.take o ++ byteCells (s.data.toList.take (Nat.min s.size dLen)) ++ cur.toList.drop (o + Nat.min s.size dLen)).toArray) := by
 have hlen : (byteCells (s.data.toList.take (Nat.min s.size dLen))).length = Nat.min s.size dLen := by
  rw [byteCells_length, List.length_take, <- size_eq]; exact Nat.min_eq_left (Nat.min_le_left _ _)
 have hst := run_storeCells_at P g o t (byteCells (s.data.toList.take (Nat.min s.size dLen))) 0 cur w hg (by rw [hlen]; simpa using hfit) (byteCells_one _)
 have htk : List.take (Nat.min s.size dLen) (List.map (fun b : UInt8 => Value.int IntKind.u8 (b.toNat : Int)) s.data.toList) = byteCells (s.data.toList.take (Nat.min s.size dLen)) := by
  unfold byteCells; rw [List.map_take]
 rw [hlen] at hst
 simp only [Nat.add_zero] at hst
 cases hq : P.info? elem with
 | none => simp [hq] at hs
 | some i =>
  simp [Builtin.copy_, run_underlying hu, Builtin.lenOf, Builtin.firstCells, sizeOf, typeInfo, hq]
  rw [htk, hst]
  simp [Result.andThen]
theorem take_min (l : List UInt8) (n : Nat) : l.take (Nat.min l.length n) = l.take n := by
 by_cases h : l.length <= n
 · rw [show Nat.min l.length n = l.length from Nat.min_eq_left h, List.take_length, List.take_of_length_le h]
 · rw [show Nat.min l.length n = n from Nat.min_eq_right (by omega)]
theorem drop_min (l : List UInt8) (n : Nat) : l.drop (Nat.min l.length n) = l.drop n := by
 by_cases h : l.length <= n
 · rw [show Nat.min l.length n = l.length from Nat.min_eq_left h, List.drop_length, List.drop_of_length_le h]
 · rw [show Nat.min l.length n = n from Nat.min_eq_right (by omega)]
theorem block_kept {W W' : World} {k : Nat} {c : Array Value} {t : TypeId} {f : Nat × Nat} {row : Option Nat} (h : W.heap[k]? = some (.cells c t f)) (hg : W.grownBy W' row) (hr : ∀ r, row = some r -> ∃ o : Obj, W.heap[r]? = some o /\ o.isCells = false) : W'.heap[k]? = some (.cells c t f) :=
 (hg.block k (Array.getElem?_eq_some_iff.1 h).1 (fun e => by obtain ⟨o, ho, hc⟩ := hr k e.symm; rw [h] at ho; cases ho; cases hc)).trans h
theorem BAt.kept {W W' : World} {base Bb : Nat} {d : List UInt8} {ls : List (Nat × Bool)} {row : Option Nat} (h : BAt K W base Bb d ls) (hg : W.grownBy W' row) (hr : ∀ r, row = some r -> ∃ o : Obj, W.heap[r]? = some o /\ o.isCells = false) : BAt K W' base Bb d ls := by
 obtain ⟨⟨v, hv, hrow⟩, hp, h3, h4, h5, h6, h7⟩ := h
 refine ⟨⟨v, block_kept hv hg hr, hrow.kept hg ?_⟩, fun i x hi => ⟨block_kept (hp i x hi).1 hg hr, (hp i x hi).2⟩, h3, h4, h5, h6, h7.kept hg.size ((block_kept hv hg hr).trans hv.symm)⟩
 rcases hrow.2 with ⟨rfl, _⟩ | ⟨g, cap, cur, rfl, _, hgb, _⟩
 · exact .inl rfl
 · refine .inr fun e => ?_
   obtain ⟨o, ho, hc⟩ := hr g (by rw [<- e]; simp [Value.ownBlock])
   rw [hgb] at ho; cases ho; cases hc
theorem BAt.below {W W' : World} {base Bb : Nat} {d : List UInt8} {ls : List (Nat × Bool)} (h : BAt K W base Bb d ls) (hb : Below W.heap.size W W') : BAt K W' base Bb d ls :=
 h.kept (row := none) ⟨hb.os, hb.tape, hb.output, hb.size, fun k hk _ => hb.block k hk⟩ (fun r e => by cases e)
theorem BAt.set_other {w : World} {base Bb k : Nat} {d : List UInt8} {ls : List (Nat × Bool)} {c : Array Value} {t : TypeId} {f : Nat × Nat} (h : BAt K w base Bb d ls) (hk : w.heap[k]? = some (.cells c t f)) (h1 : t ≠ 188) (h2 : t ≠ 185) (h3 : t ≠ 296) (j : Nat) (u : Value) : BAt K (w.setCell ⟨k, j, none⟩ u) base Bb d ls := by
 obtain ⟨⟨v, hv, hr⟩, hp, h4, h5, h6, h7, h8⟩ := h
 have hne : ∀ i c' t' f', w.heap[i]? = some (.cells c' t' f') -> t ≠ t' -> i ≠ k := fun i c' t' f' hi ht e => by subst e; rw [hi] at hk; cases hk; exact ht rfl
 refine ⟨⟨v, (heap_setCell_ne _ _ _ (hne _ _ _ _ hv h1)).trans hv, ?_⟩, fun i x hi => ⟨(heap_setCell_ne _ _ _ (hne _ _ _ _ (hp i x hi).1 h3)).trans (hp i x hi).1, (hp i x hi).2⟩, h4, h5, h6, h7, h8.kept (by simp) (heap_setCell_ne _ _ _ (hne _ _ _ _ hv h1))⟩
 refine hr.kept (row := some k) ⟨rfl, rfl, rfl, by simp, fun i _ hi => heap_setCell_ne _ _ _ (fun e => hi (by rw [e]))⟩ ?_
 rcases hr.2 with ⟨rfl, _⟩ | ⟨g, cap, cur, rfl, _, hgb, _⟩
 · exact .inl rfl
 · refine .inr fun e => ?_
   have : g = k := by simpa [Value.ownBlock] using e
   exact hne g _ _ _ hgb h2 this
theorem dis_ne {ls : List (Nat × Bool)} (h : (ls.map (·.1)).Nodup) {i j : Nat} {x y : Nat × Bool} (hi : ls[i]? = some x) (hj : ls[j]? = some y) (hij : i ≠ j) : x.1 ≠ y.1 := fun e => by
 rw [List.nodup_iff_pairwise_ne, List.pairwise_iff_getElem] at h
 obtain ⟨h1, e1⟩ := List.getElem?_eq_some_iff.1 hi
 obtain ⟨h2, e2⟩ := List.getElem?_eq_some_iff.1 hj
 rcases Nat.lt_or_gt_of_ne hij with hlt | hlt
 · exact h i j (by simpa using h1) (by simpa using h2) hlt (by rw [List.getElem_map, List.getElem_map, e1, e2]; exact e)
 · exact h j i (by simpa using h2) (by simpa using h1) hlt (by rw [List.getElem_map, List.getElem_map, e1, e2]; exact e.symm)
theorem BAt.copied {w : World} {base Bb i pb x : Nat} {d t : List UInt8} {ls : List (Nat × Bool)} (h : BAt K w base Bb d ls) (hi : ls[i]? = some (pb, true)) (hx : x / 64 = i) (h64 : x % 64 + t.length <= 64) :
 BAt K (w.setRow pb (u8s (pad (over d x t) i)).toArray) base Bb (over d x t) ls /\ Below base w (w.setRow pb (u8s (pad (over d x t) i)).toArray) /\ Fr K w (w.setRow pb (u8s (pad (over d x t) i)).toArray) := by
 obtain ⟨⟨v, hv, hr⟩, hp, h3, h4, h5, h6, h7⟩ := h
 obtain ⟨hpb, hown⟩ := hp i _ hi
 have hb := hown rfl
 have hne : ∀ k o, w.heap[k]? = some o -> (∀ c f, o ≠ .cells c 296 f) -> k ≠ pb := fun k o hk ho e => by
  subst e; rw [hpb] at hk; cases hk; exact ho _ _ rfl
 refine ⟨⟨⟨v, ?_, ?_⟩, ?_, h3, by rw [over_len]; exact h4, by rw [over_len]; exact h5, h6, h7.kept (by simp) (setRow_other _ _ _ _ (hne Bb _ hv (fun c f e => by cases e)))⟩, below_setRow (Below.refl _ _) hb _, ?_⟩
 · rw [setRow_other _ _ _ _ (hne Bb _ hv (fun c f e => by cases e)), over_len]; exact hv
 · have hg : w.grownBy (w.setRow pb (u8s (pad (over d x t) i)).toArray) (some pb) := ⟨rfl, rfl, rfl, by simp, fun k _ hk => setRow_other _ _ _ _ (fun e => hk (by rw [e]))⟩
   refine hr.kept hg ?_
   rcases hr.2 with ⟨rfl, _⟩ | ⟨g, cap, cur, rfl, _, hgb, _⟩
   · exact .inl rfl
   · refine .inr fun e => ?_
     have : g = pb := by simpa [Value.ownBlock] using e
     exact hne g _ hgb (fun c f e => by cases e) this
 · intro j y hj
   obtain ⟨h1, h2⟩ := hp j y hj
   refine ⟨?_, h2⟩
   by_cases hij : j = i
   · subst hij
     rw [hi] at hj; cases hj
     exact setRow_heap _ _ _ _ _ _ hpb
   · rw [setRow_other _ _ _ _ (fun e => dis_ne h3 hj hi hij e), h1, pad_over_ne d t x j h64 (by omega)]
 · refine ⟨by simp, fun k hk _ => setRow_other _ _ _ _ (fun e => h7.pg _ (List.mem_of_getElem? hi) (e ▸ hk)), fun k o hk _ ho => ?_⟩
   rw [setRow_other _ _ _ _ (hne k o hk ho)]; exact hk
set_option maxRecDepth 100000 in
set_option maxHeartbeats 1000000 in
theorem put_any (base Bb a : Nat) (d : List UInt8) (s : ByteArray) (ls : List (Nat × Bool)) (w : World) (h : BAt K w base Bb d ls) (ha : a + s.size <= d.length) :
 Calls Tryz.prog 187 #[.pointer (some ⟨Bb, 0, none⟩), .int .i64 a, .string s] w fun e w' => (∃ v, e = .returned v) /\ (∃ ls', BAt K w' base Bb (over d a s.data.toList) ls') /\ Below base w w' /\ Fr K w w' := by
 have hlen := h.len
 have HH := Lib.hid h
 refine (callsIn_wide (n := 3)).1 ?_
 have h1 : Fence.wide.fn 187 := trivial
 have h2 : Fence.wide.fn 108 := trivial
 have h3 : Fence.wide.fn 164 := trivial
 have h4 : Fence.wide.fn 227 := trivial
 have hro : Fence.wide.round = none := rfl
 refine callsIn_of_wp_marks Tryz.func187 rfl h1 ?_ hro
 simp only [Tryz.ntmps187, List.size_toArray, List.length_cons, List.length_nil, Nat.reduceAdd, Nat.reduceSub, Array.replicate_succ, Array.replicate_zero, List.push_toArray, List.append_toArray, List.nil_append, List.cons_append]
 clear h
 gi_wp2_with (first | (gi_at_call 108; refine (callsIn_wide.2 (pieces_any _ _ _)).mono ?_; rintro e w' ⟨rfl, rfl⟩))
 have hlB : Bb < w.heap.size := by obtain ⟨v, hv, _⟩ := HH.out.blk; exact (Array.getElem?_eq_some_iff.1 hv).1
 have hbb := HH.out.bb
 have hb0 : Below w.heap.size w ((((w.alloc (.cells #[.pointer (some ⟨Bb, 0, none⟩)] 142)).alloc (.cells #[.string s] 9)).alloc (.cells #[.int .i64 a] 3)).alloc (.cells #[.int .i64 s.size] 3)) := by go_grown
 obtain ⟨W0, hW0⟩ : ∃ W0, ((((w.alloc (.cells #[.pointer (some ⟨Bb, 0, none⟩)] 142)).alloc (.cells #[.string s] 9)).alloc (.cells #[.int .i64 a] 3)).alloc (.cells #[.int .i64 s.size] 3)) = W0 := ⟨_, rfl⟩
 rw [hW0] at hb0 |-
 have hsz : W0.heap.size = w.heap.size + 4 := by rw [<- hW0]; simp
 have q0 : W0.heap[w.heap.size]? = some (.cells #[.pointer (some ⟨Bb, 0, none⟩)] 142 (0, 0)) /\ W0.heap[w.heap.size + 1]? = some (.cells #[.string s] 9 (0, 0)) := by
  rw [<- hW0]
  refine ⟨?_, ?_⟩
  · rw [Below.heap_alloc _ _ _ (by simp; omega), Below.heap_alloc _ _ _ (by simp; omega), Below.heap_alloc _ _ _ (by simp)]; exact heap_new _ _
  · rw [Below.heap_alloc _ _ _ (by simp), Below.heap_alloc _ _ _ (by simp)]
    have := heap_new (w.alloc (.cells #[.pointer (some ⟨Bb, 0, none⟩)] 142)) (.cells #[.string s] 9)
    simpa using this
 have t0 : W0.cell? ⟨w.heap.size + 2, 0, none⟩ = some (.int .i64 a) := by rw [<- hW0]; simp [go_sem]
 have t1 : W0.cell? ⟨w.heap.size + 3, 0, none⟩ = some (.int .i64 s.size) := by rw [<- hW0]; simp [go_sem]
 clear hW0
 have hA0 : BAt K W0 base Bb d ls := HH.out.below hb0
 have hB0 : Below base w W0 := hb0.mono (by omega)
 have hsl : s.data.toList.length = s.size := by simp
 refine wpIn_rangeFunc_ownH hro (by decide) (gf := 164) (lb := #[.pointer (some ⟨w.heap.size + 2, 0, none⟩), .pointer (some ⟨w.heap.size + 3, 0, none⟩)]) rfl h3 (enters_of Tryz.func164 (by kernel_rfl) rfl)
  (pieces_stops 2 (by decide) (w.heap.size + 2) (w.heap.size + 3) a s.size W0 (by omega) t0 t1 (by omega) (by omega)) (fun _ _ => trivial) (fun _ _ _ _ _ _ _ _ => trivial) (Below.refl _ _) (fun _ => rfl)
  (fun pre W => (∃ ls', BAt K W base Bb (runP (a + s.size) d s.data.toList (pre.map (·.1))).1 ls') /\ (W.heap[w.heap.size]? = some (.cells #[.pointer (some ⟨Bb, 0, none⟩)] 142 (0, 0)) /\ ∃ s' : ByteArray, W.heap[w.heap.size + 1]? = some (.cells #[.string s'] 9 (0, 0)) /\ s'.data.toList = (runP (a + s.size) d s.data.toList (pre.map (·.1))).2 /\ s'.size <= s.size) /\ Below base w W /\ Fr K w W)
  (fun c pre W => False)
  (OwnFrom.and (Own.from (fun x A B row hs hg hr => by obtain ⟨l, hl⟩ := hs; exact ⟨l, hl.kept hg hr⟩) _) (OwnFrom.and (Own.from (fun x A B row hs hg hr => by obtain ⟨k1, s', k2, k3, k4⟩ := hs; exact ⟨block_kept k1 hg hr, s', block_kept k2 hg hr, k3, k4⟩) _) (OwnFrom.and (ownFrom_below (by omega) (by omega)) (fun x A B row hs hg hr => ⟨Nat.le_trans hs.size hg.size, fun k hk hl => (hg.block k (Nat.lt_of_lt_of_le hl hs.size) (fun e => by have := (hr k e.symm).1; omega)).trans (hs.foe k hk hl), fun k o hk c1 c2 => (hg.block k (Nat.lt_of_lt_of_le (Array.getElem?_eq_some_iff.1 hk).1 hs.size) (fun e => by have := (hr k e.symm).1; have := (Array.getElem?_eq_some_iff.1 hk).1; omega)).trans (hs.same k o hk c1 c2)⟩))))
  (fun c => fun s A B row hs hg hr => hs)
  ⟨⟨ls, hA0⟩, ⟨q0.1, s, q0.2, rfl, Nat.le_refl _⟩, hB0, Fr.below hb0⟩
  (fun x a' W => ∃ Bx, W.heap[Bx]? = some (.cells #[.int .i64 (x.1 / 64 : Nat), .int .i64 (x.1 % 64 : Nat), .int .i64 (x.1 % 64 + nx (a + s.size) x.1 - x.1 : Nat)] 178 (0, 0)) /\ a' = { tmps := #[.pointer (some ⟨Bb, 0, none⟩), .int .i64 a, .string s, .pointer (some ⟨w.heap.size, 0, none⟩), undef, .pointer (some ⟨w.heap.size + 1, 0, none⟩), .pointer (some ⟨Bx, 0, none⟩), undef, .int .i64 a, .string s, .int .i64 s.size, .func (.func 164) #[] #[.pointer (some ⟨w.heap.size + 1 + 1, 0, none⟩), .pointer (some ⟨w.heap.size + 1 + 1 + 1, 0, none⟩)], pcV (a + s.size) x.1, undef, undef, undef, undef, undef, undef, undef, undef, undef, undef, undef, undef, undef, undef, undef], defers := [] })
  (fun x a' _ X Y row hs hg hr => by obtain ⟨Bx, h1, h2⟩ := hs; exact ⟨Bx, block_kept h1 hg (fun r e => (hr r e).2), h2⟩)
  ?assign ?body ?done ?stop
 case assign =>
  rintro l pre x W K ⟨⟨ls', hA⟩, ⟨k1, s', k2, k3, k4⟩, hB, hF⟩ hK
  simp only [encP, pcV]
  gi_wp2
  have hbA : Below W.heap.size W (W.alloc (.cells #[.int .i64 ((x.1 : Int) / 64), .int .i64 ((x.1 : Int) % 64), .int .i64 (x.1 % 64 + nx (a + s.size) x.1 - x.1 : Nat)] 178)) := (Below.refl _ _).alloc (Nat.le_refl _) _
  exact hK _ _ ((KeepsOthers.alloc _ _).from _) trivial ⟨⟨ls', hA.below hbA⟩, ⟨(hbA.block _ (Array.getElem?_eq_some_iff.1 k1).1).trans k1, s', (hbA.block _ (Array.getElem?_eq_some_iff.1 k2).1).trans k2, k3, k4⟩, hB.trans (hbA.mono (by have := hB.size; omega)), hF.trans (Fr.below hbA)⟩ ⟨W.heap.size, heap_new _ _, rfl⟩
 case body =>
  rintro l pre x a' W hl hr ⟨⟨ls', hA⟩, ⟨k1, s', k2, k3, k4⟩, hB, hF⟩ ⟨Bx, kx, rfl⟩ hlt
  have hxe := x.property
  have HS := Lib.hid (runP_snoc (a + s.size) d s.data.toList (pre.map (·.1)) x.1)
  have hdl := runP_len (a + s.size) d s.data.toList (pre.map (·.1))
  generalize runP (a + s.size) d s.data.toList (pre.map (·.1)) = r at hA k3 HS hdl
  obtain ⟨dd, ss⟩ := r
  simp only at hA k3 hdl
  gi_wp2_with fail
  obtain ⟨xo, hxo⟩ : ∃ xo, ls'[x.1 / 64]? = some xo := by
   rw [List.getElem?_eq_getElem (by rw [hA.cnt, hdl]; omega)]; exact ⟨_, rfl⟩
  obtain ⟨pb, hpb⟩ : ∃ pb, opB xo W = pb := ⟨_, rfl⟩
  have hil : x.1 / 64 < ls'.length := (List.getElem?_eq_some_iff.1 hxo).1
  have hnl := nx_lt hxe
  have hnx64 : x.1 % 64 + nx (a + s.size) x.1 - x.1 <= 64 /\ x.1 % 64 <= x.1 % 64 + nx (a + s.size) x.1 - x.1 /\ x.1 % 64 + nx (a + s.size) x.1 - x.1 - x.1 % 64 = nx (a + s.size) x.1 - x.1 /\ x.1 % 64 + (nx (a + s.size) x.1 - x.1) <= 64 /\ nx (a + s.size) x.1 <= a + s.size := by unfold nx; omega
  have hsp : ∀ w', (Instr.sliceAt 296 (.pointer (some ⟨pb, 0, none⟩)) (some (.int .i64 ((x.1 : Int) % 64))) (some (.int .i64 ((x.1 % 64 + nx (a + s.size) x.1 - x.1 : Nat) : Int))) none).run Tryz.prog w' = .ok (.slice (some ⟨pb, x.1 % 64, none⟩) (nx (a + s.size) x.1 - x.1) (64 - x.1 % 64)) w' := fun w' => by
   have := slice_page pb (x.1 % 64) (x.1 % 64 + nx (a + s.size) x.1 - x.1) w' (by omega) (by omega) (by omega)
   rw [hnx64.2.2.1] at this
   exact this
  have e42 : ∀ args w, (callFunc 227 args).run Tryz.prog w = .ok (.enter 227 args) w := enters_of Tryz.func227 (by kernel_rfl) rfl
  have hAd : BAt K W.drew base Bb dd ls' := hA.below ⟨rfl, rfl, rfl, Nat.le_refl _, fun _ _ => rfl⟩
  refine wpIn_region_inv (I := (fun li a' w' => ∃ (b0 b1 b2 b3 b4 b5 b6 b7 b8 b9 b10 b11 b12 : Bool) (t7 t13 t14 t15 t16 t17 t18 t19 t20 t21 t22 t23 t24 : Value), li = #[b0, b1, b2, b3, b4, b5, b6, b7, b8, b9, b10, b11, b12] /\ a' = { tmps := #[.pointer (some ⟨Bb, 0, none⟩), .int .i64 a, .string s, .pointer (some ⟨w.heap.size, 0, none⟩), undef, .pointer (some ⟨w.heap.size + 1, 0, none⟩), .pointer (some ⟨Bx, 0, none⟩), t7, .int .i64 a, .string s, .int .i64 s.size, .func (.func 164) #[] #[.pointer (some ⟨w.heap.size + 1 + 1, 0, none⟩), .pointer (some ⟨w.heap.size + 1 + 1 + 1, 0, none⟩)], pcV (a + s.size) x.1, t13, t14, t15, t16, t17, t18, t19, t20, t21, t22, t23, t24, undef, undef, undef], defers := [] } /\ (b0 = true -> t13 = .pointer (some ⟨Bb, 0, none⟩)) /\ (b1 = true -> t14 = .pointer (some ⟨Bx, 0, none⟩)) /\ (b2 = true -> t15 = .int .i64 (x.1 / 64 : Nat)) /\ (b4 = true -> t17 = .pointer (some ⟨pb, 0, none⟩)) /\ (b5 = true -> t18 = .pointer (some ⟨Bx, 1, none⟩)) /\ (b6 = true -> t19 = .int .i64 (x.1 % 64 : Nat)) /\ (b7 = true -> t20 = .pointer (some ⟨Bx, 2, none⟩)) /\ (b8 = true -> t21 = .int .i64 (x.1 % 64 + nx (a + s.size) x.1 - x.1 : Nat)) /\ (b9 = true -> t22 = .slice (some ⟨pb, x.1 % 64, none⟩) (nx (a + s.size) x.1 - x.1) (64 - x.1 % 64)) /\ (b10 = true -> t23 = .string s') /\ (b12 = true -> t7 = goInt (Nat.min s'.size (nx (a + s.size) x.1 - x.1) : Nat)) /\ (b9 = true -> b3 = true) /\ (b4 = true -> b3 = true) /\ (w'.heap[w.heap.size]? = some (.cells #[.pointer (some ⟨Bb, 0, none⟩)] 142 (0, 0)) /\ w'.heap[w.heap.size + 1]? = some (.cells #[.string s'] 9 (0, 0)) /\ w'.heap[Bx]? = some (.cells #[.int .i64 (x.1 / 64 : Nat), .int .i64 (x.1 % 64 : Nat), .int .i64 (x.1 % 64 + nx (a + s.size) x.1 - x.1 : Nat)] 178 (0, 0))) /\ ((b3 = false /\ b11 = false /\ w' = W.drew) ∨ (b3 = true /\ t16 = .pointer (some ⟨pb, 0, none⟩) /\ ((b11 = false /\ (BAt K w' base Bb dd (ls'.set (x.1 / 64) (pb, true)) /\ Below base W w' /\ Fr K W w')) ∨ (b11 = true /\ t24 = goInt (Nat.min s'.size (nx (a + s.size) x.1 - x.1) : Nat) /\ (BAt K w' base Bb (over dd x.1 (ss.take (nx (a + s.size) x.1 - x.1))) (ls'.set (x.1 / 64) (pb, true)) /\ Below base W w' /\ Fr K W w'))))))) (by kernel_rfl) (by decide) ?step ?fin ⟨false, false, false, false, false, false, false, false, false, false, false, false, false, undef, undef, undef, undef, undef, undef, undef, undef, undef, undef, undef, undef, undef, rfl, rfl, by simp, by simp, by simp, by simp, by simp, by simp, by simp, by simp, by simp, by simp, by simp, by simp, by simp, ⟨k1, k2, kx⟩, .inl ⟨rfl, rfl, rfl⟩⟩
  case step =>
   rintro li a' w' i o ⟨b0, b1, b2, b3, b4, b5, b6, b7, b8, b9, b10, b11, b12, t7, t13, t14, t15, t16, t17, t18, t19, t20, t21, t22, t23, t24, rfl, rfl, f0, f1, f2, f4, f5, f6, f7, f8, f9, f10, f12, f93, f43, hbx, hst⟩ hu ho hd
   have hi : i < 13 := (Array.getElem?_eq_some_iff.1 ho).1
   have z0 : w'.cell? ⟨w.heap.size, 0, none⟩ = some (.pointer (some ⟨Bb, 0, none⟩)) := by simp [World.cell?, hbx.1]
   have z1 : w'.cell? ⟨w.heap.size + 1, 0, none⟩ = some (.string s') := by simp [World.cell?, hbx.2.1]
   have y0 : w'.cell? ⟨Bx, 0, none⟩ = some (.int .i64 (x.1 / 64 : Nat)) := by simp [World.cell?, hbx.2.2]
   have y1 : w'.cell? ⟨Bx, 1, none⟩ = some (.int .i64 (x.1 % 64 : Nat)) := by simp [World.cell?, hbx.2.2]
   have y2 : w'.cell? ⟨Bx, 2, none⟩ = some (.int .i64 (x.1 % 64 + nx (a + s.size) x.1 - x.1 : Nat)) := by simp [World.cell?, hbx.2.2]
   obtain rfl | rfl | rfl | rfl | rfl | rfl | rfl | rfl | rfl | rfl | rfl | rfl | rfl : i = 0 ∨ i = 1 ∨ i = 2 ∨ i = 3 ∨ i = 4 ∨ i = 5 ∨ i = 6 ∨ i = 7 ∨ i = 8 ∨ i = 9 ∨ i = 10 ∨ i = 11 ∨ i = 12 := by omega
   · obtain rfl : _ = o := Option.some.inj ho
     have ui : b0 = false := hu
     refine ⟨rfl, .inl ⟨.pointer (some ⟨Bb, 0, none⟩), w', ?_, ⟨true, b1, b2, b3, b4, b5, b6, b7, b8, b9, b10, b11, b12, _, _, _, _, _, _, _, _, _, _, _, _, _, rfl, rfl, (fun _ => rfl), f1, f2, f4, f5, f6, f7, f8, f9, f10, f12, f93, f43, hbx, hst⟩⟩⟩
     clear hst hbx hu ho hd
     go_simp
   · obtain rfl : _ = o := Option.some.inj ho
     have ui : b1 = false := hu
     refine ⟨rfl, .inl ⟨.pointer (some ⟨Bx, 0, none⟩), w', ?_, ⟨b0, true, b2, b3, b4, b5, b6, b7, b8, b9, b10, b11, b12, _, _, _, _, _, _, _, _, _, _, _, _, _, rfl, rfl, f0, (fun _ => rfl), f2, f4, f5, f6, f7, f8, f9, f10, f12, f93, f43, hbx, hst⟩⟩⟩
     clear hst hbx hu ho hd
     go_simp
   · obtain rfl : _ = o := Option.some.inj ho
     have ui : b2 = false := hu
     have e1 : b1 = true := hd ⟨1, .data⟩ (by simp) rfl
     have g1 := f1 e1
     subst g1
     refine ⟨rfl, .inl ⟨.int .i64 (x.1 / 64 : Nat), w', ?_, ⟨b0, b1, true, b3, b4, b5, b6, b7, b8, b9, b10, b11, b12, _, _, _, _, _, _, _, _, _, _, _, _, _, rfl, rfl, f0, f1, (fun _ => rfl), f4, f5, f6, f7, f8, f9, f10, f12, f93, f43, hbx, hst⟩⟩⟩
     clear hst hbx hu ho hd
     go_simp
   · obtain rfl : _ = o := Option.some.inj ho
     have ui : b3 = false := hu
     have e0 : b0 = true := hd ⟨0, .data⟩ (by simp) rfl
     have e2 : b2 = true := hd ⟨2, .data⟩ (by simp) rfl
     have g0 := f0 e0
     subst g0
     have g2 := f2 e2
     subst g2
     have hw' : w' = W.drew := by
      rcases hst with ⟨_, _, h⟩ | ⟨h, _⟩
      · exact h
      · rw [ui] at h; cases h
     have hb11 : b11 = false := by
      rcases hst with ⟨_, h, _⟩ | ⟨h, _⟩
      · exact h
      · rw [ui] at h; cases h
     refine ⟨rfl, .inr ⟨227, #[.pointer (some ⟨Bb, 0, none⟩), .int .i64 (x.1 / 64 : Nat)], ?_, ?_⟩⟩
     · clear hst hbx hu ho hd hw'
       go_simp
     · subst hw'
       refine (open_any base Bb (x.1 / 64) dd ls' W.drew hAd xo hxo).mono ?_
       rintro e w'' ⟨rfl, hA2, hB2, hO2, hQ2⟩
       have hpb' : opB xo W.drew = pb := hpb
       rw [hpb'] at hA2 |-
       refine ⟨_, rfl, ⟨b0, b1, b2, true, b4, b5, b6, b7, b8, b9, b10, b11, b12, _, _, _, _, _, _, _, _, _, _, _, _, _, rfl, rfl, f0, f1, f2, f4, f5, f6, f7, f8, f9, f10, f12, (fun _ => rfl), (fun _ => rfl), ⟨hO2.same _ _ hbx.1 (fun c f e => by cases e), hO2.same _ _ hbx.2.1 (fun c f e => by cases e), hO2.same _ _ hbx.2.2 (fun c f e => by cases e)⟩, (.inr ⟨rfl, rfl, .inl ⟨hb11, hA2, ⟨hB2.os, hB2.tape, hB2.output, hB2.size, hB2.block⟩, ⟨hO2.size, hQ2, (hO2.fr hQ2).same⟩⟩⟩)⟩⟩
   · obtain rfl : _ = o := Option.some.inj ho
     have ui : b4 = false := hu
     have e3 : b3 = true := hd ⟨3, .data⟩ (by simp) rfl
     have g16 : t16 = .pointer (some ⟨pb, 0, none⟩) := by
      rcases hst with ⟨h, _⟩ | ⟨_, h, _⟩
      · rw [e3] at h; cases h
      · exact h
     subst g16
     refine ⟨rfl, .inl ⟨.pointer (some ⟨pb, 0, none⟩), w', ?_, ⟨b0, b1, b2, b3, true, b5, b6, b7, b8, b9, b10, b11, b12, _, _, _, _, _, _, _, _, _, _, _, _, _, rfl, rfl, f0, f1, f2, (fun _ => rfl), f5, f6, f7, f8, f9, f10, f12, f93, (fun _ => e3), hbx, hst⟩⟩⟩
     clear hst hbx hu ho hd
     go_simp
   · obtain rfl : _ = o := Option.some.inj ho
     have ui : b5 = false := hu
     refine ⟨rfl, .inl ⟨.pointer (some ⟨Bx, 1, none⟩), w', ?_, ⟨b0, b1, b2, b3, b4, true, b6, b7, b8, b9, b10, b11, b12, _, _, _, _, _, _, _, _, _, _, _, _, _, rfl, rfl, f0, f1, f2, f4, (fun _ => rfl), f6, f7, f8, f9, f10, f12, f93, f43, hbx, hst⟩⟩⟩
     clear hst hbx hu ho hd
     go_simp
   · obtain rfl : _ = o := Option.some.inj ho
     have ui : b6 = false := hu
     have e5 : b5 = true := hd ⟨5, .data⟩ (by simp) rfl
     have g5 := f5 e5
     subst g5
     refine ⟨rfl, .inl ⟨.int .i64 (x.1 % 64 : Nat), w', ?_, ⟨b0, b1, b2, b3, b4, b5, true, b7, b8, b9, b10, b11, b12, _, _, _, _, _, _, _, _, _, _, _, _, _, rfl, rfl, f0, f1, f2, f4, f5, (fun _ => rfl), f7, f8, f9, f10, f12, f93, f43, hbx, hst⟩⟩⟩
     clear hst hbx hu ho hd
     go_simp
   · obtain rfl : _ = o := Option.some.inj ho
     have ui : b7 = false := hu
     refine ⟨rfl, .inl ⟨.pointer (some ⟨Bx, 2, none⟩), w', ?_, ⟨b0, b1, b2, b3, b4, b5, b6, true, b8, b9, b10, b11, b12, _, _, _, _, _, _, _, _, _, _, _, _, _, rfl, rfl, f0, f1, f2, f4, f5, f6, (fun _ => rfl), f8, f9, f10, f12, f93, f43, hbx, hst⟩⟩⟩
     clear hst hbx hu ho hd
     go_simp
   · obtain rfl : _ = o := Option.some.inj ho
     have ui : b8 = false := hu
     have e7 : b7 = true := hd ⟨7, .data⟩ (by simp) rfl
     have g7 := f7 e7
     subst g7
     refine ⟨rfl, .inl ⟨.int .i64 (x.1 % 64 + nx (a + s.size) x.1 - x.1 : Nat), w', ?_, ⟨b0, b1, b2, b3, b4, b5, b6, b7, true, b9, b10, b11, b12, _, _, _, _, _, _, _, _, _, _, _, _, _, rfl, rfl, f0, f1, f2, f4, f5, f6, f7, (fun _ => rfl), f9, f10, f12, f93, f43, hbx, hst⟩⟩⟩
     clear hst hbx hu ho hd
     go_simp
   · obtain rfl : _ = o := Option.some.inj ho
     have ui : b9 = false := hu
     have e4 : b4 = true := hd ⟨4, .data⟩ (by simp) rfl
     have e6 : b6 = true := hd ⟨6, .data⟩ (by simp) rfl
     have e8 : b8 = true := hd ⟨8, .data⟩ (by simp) rfl
     have g4 := f4 e4
     subst g4
     have g6 := f6 e6
     subst g6
     have g8 := f8 e8
     subst g8
     have e3 : b3 = true := f43 e4
     refine ⟨rfl, .inl ⟨.slice (some ⟨pb, x.1 % 64, none⟩) (nx (a + s.size) x.1 - x.1) (64 - x.1 % 64), w', ?_, ⟨b0, b1, b2, b3, b4, b5, b6, b7, b8, true, b10, b11, b12, _, _, _, _, _, _, _, _, _, _, _, _, _, rfl, rfl, f0, f1, f2, f4, f5, f6, f7, f8, (fun _ => rfl), f10, f12, (fun _ => e3), f43, hbx, hst⟩⟩⟩
     clear hst hbx hu ho hd
     go_simp
   · obtain rfl : _ = o := Option.some.inj ho
     have ui : b10 = false := hu
     refine ⟨rfl, .inl ⟨.string s', w', ?_, ⟨b0, b1, b2, b3, b4, b5, b6, b7, b8, b9, true, b11, b12, _, _, _, _, _, _, _, _, _, _, _, _, _, rfl, rfl, f0, f1, f2, f4, f5, f6, f7, f8, f9, (fun _ => rfl), f12, f93, f43, hbx, hst⟩⟩⟩
     clear hst hbx hu ho hd
     go_simp
   · obtain rfl : _ = o := Option.some.inj ho
     have ui : b11 = false := hu
     have e9 : b9 = true := hd ⟨9, .data⟩ (by simp) rfl
     have e10 : b10 = true := hd ⟨10, .data⟩ (by simp) rfl
     have g9 := f9 e9
     subst g9
     have g10 := f10 e10
     subst g10
     have e3 : b3 = true := hd ⟨3, .chain⟩ (by simp) rfl
     have hD : t16 = .pointer (some ⟨pb, 0, none⟩) /\ (BAt K w' base Bb dd (ls'.set (x.1 / 64) (pb, true)) /\ Below base W w' /\ Fr K W w') := by
      rcases hst with ⟨h, _⟩ | ⟨_, h1, ⟨_, h2⟩ | ⟨h, _⟩⟩
      · rw [e3] at h; cases h
      · exact ⟨h1, h2⟩
      · rw [ui] at h; cases h
     obtain ⟨g16, hA2, hB2, hK2⟩ := hD
     have hmin : Nat.min s'.size (nx (a + s.size) x.1 - x.1) <= nx (a + s.size) x.1 - x.1 := Nat.min_le_right _ _
     have hpbk : w'.heap[pb]? = some (.cells (u8s (pad dd (x.1 / 64))).toArray 296 (0, 0)) := (hA2.pgs (x.1 / 64) (pb, true) (by rw [List.getElem?_set_self hil])).1
     have hcp := run_copy_str (P := Tryz.prog) w' 74 9 3 5 pb (x.1 % 64) (nx (a + s.size) x.1 - x.1) (64 - x.1 % 64) s' _ _ Tryz.underlying74 (by kernel_rfl) hpbk (by rw [show (u8s (pad dd (x.1 / 64))).toArray.size = 64 from by simp [u8s, pad]]; omega)
     have htl : (ss.take (nx (a + s.size) x.1 - x.1)).length = Nat.min s'.size (nx (a + s.size) x.1 - x.1) := by rw [List.length_take, <- k3, <- size_eq]; exact Nat.min_comm _ _
     have hrow : ((u8s (pad dd (x.1 / 64))).toArray.toList.take (x.1 % 64) ++ byteCells (s'.data.toList.take (Nat.min s'.size (nx (a + s.size) x.1 - x.1))) ++ (u8s (pad dd (x.1 / 64))).toArray.toList.drop (x.1 % 64 + Nat.min s'.size (nx (a + s.size) x.1 - x.1))).toArray = (u8s (pad (over dd x.1 (ss.take (nx (a + s.size) x.1 - x.1))) (x.1 / 64))).toArray := by
      rw [pad_over_at dd _ x.1 (by rw [htl]; omega) (by rw [htl, hdl]; omega), htl]
      have htt : s'.data.toList.take (Nat.min s'.size (nx (a + s.size) x.1 - x.1)) = ss.take (nx (a + s.size) x.1 - x.1) := by
       rw [k3]
       have : s'.size = ss.length := by rw [size_eq, k3]
       rw [this]
       exact take_min ss _
      rw [htt]
      simp only [u8s, byteCells, List.map_append, List.map_take, List.map_drop]
     rw [hrow] at hcp
     obtain ⟨hA3, hB3, hK3⟩ := hA2.copied (i := x.1 / 64) (pb := pb) (x := x.1) (t := ss.take (nx (a + s.size) x.1 - x.1)) (by rw [List.getElem?_set_self hil]) rfl (by rw [htl]; omega)
     have hoth : ∀ (k : Nat) (c : Array Value) (t : TypeId) (f : Nat × Nat), w'.heap[k]? = some (.cells c t f) -> t ≠ 296 -> (w'.setRow pb (u8s (pad (over dd x.1 (ss.take (nx (a + s.size) x.1 - x.1))) (x.1 / 64))).toArray).heap[k]? = some (.cells c t f) := fun k c t f hk ht => by
      rw [setRow_other _ _ _ _ (fun e => by subst e; rw [hpbk] at hk; cases hk; exact ht rfl)]; exact hk
     refine ⟨rfl, .inl ⟨goInt (Nat.min s'.size (nx (a + s.size) x.1 - x.1) : Nat), _, ?_, ⟨b0, b1, b2, b3, b4, b5, b6, b7, b8, b9, b10, true, b12, _, _, _, _, _, _, _, _, _, _, _, _, _, rfl, rfl, f0, f1, f2, f4, f5, f6, f7, f8, f9, f10, f12, f93, f43, ⟨hoth _ _ _ _ hbx.1 (by decide), hoth _ _ _ _ hbx.2.1 (by decide), hoth _ _ _ _ hbx.2.2 (by decide)⟩, (.inr ⟨e3, g16, .inr ⟨rfl, rfl, hA3, hB2.trans hB3, hK2.trans hK3⟩⟩)⟩⟩⟩
     clear hst hbx hu ho hd hA2 hA3 hB3 hK3 hoth hrow htl hpbk
     go_simp
   · obtain rfl : _ = o := Option.some.inj ho
     have ui : b12 = false := hu
     have e11 : b11 = true := hd ⟨11, .data⟩ (by simp) rfl
     have g24 : t24 = goInt (Nat.min s'.size (nx (a + s.size) x.1 - x.1) : Nat) := by
      rcases hst with ⟨_, h, _⟩ | ⟨_, _, ⟨h, _⟩ | ⟨_, h, _⟩⟩
      · rw [e11] at h; cases h
      · rw [e11] at h; cases h
      · exact h
     subst g24
     refine ⟨rfl, .inl ⟨goInt (Nat.min s'.size (nx (a + s.size) x.1 - x.1) : Nat), w', ?_, ⟨b0, b1, b2, b3, b4, b5, b6, b7, b8, b9, b10, b11, true, _, _, _, _, _, _, _, _, _, _, _, _, _, rfl, rfl, f0, f1, f2, f4, f5, f6, f7, f8, f9, f10, (fun _ => rfl), f93, f43, hbx, hst⟩⟩⟩
     clear hst hbx hu ho hd
     go_simp
  case fin =>
   rintro li a' w' ⟨b0, b1, b2, b3, b4, b5, b6, b7, b8, b9, b10, b11, b12, t7, t13, t14, t15, t16, t17, t18, t19, t20, t21, t22, t23, t24, rfl, rfl, f0, f1, f2, f4, f5, f6, f7, f8, f9, f10, f12, f93, f43, hbx, hst⟩ hrd
   have hall := ready_nil_all (by kernel_rfl) rfl hrd 12
   have e11 : b11 = true := hall 11 (by omega) (by decide)
   have e12 : b12 = true := hall 12 (by omega) (by decide)
   have g7 := f12 e12
   subst g7
   have hE : (BAt K w' base Bb (over dd x.1 (ss.take (nx (a + s.size) x.1 - x.1))) (ls'.set (x.1 / 64) (pb, true)) /\ Below base W w' /\ Fr K W w') := by
    rcases hst with ⟨_, h, _⟩ | ⟨_, _, ⟨h, _⟩ | ⟨_, _, h⟩⟩
    · rw [e11] at h; cases h
    · rw [e11] at h; cases h
    · exact h
   have hmin1 : Nat.min s'.size (nx (a + s.size) x.1 - x.1) <= s'.size := Nat.min_le_left _ _
   have hmin2 : ss.drop (Nat.min s'.size (nx (a + s.size) x.1 - x.1)) = ss.drop (nx (a + s.size) x.1 - x.1) := by
    have : s'.size = ss.length := by rw [size_eq, k3]
    rw [this]
    exact drop_min ss _
   have z1 : w'.cell? ⟨w.heap.size + 1, 0, none⟩ = some (.string s') := by simp [World.cell?, hbx.2.1]
   have zf : w'.frozen? ⟨w.heap.size + 1, 0, none⟩ = false := by simp [World.frozen?, hbx.2.1]
   clear f0 f1 f2 f4 f5 f6 f7 f8 f9 f10 f12 f93 f43 hst hrd hall
   have HE := Lib.hid hE
   have HX := Lib.hid hbx
   have HM := Lib.hid hmin2
   clear hE hbx hmin2
   generalize Nat.min s'.size (nx (a + s.size) x.1 - x.1) = mn at *
   unfold goInt
   gi_wp2
   obtain ⟨hA3, hB3, hK3⟩ := HE.out
   have hsnoc : runP (a + s.size) d s.data.toList ((pre ++ [x]).map (·.1)) = (over dd x.1 (ss.take (nx (a + s.size) x.1 - x.1)), ss.drop (nx (a + s.size) x.1 - x.1)) := by rw [List.map_append, List.map_singleton]; exact HS.out
   refine ⟨(hK3.keeps.trans (KeepsOthers.setCell _ _ _)).from _, trivial, ?_, ⟨?_, s'.extract mn s'.size, ?_, ?_, ?_⟩, (hB.trans hB3).setCell (p := ⟨w.heap.size + 1, 0, none⟩) (by simp; omega) _, Nat.le_trans (hF.trans hK3).size (by simp), fun k hk hl => (heap_setCell_ne _ _ _ (fun e => by have e' : k = w.heap.size + 1 := e; omega)).trans ((hF.trans hK3).foe k hk hl), fun k o hk c1 c2 => ?_⟩
   · rw [hsnoc]; exact ⟨_, hA3.set_other HX.out.2.1 (by decide) (by decide) (by decide) _ _⟩
   · rw [heap_setCell_ne _ _ _ (by simp)]; exact HX.out.1
   · exact heap_setCell_same _ _ _ _ _ _ HX.out.2.1
   · rw [hsnoc, <- HM.out, <- k3]
     show (s'.extract mn s'.size).data.toList = s'.data.toList.drop mn
     rw [ByteArray.data_extract, Array.toList_extract, List.extract_eq_take_drop]
     rw [List.take_of_length_le]
     rw [List.length_drop, <- size_eq]
     omega
   · rw [ByteArray.size_extract]; omega
   · rw [heap_setCell_ne _ _ _ (fun e => by have := (Array.getElem?_eq_some_iff.1 hk).1; have e' : k = w.heap.size + 1 := e; omega)]; exact (hF.trans hK3).same k o hk c1 c2
 case done =>
  rintro D zs W hD hzs ⟨⟨ls', hA⟩, ⟨k1, s', k2, k3, k4⟩, hB, hF⟩ hK
  have HZ : Hid ((runP (a + s.size) d s.data.toList (zs.map (·.1))).1 = over d a s.data.toList) := by simp only [Hid]; rw [hzs, <- hsl]; exact runP_all a d s.data.toList
  clear hzs k1 k2 k3 k4
  gi_wp2
  refine ⟨by simp, .inl ⟨_, _, rfl, run_takeDeferred hK, ?_⟩⟩
  refine ⟨.tuple #[], ?_, ⟨_, rfl⟩, ⟨ls', ?_⟩, hB.trans (belowK_b (w := w) (by omega) W D _ _ (by omega) hK rfl rfl), Nat.le_trans hF.size (by simp), fun k hk hl => (World.putObj_heap_other (fun e => by omega)).trans (hF.foe k hk hl), fun k o hk c1 c2 => ?_⟩
  · simp [results, Tryz.results187, go_sem]
  · rw [<- HZ.out]; exact hA.kept (grownBy_putObj' _ D (.deferred none)) (fun r e => by cases e; exact ⟨_, hK, rfl⟩)
  · rw [World.putObj_heap_other (fun e => by have := (Array.getElem?_eq_some_iff.1 hk).1; omega)]; exact hF.same k o hk c1 c2
 case stop =>
  rintro D c ys W hD hK h hp
  exact h.elim
end Go.Proofs.YtmgfakfiiaeofaaGreat.Pg
