/- What Span of the reference answers. -/
import Derived.Test.YtddllchobojmlaaRuns
import Derived.Test.YtddllchobojmlaaRefR
namespace Go.Proofs.Ytddllchobojmlaa
open Go.RowKit Go.Sort
theorem exec_append {o : Oper} {ev : Operand → Value} {x y : Operand} {t : TypeId} {w w' : World} {v' vs vx : Value} (ho : o.op = .call { callee := .builtin .append, args := #[x, y], argTypes := #[t, t] }) (hx : ev x = vs) (hy : ev y = vx) (hr : (Builtin.append_ #[t, t] o.type #[vs, vx]).run Try.prog w = .ok v' w') : (execOp ev o).run Try.prog w = .ok (.value v') w' := by
  unfold execOp
  simp only [ho, resolve, invoke, builtin, Sem.run_bind, Sem.run_pure, Result.andThen_ok, List.map_toArray, List.map_cons, List.map_nil, hx, hy, hr]
def lastV : Option Nat → Int
  | none => -1
  | some k => (k : Int)
theorem run_none {l : List Mp} {need : Int} {j k : Nat} {c : Int} {st : List Pc × Option Nat} (h : run l need j c st = none) (hk : j ≤ k) : run l need k c st = none := by
  obtain ⟨t, rfl⟩ : ∃ t, k = j + t := ⟨k - j, by omega⟩
  rw [run_add, h]; rfl
theorem span_none {l : List Mp} (hr : rightS l = true) {a n need : Int} {j : Nat} (h0 : 0 ≤ n) (h1 : n ≤ 4096) (hj : (j : Int) ≤ n) (h : run l need j a ([], none) = none) : spanO l a n need = none := by
  have hs := run_spans hr need 4096 a n [] none h0 (by omega) (fun _ k hk => by cases hk)
  unfold spanO
  cases hsp : spans l need (4096 + 1) a n with
  | none => rfl
  | some ps =>
    rw [hsp] at hs
    obtain ⟨last', hh⟩ := hs
    rw [run_none h (by omega)] at hh; cases hh
theorem span_some {l : List Mp} (hr : rightS l = true) {a n need : Int} {j : Nat} {ps : List Pc} {lst : Option Nat} (h0 : 0 ≤ n) (h1 : n ≤ 4096) (hj : (j : Int) = n) (h : run l need j a ([], none) = some (ps, lst)) : spanO l a n need = some ps := by
  have hs := run_spans hr need 4096 a n [] none h0 (by omega) (fun _ k hk => by cases hk)
  have hn : n.toNat = j := by omega
  unfold spanO
  cases hsp : spans l need (4096 + 1) a n with
  | none => rw [hsp] at hs; simp only at hs; rw [hn, h] at hs; cases hs
  | some qs =>
    rw [hsp] at hs
    obtain ⟨last', hh⟩ := hs
    rw [hn, h] at hh
    simp only [Option.some.injEq, Prod.mk.injEq, List.nil_append] at hh
    rw [hh.1]
theorem byte_step {l : List Mp} {c need : Int} {st : List Pc × Option Nat} : (byteV l c need = (-1, 0) ∧ stepB l need c st = none) ∨ ∃ k, ∃ h : k < l.length, fI (c / 64) l 0 = some k ∧ inM (c / 64) l[k] = true ∧ byteV l c need = ((k : Int), offM l[k] c) ∧ stepB l need c st = (if st.2 = some k then some (bump st.1, some k) else some (st.1 ++ [⟨l[k].inn, l[k].id, offM l[k] c, 1⟩], some k)) := by
  have hs := fI_spec (c / 64) l 0
  cases hj : fI (c / 64) l 0 with
  | none => exact .inl ⟨by unfold byteV; rw [hj], by unfold stepB; rw [hj]⟩
  | some k =>
    rw [hj] at hs
    simp only [Nat.sub_zero] at hs
    obtain ⟨_, hk, hf⟩ := hs
    by_cases hsv : srv l[k] need = true
    · refine .inr ⟨k, hk, rfl, (findM_in hf).2, ?_, ?_⟩
      · unfold byteV; rw [hj]; simp only; rw [show l.getD k mp0 = l[k] from mAt_eq hk, if_pos hsv]
      · unfold stepB; rw [hj]; simp only; rw [mAt_eq hk, if_pos hsv]
    · refine .inl ⟨?_, ?_⟩
      · unfold byteV; rw [hj]; simp only; rw [show l.getD k mp0 = l[k] from mAt_eq hk, if_neg hsv]
      · unfold stepB; rw [hj]; simp only; rw [mAt_eq hk, if_neg hsv]
theorem flatP_bump (qs : List Pc) (x : Pc) : (flatP (qs ++ [x])).set (qs.length * 4 + 3) (.int .i64 (x.n + 1)) = flatP (qs ++ [{ x with n := x.n + 1 }]) := by
  rw [flatP_append, flatP_append, List.set_append_right _ _ (by rw [flatP_length]; omega), flatP_length]
  have : qs.length * 4 + 3 - qs.length * 4 = 3 := by omega
  rw [this]; rfl
set_option maxRecDepth 100000 in
set_option maxHeartbeats 4000000 in
theorem refSpan_any (p : Option Addr) (cap : Nat) (l : List Mp) (a n need : Int) (w : World) (ha : 0 ≤ a) (ha2 : a < 18446744073709551616) (hR : RAt w p cap l) :
    Calls Try.prog 18 #[.slice p l.length cap, .int .u64 a, .int .i64 n, .int .i64 need] w fun e w' => ∃ v, e = .returned (.tuple #[v, .int .i64 (spanE l a n need)]) ∧ w'.ownsRow w.heap.size 41 4 v (spanL l a n need).length (flatP (spanL l a n need)) ∧ Below w.heap.size w w' := by
  obtain ⟨i0, hi, hz0, hz1, hz2⟩ := info_parts' pieceInfo
  have hm : l.length ≤ maxLen := Nat.le_trans hR.len hR.top
  have HRT := Lib.hid (refRight_any p cap l w hm hR.row)
  by_cases hr : rightS l = true
  · rw [hr] at HRT
    by_cases h1 : 1 ≤ n
    · by_cases h2 : n ≤ 4096
      · by_cases h3 : 0 ≤ need
        · by_cases h4 : need ≤ 2
          · have hA : argOk l n need = true := by simp [argOk, hr]; omega
            have h16 : l.length ≤ 16 := ((rightS_iff l).1 hr).1
            have hgd := ((rightS_iff l).1 hr).2.1
            go_enter Try.func18, Try.ntmps18
            go_wp2_with (go_at_call 15; refine HRT.out.mono ?_; rintro e w1 ⟨rfl, hb1⟩; refine Hid.out ?_)
            refine Lib.hid ?_
            go_wp2_with fail
            have hOwn0 : (w1.alloc (.cells #[] 41)).ownsRow w1.heap.size 41 4 (.slice (some ⟨w1.heap.size, 0, none⟩) 0 0) 0 (flatP []) := World.ownsRow_lit (base := w1.heap.size) (e := 41) (size := 4) w1 #[] 0 (Nat.le_refl _) (by decide) rfl
            have hB0 : Below w1.heap.size w1 (w1.alloc (.cells #[] 41)) := (Below.refl _ _).alloc (Nat.le_refl _) _
            have hbs1 := hb1.size
            go_loopw [10, 11, 12] (fun v la i wr => ∃ (k : Nat) (ps : List Pc) (lst : Option Nat), i = .int .i64 k ∧ la = .int .i64 (lastV lst) ∧ (k : Int) ≤ n ∧ run l need k a ([], none) = some (ps, lst) ∧ (k = 0 ∨ a + k ≤ 4294967296) ∧ (lst = none ∨ ps ≠ []) ∧ ps.length ≤ k ∧ (∀ x ∈ ps, 0 ≤ x.n ∧ x.n ≤ k) ∧ wr.ownsRow w1.heap.size 41 4 v ps.length (flatP ps) ∧ Below w1.heap.size w1 wr) (fun _ _ i _ => (n - intOf i).toNat)
            case atStart => exact ⟨0, [], none, rfl, rfl, by omega, rfl, .inl rfl, .inl rfl, by simp, (fun x hx => absurd hx (by simp)), hOwn0, hB0⟩
            case round =>
              obtain ⟨k, ps, lst, rfl, rfl, hkn, hrun, hka, hne, hpl, hpn, hown, hbr⟩ := hrel
              have hz := hbr.size
              have hBr : Below w.heap.size w wr := hb1.trans (hbr.mono hbs1)
              have HRun := Lib.hid hrun
              clear hrun
              by_cases hlt : (k : Int) < n
              · have hc1 : 0 ≤ a + (k : Int) := by omega
                have hc2 : a + (k : Int) < 18446744073709551616 := by omega
                have hw1 : IntKind.u64.wrap (k : Int) = (k : Int) := by rw [IntKind.wrap_u64]; omega
                have hw2 : IntKind.u64.wrap (a + (k : Int)) = a + (k : Int) := by rw [IntKind.wrap_u64]; omega
                have hnl : ¬ (a + (k : Int) < a) := by omega
                have HBy := Byte_any p cap l (a + k) need wr h16 hgd hc1 hc2 (hR.below hBr).row
                have HLs := Lib.hid (run_last l need k a ([], none))
                rcases byte_step (l := l) (c := a + k) (need := need) (st := (ps, lst)) with ⟨hbv, hst⟩ | ⟨j, hj, hfj, hin, hbv, hst⟩
                · rw [hbv] at HBy
                  have HBy' := Lib.hid HBy
                  have HSO := Lib.hid (span_none hr (a := a) (n := n) (need := need) (j := k + 1) (by omega) h2 (by push_cast; omega) (by rw [HLs.out, HRun.out, Option.bind_some, hst]))
                  clear HBy hbv hst hown
                  go_wp2_with (go_at_call 31; refine HBy'.out.mono ?_; rintro e w2 ⟨rfl, hb2⟩)
                  go_ret2
                  have hE : spanE l a n need = 9 := by unfold spanE; rw [if_neg (by simp [hA]), HSO.out]
                  have hL : spanL l a n need = [] := by unfold spanL; rw [if_neg (by simp [hA]), HSO.out]; rfl
                  exact ⟨_, ret_two rfl hE.symm, by rw [hL]; exact World.ownsRow_nil _ _ _ _, hBr.trans (hb2.mono (by omega))⟩
                · rw [hbv] at HBy
                  have HBy' := Lib.hid HBy
                  have hgj := ((goodM_iff _).1 (hgd _ (List.getElem_mem hj))).1
                  have hak : a + ((k + 1 : Nat) : Int) ≤ 4294967296 := by simp only [inM, Bool.and_eq_true, decide_eq_true_eq] at hin; push_cast; omega
                  have hj0 : ¬ ((j : Int) < 0) := by omega
                  by_cases hlj : lst = some j
                  · subst hlj
                    rw [if_pos rfl] at hst
                    obtain ⟨qs, x, rfl⟩ : ∃ qs x, ps = qs ++ [x] := by
                      rcases hne with h | h
                      · cases h
                      · exact ⟨ps.dropLast, ps.getLast h, (List.dropLast_concat_getLast h).symm⟩
                    rw [bump_snoc] at hst
                    have HST := Lib.hid hst
                    obtain ⟨gg, cp, rfl⟩ : ∃ gg cp, u10 = .slice (some ⟨gg, 0, none⟩) (qs.length + 1) cp := by
                      rcases hown.2 with ⟨_, h0⟩ | ⟨gg, cp, _, hv, _⟩
                      · simp at h0
                      · exact ⟨gg, cp, by rw [hv]; simp⟩
                    have hlen : (qs ++ [x]).length = qs.length + 1 := by simp
                    rw [hlen] at hown hpl
                    have hxn := hpn x (by simp)
                    have hgl := hown.lt gg rfl
                    have hjl : ((j : Int) == lastV (some j)) = true := by simp [lastV]
                    clear HBy hbv hst
                    go_wp2_with (go_at_call 31; refine HBy'.out.mono ?_; rintro e w2 ⟨rfl, hb2⟩; refine Hid.out ?_)
                    refine Lib.hid ?_
                    have hown2 := row_below hown hb2
                    have hc3 : w2.cell? ⟨gg, qs.length * 4 + 3, none⟩ = some (.int .i64 x.n) := by
                      rw [hown2.cellAt (qs.length * 4 + 3) (by omega), flatP_append, List.getElem?_append_right (by rw [flatP_length]; omega), flatP_length]
                      rw [show qs.length * 4 + 3 - qs.length * 4 = 3 from by omega]; rfl
                    have hf3 : w2.frozen? ⟨gg, qs.length * 4 + 3, none⟩ = false := hown2.frozenAt _
                    have hg2 : gg < w2.heap.size := by have := hb2.size; omega
                    obtain ⟨hs1, hs2⟩ := hown2.stored (qs.length * 4 + 3) (.int .i64 (x.n + 1))
                    rw [flatP_bump] at hs1
                    have HS1 := Lib.hid hs1
                    have HS2 := Lib.hid hs2
                    have e1 : ((qs.length + 1 : Nat) : Int) - 1 = (qs.length : Int) := by push_cast; omega
                    have e2 : (qs.length : Int) < ((qs.length + 1 : Nat) : Int) := by push_cast; omega
                    have hxw : IntKind.i64.wrap (x.n + 1) = x.n + 1 := by rw [IntKind.wrap_i64]; omega
                    have hbs2 := hb2.size
                    clear hown hown2 hs1 hs2
                    go_wp2
                    refine ⟨⟨k + 1, qs ++ [{ x with n := x.n + 1 }], some j, by push_cast; rfl, rfl, by push_cast; omega, by rw [HLs.out, HRun.out, Option.bind_some, HST.out], .inr hak, .inr (by simp), by simp; omega, fun y hy => ?_, ?_, ?_⟩, ?_⟩
                    · rcases List.mem_append.1 hy with hy | hy
                      · have := hpn y (List.mem_append_left _ hy); push_cast; omega
                      · simp only [List.mem_singleton] at hy
                        subst hy
                        simp only; push_cast; omega
                    · have e : (qs ++ [{ x with n := x.n + 1 }]).length = qs.length + 1 := by simp
                      rw [e]; exact HS1.out
                    · exact (hbr.trans (hb2.mono hz)).setCell (p := ⟨gg, qs.length * 4 + 3, none⟩) hgl.1 _
                    · simp only [RowKit.intOf]; omega
                  · rw [if_neg hlj] at hst
                    have HST := Lib.hid hst
                    have hjl : ((j : Int) == lastV lst) = false := by
                      cases lst with
                      | none => simp [lastV]
                      | some i => simp only [lastV, beq_eq_false_iff_ne]; intro h; exact hlj (by rw [show i = j from by omega])
                    clear HBy hbv hst
                    go_wp2_with (go_at_call 31; refine HBy'.out.mono ?_; rintro e w2 ⟨rfl, hb2⟩; refine Hid.out ?_)
                    refine Lib.hid ?_
                    go_wp2_with fail
                    obtain ⟨b, off, rfl, hbl, hq⟩ := hR.row j hj
                    have hbs2 := hb2.size
                    have hB2 : Below w.heap.size w w2 := hBr.trans (hb2.mono (by have := hBr.size; omega))
                    have hjl2 : (j : Int) < (l.length : Int) := by omega
                    have hq2 := hq.below hB2 hbl
                    have hbw2 : b < w2.heap.size := by have := hB2.size; omega
                    have HX0 := Lib.hid (show MpAt w2.drew b (off + j * 7) l[j] from hq2.below (Below.refl w2.heap.size w2).drew hbw2)
                    have HXA := Lib.hid (show MpAt (w2.drew.alloc (.cells #[.int .i64 l[j].inn, .int .i64 l[j].id, .int .i64 (offM l[j] (a + (k : Int))), .int .i64 1] 41)) b (off + j * 7) l[j] from hq2.below ((Below.refl w2.heap.size w2).drew.alloc (Nat.le_refl _) _) hbw2)
                    have hown2 : w2.drew.ownsRow w1.heap.size 41 4 u10 ps.length (flatP ps) := row_below hown (bdn hb2 1)
                    have hbA : Below w1.heap.size w1 (w2.drew.alloc (.cells #[.int .i64 l[j].inn, .int .i64 l[j].id, .int .i64 (offM l[j] (a + (k : Int))), .int .i64 1] 41)) := ((hbr.trans (hb2.mono hz)).drew.alloc (by simp; omega) _)
                    have HAPP : Hid (∃ v' w5, (Builtin.append_ #[34, 34] 34 #[u10, .slice (some ⟨w2.heap.size, 0, none⟩) 1 1]).run Try.prog (w2.drew.alloc (.cells #[.int .i64 l[j].inn, .int .i64 l[j].id, .int .i64 (offM l[j] (a + (k : Int))), .int .i64 1] 41)) = .ok v' w5 ∧ w5.ownsRow w1.heap.size 41 4 v' (ps.length + 1) (flatP (ps ++ [⟨l[j].inn, l[j].id, offM l[j] (a + ↑k), 1⟩])) ∧ Below w1.heap.size w1 w5 ∧ MpAt w5 b (off + j * 7) l[j]) := by
                      obtain ⟨v', w5, h1, h2, h3, _⟩ := run_append_own (w2.drew.alloc (.cells #[.int .i64 l[j].inn, .int .i64 l[j].id, .int .i64 (offM l[j] (a + (k : Int))), .int .i64 1] 41)) w1.heap.size 34 34 41 i0 (.agg #[.int .i64 0, .int .i64 0, .int .i64 0, .int .i64 0]) 4 32 Try.underlying34 hi hz0 hz1 hz2 rfl (by decide) u10 ps.length (flatP ps) (hown2.alloc _) ⟨w2.heap.size, 0, none⟩ 1 1 (pcC ⟨l[j].inn, l[j].id, offM l[j] (a + ↑k), 1⟩) rfl (pc_new w2.drew ⟨l[j].inn, l[j].id, offM l[j] (a + ↑k), 1⟩ w2.heap.size rfl) (pc_one _) (by unfold maxLen; omega) (by omega) (by simp; omega)
                      have hb5 : Below w1.heap.size w1 w5 := Below.grown hbA h3 (by simp; omega) (fun i hi => (hown.lt i hi).1)
                      refine ⟨v', w5, h1, by rw [flatP_append]; exact h2, hb5, ?_⟩
                      exact (hq.below hb1 hbl).below hb5 (by have := hb1.size; omega)
                    have HPN := Lib.hid hpn
                    clear hown hown2 hq hq2 hpn HRT hOwn0 hB0 hR h16 hgd hA HBy' hfj hgj hne hi hz0 hz1 hz2 hbA hB2 hBr hw1 hw2 hnl hc1 hc2 hr hka hlj hin
                    refine wp_region_inv (I := (fun li a' w' => ∃ (b0 b1 b2 b3 b4 b5 b6 b7 b8 b9 b10 b11 b12 b13 b14 b15 : Bool) (t10 t70 t71 t72 t73 t74 t75 t76 t77 t78 t79 t80 t81 t82 t83 t84 : Value), li = #[b0, b1, b2, b3, b4, b5, b6, b7, b8, b9, b10, b11, b12, b13, b14, b15] ∧ a' = { tmps := #[Value.slice (some ⟨b, off, none⟩) l.length cap, Value.int IntKind.u64 a, Value.int IntKind.i64 n, Value.int IntKind.i64 need, undef, undef, undef, undef, u8, u9, t10, Value.int IntKind.i64 (lastV lst), Value.int IntKind.i64 ↑k, Value.int IntKind.u64 (a + ↑k), Value.int IntKind.i64 ↑j, Value.int IntKind.i64 (offM l[j] (a + ↑k)), Value.slice (some ⟨b, off, none⟩) l.length cap, Value.bool true, Value.bool false, Value.bool false, Value.int IntKind.i64 n, Value.bool (decide (n < 1)), Value.bool (decide (n < 1)), Value.bool (decide (n < 1)), Value.int IntKind.i64 n, Value.bool (decide (4096 < n)), Value.bool (decide (n < 1) || decide (4096 < n)), Value.bool (decide (n < 1) || decide (4096 < n)), Value.int IntKind.i64 need, Value.bool (decide (need < 0)), Value.bool (decide (n < 1) || decide (4096 < n) || decide (need < 0)), Value.bool (decide (n < 1) || decide (4096 < n) || decide (need < 0)), Value.int IntKind.i64 need, Value.bool (decide (2 < need)), Value.bool (decide (n < 1) || decide (4096 < n) || decide (need < 0) || decide (2 < need)), Value.slice (some ⟨w1.heap.size, 0, none⟩) 0 0, Value.int IntKind.i64 ↑k, Value.int IntKind.i64 n, Value.bool true, u39, u40, Value.int IntKind.u64 a, Value.int IntKind.i64 ↑k, Value.int IntKind.u64 ↑k, Value.int IntKind.u64 (a + ↑k), Value.int IntKind.u64 (a + ↑k), Value.int IntKind.u64 a, Value.bool false, Value.tuple #[Value.int IntKind.i64 ↑j, Value.int IntKind.i64 (offM l[j] (a + ↑k))], Value.slice (some ⟨b, off, none⟩) l.length cap, Value.int IntKind.u64 (a + ↑k), Value.int IntKind.i64 need, Value.tuple #[Value.int IntKind.i64 ↑j, Value.int IntKind.i64 (offM l[j] (a + ↑k))], Value.int IntKind.i64 ↑j, Value.int IntKind.i64 (offM l[j] (a + ↑k)), Value.int IntKind.i64 ↑j, Value.bool (decide (↑j < 0)), Value.int IntKind.i64 ↑j, Value.int IntKind.i64 (lastV lst), Value.bool false, u60, u61, u62, u63, u64, u65, u66, u67, u68, u69, t70, t71, t72, t73, t74, t75, t76, t77, t78, t79, t80, t81, t82, t83, t84, u85, undef], defers := [] } ∧ (b0 = true → t70 = u10) ∧ (b1 = true → t71 = .slice (some ⟨b, off, none⟩) l.length cap) ∧ (b2 = true → t72 = .int .i64 (j : Int)) ∧ (b3 = true → t73 = .pointer (some ⟨b, off + j * 7, none⟩)) ∧ (b4 = true → t74 = .pointer (some ⟨b, off + j * 7 + 2, none⟩)) ∧ (b5 = true → t75 = .int .i64 l[j].inn) ∧ (b6 = true → t76 = .slice (some ⟨b, off, none⟩) l.length cap) ∧ (b7 = true → t77 = .int .i64 (j : Int)) ∧ (b8 = true → t78 = .pointer (some ⟨b, off + j * 7, none⟩)) ∧ (b9 = true → t79 = .pointer (some ⟨b, off + j * 7 + 3, none⟩)) ∧ (b10 = true → t80 = .int .i64 l[j].id) ∧ (b11 = true → t81 = .int .i64 (offM l[j] (a + (k : Int)))) ∧ (b12 = true → t82 = .agg #[.int .i64 l[j].inn, .int .i64 l[j].id, .int .i64 (offM l[j] (a + (k : Int))), .int .i64 1]) ∧ (b13 = true → t83 = .slice (some ⟨w2.heap.size, 0, none⟩) 1 1) ∧ (b15 = true → t10 = t84) ∧ MpAt w' b (off + j * 7) l[j] ∧ (b15 = true → b14 = true) ∧ (b14 = true → b0 = true) ∧ (b15 = false → t10 = u10) ∧ ((b13 = false ∧ b14 = false ∧ w' = w2.drew) ∨ (b13 = true ∧ b14 = false ∧ w' = (w2.drew.alloc (.cells #[.int .i64 l[j].inn, .int .i64 l[j].id, .int .i64 (offM l[j] (a + (k : Int))), .int .i64 1] 41))) ∨ (b13 = true ∧ b14 = true ∧ (w'.ownsRow w1.heap.size 41 4 t84 (ps.length + 1) (flatP (ps ++ [⟨l[j].inn, l[j].id, offM l[j] (a + ↑k), 1⟩])) ∧ Below w1.heap.size w1 w'))))) (by kernel_rfl) ?step ?fin ⟨false, false, false, false, false, false, false, false, false, false, false, false, false, false, false, false, _, _, _, _, _, _, _, _, _, _, _, _, _, _, _, _, rfl, rfl, by simp, by simp, by simp, by simp, by simp, by simp, by simp, by simp, by simp, by simp, by simp, by simp, by simp, by simp, by simp, HX0.out, by simp, by simp, (fun _ => rfl), .inl ⟨rfl, rfl, rfl⟩⟩
                    case step =>
                      rintro li a' w' i o ⟨b0, b1, b2, b3, b4, b5, b6, b7, b8, b9, b10, b11, b12, b13, b14, b15, t10, t70, t71, t72, t73, t74, t75, t76, t77, t78, t79, t80, t81, t82, t83, t84, rfl, rfl, f0, f1, f2, f3, f4, f5, f6, f7, f8, f9, f10, f11, f12, f13, f15, x1, x2, x4, x3, hst⟩ hu ho hd
                      have hi' : i < 16 := (Array.getElem?_eq_some_iff.1 ho).1
                      obtain rfl | rfl | rfl | rfl | rfl | rfl | rfl | rfl | rfl | rfl | rfl | rfl | rfl | rfl | rfl | rfl : i = 0 ∨ i = 1 ∨ i = 2 ∨ i = 3 ∨ i = 4 ∨ i = 5 ∨ i = 6 ∨ i = 7 ∨ i = 8 ∨ i = 9 ∨ i = 10 ∨ i = 11 ∨ i = 12 ∨ i = 13 ∨ i = 14 ∨ i = 15 := by omega
                      · obtain rfl : _ = o := Option.some.inj ho
                        have ui : b0 = false := hu
                        have hb15 : b15 = false := by
                          cases h : b15 with
                          | false => rfl
                          | true => have h2 := x4 (x2 h); rw [ui] at h2; cases h2
                        have g10 := x3 hb15
                        refine ⟨rfl, .inl ⟨u10, w', ?_, ⟨true, b1, b2, b3, b4, b5, b6, b7, b8, b9, b10, b11, b12, b13, b14, b15, _, _, _, _, _, _, _, _, _, _, _, _, _, _, _, _, rfl, rfl, (fun _ => rfl), f1, f2, f3, f4, f5, f6, f7, f8, f9, f10, f11, f12, f13, f15, x1, x2, (fun _ => rfl), x3, hst⟩⟩⟩
                        rw [g10]
                        clear hst hu ho hd
                        go_simp
                      · obtain rfl : _ = o := Option.some.inj ho
                        have ui : b1 = false := hu
                        refine ⟨rfl, .inl ⟨.slice (some ⟨b, off, none⟩) l.length cap, w', ?_, ⟨b0, true, b2, b3, b4, b5, b6, b7, b8, b9, b10, b11, b12, b13, b14, b15, _, _, _, _, _, _, _, _, _, _, _, _, _, _, _, _, rfl, rfl, f0, (fun _ => rfl), f2, f3, f4, f5, f6, f7, f8, f9, f10, f11, f12, f13, f15, x1, x2, x4, x3, hst⟩⟩⟩
                        clear hst hu ho hd
                        go_simp
                      · obtain rfl : _ = o := Option.some.inj ho
                        have ui : b2 = false := hu
                        refine ⟨rfl, .inl ⟨.int .i64 (j : Int), w', ?_, ⟨b0, b1, true, b3, b4, b5, b6, b7, b8, b9, b10, b11, b12, b13, b14, b15, _, _, _, _, _, _, _, _, _, _, _, _, _, _, _, _, rfl, rfl, f0, f1, (fun _ => rfl), f3, f4, f5, f6, f7, f8, f9, f10, f11, f12, f13, f15, x1, x2, x4, x3, hst⟩⟩⟩
                        clear hst hu ho hd
                        go_simp
                      · obtain rfl : _ = o := Option.some.inj ho
                        have ui : b3 = false := hu
                        have e1 : b1 = true := hd ⟨1, .data⟩ (by simp) rfl
                        have g1 := f1 e1
                        subst g1
                        have e2 : b2 = true := hd ⟨2, .data⟩ (by simp) rfl
                        have g2 := f2 e2
                        subst g2
                        refine ⟨rfl, .inl ⟨.pointer (some ⟨b, off + j * 7, none⟩), w', ?_, ⟨b0, b1, b2, true, b4, b5, b6, b7, b8, b9, b10, b11, b12, b13, b14, b15, _, _, _, _, _, _, _, _, _, _, _, _, _, _, _, _, rfl, rfl, f0, f1, f2, (fun _ => rfl), f4, f5, f6, f7, f8, f9, f10, f11, f12, f13, f15, x1, x2, x4, x3, hst⟩⟩⟩
                        clear hst hu ho hd
                        go_simp
                      · obtain rfl : _ = o := Option.some.inj ho
                        have ui : b4 = false := hu
                        have e3 : b3 = true := hd ⟨3, .data⟩ (by simp) rfl
                        have g3 := f3 e3
                        subst g3
                        refine ⟨rfl, .inl ⟨.pointer (some ⟨b, off + j * 7 + 2, none⟩), w', ?_, ⟨b0, b1, b2, b3, true, b5, b6, b7, b8, b9, b10, b11, b12, b13, b14, b15, _, _, _, _, _, _, _, _, _, _, _, _, _, _, _, _, rfl, rfl, f0, f1, f2, f3, (fun _ => rfl), f5, f6, f7, f8, f9, f10, f11, f12, f13, f15, x1, x2, x4, x3, hst⟩⟩⟩
                        clear hst hu ho hd
                        go_simp
                      · obtain rfl : _ = o := Option.some.inj ho
                        have ui : b5 = false := hu
                        have e4 : b4 = true := hd ⟨4, .data⟩ (by simp) rfl
                        have g4 := f4 e4
                        subst g4
                        obtain ⟨c0, c1, c2, c3, c4, c5, c6⟩ := x1
                        refine ⟨rfl, .inl ⟨.int .i64 l[j].inn, w', ?_, ⟨b0, b1, b2, b3, b4, true, b6, b7, b8, b9, b10, b11, b12, b13, b14, b15, _, _, _, _, _, _, _, _, _, _, _, _, _, _, _, _, rfl, rfl, f0, f1, f2, f3, f4, (fun _ => rfl), f6, f7, f8, f9, f10, f11, f12, f13, f15, ⟨c0, c1, c2, c3, c4, c5, c6⟩, x2, x4, x3, hst⟩⟩⟩
                        clear hst hu ho hd
                        go_simp
                      · obtain rfl : _ = o := Option.some.inj ho
                        have ui : b6 = false := hu
                        refine ⟨rfl, .inl ⟨.slice (some ⟨b, off, none⟩) l.length cap, w', ?_, ⟨b0, b1, b2, b3, b4, b5, true, b7, b8, b9, b10, b11, b12, b13, b14, b15, _, _, _, _, _, _, _, _, _, _, _, _, _, _, _, _, rfl, rfl, f0, f1, f2, f3, f4, f5, (fun _ => rfl), f7, f8, f9, f10, f11, f12, f13, f15, x1, x2, x4, x3, hst⟩⟩⟩
                        clear hst hu ho hd
                        go_simp
                      · obtain rfl : _ = o := Option.some.inj ho
                        have ui : b7 = false := hu
                        refine ⟨rfl, .inl ⟨.int .i64 (j : Int), w', ?_, ⟨b0, b1, b2, b3, b4, b5, b6, true, b8, b9, b10, b11, b12, b13, b14, b15, _, _, _, _, _, _, _, _, _, _, _, _, _, _, _, _, rfl, rfl, f0, f1, f2, f3, f4, f5, f6, (fun _ => rfl), f8, f9, f10, f11, f12, f13, f15, x1, x2, x4, x3, hst⟩⟩⟩
                        clear hst hu ho hd
                        go_simp
                      · obtain rfl : _ = o := Option.some.inj ho
                        have ui : b8 = false := hu
                        have e6 : b6 = true := hd ⟨6, .data⟩ (by simp) rfl
                        have g6 := f6 e6
                        subst g6
                        have e7 : b7 = true := hd ⟨7, .data⟩ (by simp) rfl
                        have g7 := f7 e7
                        subst g7
                        refine ⟨rfl, .inl ⟨.pointer (some ⟨b, off + j * 7, none⟩), w', ?_, ⟨b0, b1, b2, b3, b4, b5, b6, b7, true, b9, b10, b11, b12, b13, b14, b15, _, _, _, _, _, _, _, _, _, _, _, _, _, _, _, _, rfl, rfl, f0, f1, f2, f3, f4, f5, f6, f7, (fun _ => rfl), f9, f10, f11, f12, f13, f15, x1, x2, x4, x3, hst⟩⟩⟩
                        clear hst hu ho hd
                        go_simp
                      · obtain rfl : _ = o := Option.some.inj ho
                        have ui : b9 = false := hu
                        have e8 : b8 = true := hd ⟨8, .data⟩ (by simp) rfl
                        have g8 := f8 e8
                        subst g8
                        refine ⟨rfl, .inl ⟨.pointer (some ⟨b, off + j * 7 + 3, none⟩), w', ?_, ⟨b0, b1, b2, b3, b4, b5, b6, b7, b8, true, b10, b11, b12, b13, b14, b15, _, _, _, _, _, _, _, _, _, _, _, _, _, _, _, _, rfl, rfl, f0, f1, f2, f3, f4, f5, f6, f7, f8, (fun _ => rfl), f10, f11, f12, f13, f15, x1, x2, x4, x3, hst⟩⟩⟩
                        clear hst hu ho hd
                        go_simp
                      · obtain rfl : _ = o := Option.some.inj ho
                        have ui : b10 = false := hu
                        have e9 : b9 = true := hd ⟨9, .data⟩ (by simp) rfl
                        have g9 := f9 e9
                        subst g9
                        obtain ⟨c0, c1, c2, c3, c4, c5, c6⟩ := x1
                        refine ⟨rfl, .inl ⟨.int .i64 l[j].id, w', ?_, ⟨b0, b1, b2, b3, b4, b5, b6, b7, b8, b9, true, b11, b12, b13, b14, b15, _, _, _, _, _, _, _, _, _, _, _, _, _, _, _, _, rfl, rfl, f0, f1, f2, f3, f4, f5, f6, f7, f8, f9, (fun _ => rfl), f11, f12, f13, f15, ⟨c0, c1, c2, c3, c4, c5, c6⟩, x2, x4, x3, hst⟩⟩⟩
                        clear hst hu ho hd
                        go_simp
                      · obtain rfl : _ = o := Option.some.inj ho
                        have ui : b11 = false := hu
                        refine ⟨rfl, .inl ⟨.int .i64 (offM l[j] (a + (k : Int))), w', ?_, ⟨b0, b1, b2, b3, b4, b5, b6, b7, b8, b9, b10, true, b12, b13, b14, b15, _, _, _, _, _, _, _, _, _, _, _, _, _, _, _, _, rfl, rfl, f0, f1, f2, f3, f4, f5, f6, f7, f8, f9, f10, (fun _ => rfl), f12, f13, f15, x1, x2, x4, x3, hst⟩⟩⟩
                        clear hst hu ho hd
                        go_simp
                      · obtain rfl : _ = o := Option.some.inj ho
                        have ui : b12 = false := hu
                        have e5 : b5 = true := hd ⟨5, .data⟩ (by simp) rfl
                        have g5 := f5 e5
                        subst g5
                        have e10 : b10 = true := hd ⟨10, .data⟩ (by simp) rfl
                        have g10 := f10 e10
                        subst g10
                        have e11 : b11 = true := hd ⟨11, .data⟩ (by simp) rfl
                        have g11 := f11 e11
                        subst g11
                        refine ⟨rfl, .inl ⟨.agg #[.int .i64 l[j].inn, .int .i64 l[j].id, .int .i64 (offM l[j] (a + (k : Int))), .int .i64 1], w', ?_, ⟨b0, b1, b2, b3, b4, b5, b6, b7, b8, b9, b10, b11, true, b13, b14, b15, _, _, _, _, _, _, _, _, _, _, _, _, _, _, _, _, rfl, rfl, f0, f1, f2, f3, f4, f5, f6, f7, f8, f9, f10, f11, (fun _ => rfl), f13, f15, x1, x2, x4, x3, hst⟩⟩⟩
                        clear hst hu ho hd
                        go_simp
                      · obtain rfl : _ = o := Option.some.inj ho
                        have ui : b13 = false := hu
                        have e12 : b12 = true := hd ⟨12, .data⟩ (by simp) rfl
                        have g12 := f12 e12
                        subst g12
                        have hw' : w' = w2.drew ∧ b14 = false := by
                          rcases hst with ⟨_, h1, h⟩ | ⟨h, _⟩ | ⟨h, _⟩
                          · exact ⟨h, h1⟩
                          · rw [ui] at h; cases h
                          · rw [ui] at h; cases h
                        obtain ⟨rfl, h14⟩ := hw'
                        refine ⟨rfl, .inl ⟨.slice (some ⟨w2.heap.size, 0, none⟩) 1 1, (w2.drew.alloc (.cells #[.int .i64 l[j].inn, .int .i64 l[j].id, .int .i64 (offM l[j] (a + (k : Int))), .int .i64 1] 41)), ?_, ⟨b0, b1, b2, b3, b4, b5, b6, b7, b8, b9, b10, b11, b12, true, b14, b15, _, _, _, _, _, _, _, _, _, _, _, _, _, _, _, _, rfl, rfl, f0, f1, f2, f3, f4, f5, f6, f7, f8, f9, f10, f11, f12, (fun _ => rfl), f15, HXA.out, x2, x4, x3, .inr (.inl ⟨rfl, h14, rfl⟩)⟩⟩⟩
                        clear hst hu ho hd
                        go_simp
                      · obtain rfl : _ = o := Option.some.inj ho
                        have ui : b14 = false := hu
                        have e0 : b0 = true := hd ⟨0, .data⟩ (by simp) rfl
                        have g0 := f0 e0
                        subst g0
                        have e13 : b13 = true := hd ⟨13, .data⟩ (by simp) rfl
                        have g13 := f13 e13
                        subst g13
                        have hw' : w' = (w2.drew.alloc (.cells #[.int .i64 l[j].inn, .int .i64 l[j].id, .int .i64 (offM l[j] (a + (k : Int))), .int .i64 1] 41)) := by
                          rcases hst with ⟨h, _⟩ | ⟨_, _, h⟩ | ⟨_, h, _⟩
                          · rw [e13] at h; cases h
                          · exact h
                          · rw [ui] at h; cases h
                        subst hw'
                        obtain ⟨v', w5, hrun, ho5, hb5, hx5⟩ := HAPP.out
                        exact ⟨rfl, .inl ⟨v', w5, exec_append rfl rfl rfl hrun, ⟨b0, b1, b2, b3, b4, b5, b6, b7, b8, b9, b10, b11, b12, b13, true, b15, _, _, _, _, _, _, _, _, _, _, _, _, _, _, _, _, rfl, rfl, f0, f1, f2, f3, f4, f5, f6, f7, f8, f9, f10, f11, f12, f13, (fun h => by rw [x2 h] at ui; cases ui), hx5, (fun _ => rfl), (fun _ => e0), x3, .inr (.inr ⟨e13, rfl, ho5, hb5⟩)⟩⟩⟩
                      · obtain rfl : _ = o := Option.some.inj ho
                        have ui : b15 = false := hu
                        have e14 : b14 = true := hd ⟨14, .data⟩ (by simp) rfl
                        refine ⟨rfl, .inl ⟨t84, w', ?_, ⟨b0, b1, b2, b3, b4, b5, b6, b7, b8, b9, b10, b11, b12, b13, b14, true, _, _, _, _, _, _, _, _, _, _, _, _, _, _, _, _, rfl, rfl, f0, f1, f2, f3, f4, f5, f6, f7, f8, f9, f10, f11, f12, f13, (fun _ => rfl), x1, (fun _ => e14), x4, (fun h => by cases h), hst⟩⟩⟩
                        clear hst hu ho hd
                        go_simp
                    
                    case fin =>
                      rintro li a' w' ⟨b0, b1, b2, b3, b4, b5, b6, b7, b8, b9, b10, b11, b12, b13, b14, b15, t10, t70, t71, t72, t73, t74, t75, t76, t77, t78, t79, t80, t81, t82, t83, t84, rfl, rfl, f0, f1, f2, f3, f4, f5, f6, f7, f8, f9, f10, f11, f12, f13, f15, x1, x2, x4, x3, hst⟩ hrd
                      have hall := ready_nil_all (by kernel_rfl) rfl hrd 15
                      have e14 : b14 = true := hall 14 (by omega) (by decide)
                      have g15 := f15 (hall 15 (by omega) (by decide))
                      have hO : (w'.ownsRow w1.heap.size 41 4 t84 (ps.length + 1) (flatP (ps ++ [⟨l[j].inn, l[j].id, offM l[j] (a + ↑k), 1⟩])) ∧ Below w1.heap.size w1 w') := by
                        rcases hst with ⟨_, h, _⟩ | ⟨_, h, _⟩ | ⟨_, _, h⟩
                        · rw [e14] at h; cases h
                        · rw [e14] at h; cases h
                        · exact h
                      clear hst f0 f1 f2 f3 f4 f5 f6 f7 f8 f9 f10 f11 f12 f13 f15 x1 x2 x3 x4 hall hrd e14
                      rw [g15]
                      clear g15
                      have HO := Lib.hid hO
                      clear hO
                      go_wp2
                      refine ⟨⟨k + 1, ps ++ [⟨l[j].inn, l[j].id, offM l[j] (a + ↑k), 1⟩], some j, by push_cast; rfl, rfl, by push_cast; omega, by rw [HLs.out, HRun.out, Option.bind_some, HST.out], .inr hak, .inr (by simp), by simp; omega, fun y hy => ?_, ?_, HO.out.2⟩, ?_⟩
                      · rcases List.mem_append.1 hy with hy | hy
                        · have := HPN.out y hy; push_cast; omega
                        · simp only [List.mem_singleton] at hy
                          rw [hy]
                          exact ⟨by show (0 : Int) ≤ 1; decide, by show (1 : Int) ≤ ((k + 1 : Nat) : Int); omega⟩
                      · rw [List.length_append]; exact HO.out.1
                      · simp only [RowKit.intOf]; omega
              · obtain rfl : (k : Int) = n := by omega
                have hkk : ¬ (k : Int) < (k : Int) := by omega
                have HSO := Lib.hid (span_some hr (a := a) (need := need) (j := k) (by omega) h2 rfl HRun.out)
                go_wp2
                go_ret2
                have hE : spanE l a k need = 0 := by unfold spanE; rw [if_neg (by simp [hA]), HSO.out]
                have hL : spanL l a k need = ps := by unfold spanL; rw [if_neg (by simp [hA]), HSO.out]; rfl
                exact ⟨_, ret_two rfl hE.symm, by rw [hL]; exact row_mono hown hbs1, hBr⟩
          · go_enter Try.func18, Try.ntmps18
            go_wp2_with (first | (go_at_call 15; refine HRT.out.mono ?_; rintro e w1 ⟨rfl, hb1⟩))
            go_ret2
            have hA : argOk l n need = false := by simp [argOk, hr]; omega
            have hE : spanE l a n need = 1 := by unfold spanE; rw [if_pos hA]
            have hL : spanL l a n need = [] := by unfold spanL; rw [if_pos hA]
            exact ⟨_, ret_two rfl hE.symm, by rw [hL]; exact World.ownsRow_nil _ _ _ _, hb1⟩
        · go_enter Try.func18, Try.ntmps18
          go_wp2_with (first | (go_at_call 15; refine HRT.out.mono ?_; rintro e w1 ⟨rfl, hb1⟩))
          go_ret2
          have hA : argOk l n need = false := by simp [argOk, hr]; omega
          have hE : spanE l a n need = 1 := by unfold spanE; rw [if_pos hA]
          have hL : spanL l a n need = [] := by unfold spanL; rw [if_pos hA]
          exact ⟨_, ret_two rfl hE.symm, by rw [hL]; exact World.ownsRow_nil _ _ _ _, hb1⟩
      · go_enter Try.func18, Try.ntmps18
        go_wp2_with (first | (go_at_call 15; refine HRT.out.mono ?_; rintro e w1 ⟨rfl, hb1⟩))
        go_ret2
        have hA : argOk l n need = false := by simp [argOk, hr]; omega
        have hE : spanE l a n need = 1 := by unfold spanE; rw [if_pos hA]
        have hL : spanL l a n need = [] := by unfold spanL; rw [if_pos hA]
        exact ⟨_, ret_two rfl hE.symm, by rw [hL]; exact World.ownsRow_nil _ _ _ _, hb1⟩
    · go_enter Try.func18, Try.ntmps18
      go_wp2_with (first | (go_at_call 15; refine HRT.out.mono ?_; rintro e w1 ⟨rfl, hb1⟩))
      go_ret2
      have hA : argOk l n need = false := by simp [argOk, hr]; omega
      have hE : spanE l a n need = 1 := by unfold spanE; rw [if_pos hA]
      have hL : spanL l a n need = [] := by unfold spanL; rw [if_pos hA]
      exact ⟨_, ret_two rfl hE.symm, by rw [hL]; exact World.ownsRow_nil _ _ _ _, hb1⟩
  · have hr' : rightS l = false := by simpa using hr
    rw [hr'] at HRT
    go_enter Try.func18, Try.ntmps18
    go_wp2_with (first | (go_at_call 15; refine HRT.out.mono ?_; rintro e w1 ⟨rfl, hb1⟩))
    go_ret2
    have hA : argOk l n need = false := by simp [argOk, hr']
    have hE : spanE l a n need = 1 := by unfold spanE; rw [if_pos hA]
    have hL : spanL l a n need = [] := by unfold spanL; rw [if_pos hA]
    exact ⟨_, ret_two rfl hE.symm, by rw [hL]; exact World.ownsRow_nil _ _ _ _, hb1⟩
end Go.Proofs.Ytddllchobojmlaa
