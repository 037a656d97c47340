/- A state is itself. -/
import Derived.Test.YtblhikmhmnkclaaLawB
import Derived.Laws.StructEq
import Derived.BigFrame
namespace Go.Proofs.Ytblhikmhmnkclaa
open Go.RowKit Go.Lib
/-- A load of a whole row, by a guarded operation. -/
theorem wpList_load_rowW {P : Program} {ops : Array Oper} {rest : List Oper} {o : Oper} {a : Act} {w : World} {Q : Exit → Act → World → Prop} (hw : Region.wanted o (yielded ops a.tmps) = true) (ty : TypeId) (x : Operand) (ho : o.op = .load ty x)
    (g : Nat) (hx : a.eval x = .pointer (some ⟨g, 0, none⟩)) (t : TypeId) (cs : Array Value) (fr : Nat × Nat) (d : TypeDesc) (hg : w.heap[g]? = some (.cells cs t fr))
    (hu : P.underlying ty = some d) (hd : (match d with | .struct _ | .array _ _ => true | _ => false) = true) (hi : (P.info? ty).map (·.size) = some cs.size)
    (h : wpList P ops Q rest (a.put o.dst (.agg cs)) w) : wpList P ops Q (o :: rest) a w :=
  Go.BigFrame.wpList_want hw fun _ hK => wp_load_row ty x ho g hx t cs fr d hg hu hd hi (hK _ _ h)
theorem sz_u64 (w : World) : (Go.sizeOf 22).run Try.prog w = .ok 1 w := by
  obtain ⟨i, hi⟩ := Option.isSome_iff_exists.1 (show (Try.prog.info? 22).isSome = true by kernel_rfl)
  have hs : (Try.prog.info? 22).map (·.size) = some 1 := by kernel_rfl
  rw [hi] at hs
  simp only [Option.map_some, Option.some.injEq] at hs
  simp [Go.sizeOf, typeInfo, hi, hs]
theorem eq_u64s (d : Nat) (xs : List Int) (hx : xs.length = 16) (w : World) : (Op.equalIn (d + 2) 23 (.agg (xs.map (Value.int .u64)).toArray) (.agg (xs.map (Value.int .u64)).toArray)).run Try.prog w = .ok true w := by
  rw [Op.equalIn]
  simp only [Sem.run_bind, run_underlying Try.underlying23, Result.andThen_ok, sz_u64, Std.Legacy.Range.forIn_eq_forIn_range', Std.Legacy.Range.size, Nat.sub_zero, Nat.add_sub_cancel, Nat.div_one]
  have hl : ∀ i ∈ List.range' 0 16 1, i < 16 := fun i hi => by simpa using (List.mem_range'_1.1 hi).2
  generalize List.range' 0 16 1 = l at hl ⊢
  induction l with
  | nil => simp
  | cons i l ih =>
    have hi : i < 16 := hl i (by simp)
    have px : (part 22 (xs.map (Value.int .u64)).toArray (i * 1)).run Try.prog w = .ok (.int .u64 (xs.getD i 0)) w := by
      simp [part, isAgg, run_underlying Try.underlying22, List.getD, List.getElem?_eq_getElem (show i < xs.length by omega)]
    have pe : (Op.equalIn (d + 1) 22 (.int .u64 (xs.getD i 0)) (.int .u64 (xs.getD i 0))).run Try.prog w = .ok true w := by
      rw [run_equalIn_int w d 22 .u64 .u64 _ _ Try.underlying22]
      simp
    simp only [List.forIn_cons, Sem.run_bind, px, pe, Result.andThen_ok, Bool.not_true, Bool.false_eq_true, if_false, Sem.run_pure]
    exact ih fun j hj => hl j (by simp [hj])
theorem eq_st16 {r : List Int} {pc : Int} {cs : Array Value} (hr : r.length = 16) (hcs : (stC r pc).toArray = cs) (w : World) : (Op.equalIn 9999 23 (.agg (cs.extract 0 16)) (.agg (cs.extract 0 16))).run Try.prog w = .ok true w := by
  have ht : cs.extract 0 16 = (r.map (Value.int .u64)).toArray := by
    rw [← hcs]; apply Array.toList_inj.1; rw [Array.toList_extract, List.extract_eq_take_drop]; simp [stC, hr]
  rw [ht]; exact eq_u64s 9997 r hr w
theorem st_pc16 {r : List Int} {pc : Int} {cs : Array Value} (hr : r.length = 16) (hcs : (stC r pc).toArray = cs) : cs[16]? = some (.int .u64 pc) := by
  rw [← hcs]; simp [stC, hr]
theorem eq_st (r : List Int) (pc : Int) (hr : r.length = 16) (w : World) : (Op.equalIn 10000 25 (.agg (stC r pc).toArray) (.agg (stC r pc).toArray)).run Try.prog w = .ok true w := by
  rw [run_equalIn_struct w 9999 25 _ _ (by unfold Program.fieldsOf; rw [Try.underlying25]) (by kernel_rfl)]
  unfold Program.fieldsOf
  rw [Try.underlying25]
  have ht : List.take 16 (stC r pc) = r.map (Value.int .u64) := by unfold stC; rw [List.take_append_of_le_length (by simp [hr])]; rw [List.take_of_length_le (by simp [hr])]
  have hq : (stC r pc)[16]? = some (.int .u64 pc) := by simp [stC, hr]
  simp [go_sem, Op.eqFields, ht, hq, eq_u64s 9997 r hr]
end Go.Proofs.Ytblhikmhmnkclaa
