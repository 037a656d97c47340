/- What SameInfo of layer 4's reference and Same of layer 5's answer, for every two; when two states are the same. -/
import Derived.Test.YtonhdkldacghoaaSameI
import Derived.Laws.StructEq
import Derived.BigFrame
namespace Go.Proofs.Ytonhdkldacghoaa
open Go.RowKit Go.Sort

theorem sz_u64 (w : World) : (Go.sizeOf 37).run Try.prog w = .ok 1 w := by
  obtain ⟨i, hi⟩ := Option.isSome_iff_exists.1 (show (Try.prog.info? 37).isSome = true by kernel_rfl)
  have hs : (Try.prog.info? 37).map (·.size) = some 1 := by kernel_rfl
  rw [hi] at hs
  simp only [Option.map_some, Option.some.injEq] at hs
  simp [Go.sizeOf, typeInfo, hi, hs]
def u16 (xs ys : List Int) : Bool := (List.range' 0 16 1).all fun i => xs.getD i 0 == ys.getD i 0
theorem eq_u64s (d : Nat) (xs ys : List Int) (hx : xs.length = 16) (hy : ys.length = 16) (w : World) : (Op.equalIn (d + 2) 38 (.agg (xs.map (Value.int .u64)).toArray) (.agg (ys.map (Value.int .u64)).toArray)).run Try.prog w = .ok (u16 xs ys) w := by
  rw [Op.equalIn]
  simp only [Sem.run_bind, run_underlying Try.underlying38, Result.andThen_ok, sz_u64, Std.Legacy.Range.forIn_eq_forIn_range', Std.Legacy.Range.size, Nat.sub_zero, Nat.add_sub_cancel, Nat.div_one]
  unfold u16
  have hl : ∀ i ∈ List.range' 0 16 1, i < 16 := fun i hi => by simpa using (List.mem_range'_1.1 hi).2
  generalize List.range' 0 16 1 = l at hl ⊢
  induction l with
  | nil => simp
  | cons i l ih =>
    have hi : i < 16 := hl i (by simp)
    have px : (part 37 (xs.map (Value.int .u64)).toArray (i * 1)).run Try.prog w = .ok (.int .u64 (xs.getD i 0)) w := by
      simp [part, isAgg, run_underlying Try.underlying37, List.getD, List.getElem?_eq_getElem (show i < xs.length by omega)]
    have py : (part 37 (ys.map (Value.int .u64)).toArray (i * 1)).run Try.prog w = .ok (.int .u64 (ys.getD i 0)) w := by
      simp [part, isAgg, run_underlying Try.underlying37, List.getD, List.getElem?_eq_getElem (show i < ys.length by omega)]
    have pe : (Op.equalIn (d + 1) 37 (.int .u64 (xs.getD i 0)) (.int .u64 (ys.getD i 0))).run Try.prog w = .ok (xs.getD i 0 == ys.getD i 0) w := by
      rw [run_equalIn_int w d 37 .u64 .u64 _ _ Try.underlying37]
    cases hb : (xs.getD i 0 == ys.getD i 0) with
    | true =>
      rw [hb] at pe
      rw [List.all_cons, hb, Bool.true_and]
      simp only [List.forIn_cons, Sem.run_bind, px, py, pe, Result.andThen_ok, Bool.not_true, Bool.false_eq_true, if_false, Sem.run_pure]
      exact ih fun j hj => hl j (by simp [hj])
    | false =>
      rw [hb] at pe
      rw [List.all_cons, hb, Bool.false_and]
      simp only [List.forIn_cons, Sem.run_bind, px, py, pe, Result.andThen_ok, Bool.not_false, if_true, Sem.run_pure]
/-- The cells of a state. -/
def stA (st : List Int) : Array Value := (st.map (Value.int .u64)).toArray
theorem eq_stA {a b : List Int} (ha : a.length = 17) (hb : b.length = 17) (w : World) : (Op.equalIn 9999 38 (.agg ((stA a).extract 0 16)) (.agg ((stA b).extract 0 16))).run Try.prog w = .ok (u16 (a.take 16) (b.take 16)) w := by
  have ht : ∀ {a : List Int}, (stA a).extract 0 16 = ((a.take 16).map (Value.int .u64)).toArray := fun {a} => by
    apply Array.toList_inj.1; rw [Array.toList_extract, List.extract_eq_take_drop]; simp [stA]
  rw [ht, ht]
  exact eq_u64s 9997 _ _ (by simp [ha]) (by simp [hb]) w
theorem pc_stA {a : List Int} (ha : a.length = 17) : (stA a)[16]? = some (.int .u64 (a.getD 16 0)) := by
  simp [stA, ha, List.getD]
noncomputable def eqP {α : Type} (a b : α) : Bool := @decide (a = b) (Classical.propDecidable _)
theorem eqP_yes {α : Type} {a b : α} (h : a = b) : eqP a b = true := by unfold eqP; simp [h]
theorem eqP_no {α : Type} {a b : α} (h : a ≠ b) : eqP a b = false := by unfold eqP; simp [h]
theorem eqP_true {α : Type} {a b : α} (h : eqP a b = true) : a = b := by unfold eqP at h; simpa using h
theorem eqP_false {α : Type} {a b : α} (h : eqP a b = false) : a ≠ b := by unfold eqP at h; simpa using h
theorem eq_mp (x y : Mp) (W : World) : (Op.equalIn 10000 77 (.agg #[.int .i64 x.at_, .int .i64 x.pg, .int .i64 x.inn, .int .i64 x.id, .int .i64 x.fr, .bool x.wr, .bool x.rn]) (.agg #[.int .i64 y.at_, .int .i64 y.pg, .int .i64 y.inn, .int .i64 y.id, .int .i64 y.fr, .bool y.wr, .bool y.rn])).run Try.prog W = .ok (eqP x y) W := by
  rw [run_equalIn_struct W 9999 77 _ _ (by unfold Program.fieldsOf; rw [Try.underlying77]) (by kernel_rfl)]
  unfold Program.fieldsOf
  rw [Try.underlying77]
  obtain ⟨a0, a1, a2, a3, a4, a5, a6⟩ := x
  obtain ⟨b0, b1, b2, b3, b4, b5, b6⟩ := y
  by_cases h0 : a0 = b0
  · by_cases h1 : a1 = b1
    · by_cases h2 : a2 = b2
      · by_cases h3 : a3 = b3
        · by_cases h4 : a4 = b4
          · by_cases h5 : a5 = b5
            · by_cases h6 : a6 = b6
              · simp [go_sem, Op.eqFields, eqP, h0, h1, h2, h3, h4, h5, h6]
              · simp [go_sem, Op.eqFields, eqP, h0, h1, h2, h3, h4, h5, h6]
            · simp [go_sem, Op.eqFields, eqP, h0, h1, h2, h3, h4, h5]
          · simp [go_sem, Op.eqFields, eqP, h0, h1, h2, h3, h4]
        · simp [go_sem, Op.eqFields, eqP, h0, h1, h2, h3]
      · simp [go_sem, Op.eqFields, eqP, h0, h1, h2]
    · simp [go_sem, Op.eqFields, eqP, h0, h1]
  · simp [go_sem, Op.eqFields, eqP, h0]
theorem ms_get {w wr : World} {p : Option Addr} {l : List Mp} (h : MsAt w p l) (hb : Below w.heap.size w wr) (k : Nat) (hk : k < l.length) : ∃ b off, p = some ⟨b, off, none⟩ ∧ b < wr.heap.size ∧ wr.cell? ⟨b, off + k * 7, none⟩ = some (.int .i64 l[k].at_) ∧ wr.cell? ⟨b, off + k * 7 + 1, none⟩ = some (.int .i64 l[k].pg) ∧ wr.cell? ⟨b, off + k * 7 + 2, none⟩ = some (.int .i64 l[k].inn) ∧ wr.cell? ⟨b, off + k * 7 + 3, none⟩ = some (.int .i64 l[k].id) ∧ wr.cell? ⟨b, off + k * 7 + 4, none⟩ = some (.int .i64 l[k].fr) ∧ wr.cell? ⟨b, off + k * 7 + 5, none⟩ = some (.bool l[k].wr) ∧ wr.cell? ⟨b, off + k * 7 + 6, none⟩ = some (.bool l[k].rn) := by
  obtain ⟨b, off, hp, hbl, hc⟩ := h.below hb k hk
  exact ⟨b, off, hp, hbl, hc 0 _ rfl, hc 1 _ rfl, hc 2 _ rfl, hc 3 _ rfl, hc 4 _ rfl, hc 5 _ rfl, hc 6 _ rfl⟩
theorem bdnS {n : Nat} {w wr : World} (h : Below n w wr) (k : Nat) : Below n w (wr.drewN k) := h.trans ⟨rfl, rfl, rfl, Nat.le_refl _, fun _ _ => rfl⟩
set_option maxRecDepth 100000 in
set_option maxHeartbeats 2000000 in
theorem MSame_any (p q : Option Addr) (cp cq : Nat) (a b : List Mp) (w : World) (hn : a.length ≤ maxLen) (ha : MsAt w p a) (hb : MsAt w q b) :
    Calls Try.prog 41 #[.slice p a.length cp, .slice q b.length cq] w fun e w' => e = .returned (.bool (eqP a b)) ∧ Below w.heap.size w w' := by
  unfold maxLen at hn
  by_cases hl : a.length = b.length
  · have hl1 : ((a.length : Int) == (b.length : Int)) = true := by simp [hl]
    have HL := Lib.hid hl
    clear hl
    go_enter Try.func41, Try.ntmps41
    go_wp2
    go_loopw [13] (fun i wr => ∃ k : Nat, k ≤ a.length ∧ i = .int .i64 k ∧ a.take k = b.take k ∧ Below w.heap.size w wr) (fun i _ => a.length - (intOf i).toNat)
    case atStart => exact ⟨0, Nat.zero_le _, rfl, by simp, Below.refl _ _⟩
    case round =>
      obtain ⟨k, hk, rfl, hr, hbr⟩ := hrel
      have HR := Lib.hid hr; clear hr
      by_cases hlt : k < a.length
      · have hlt2 : k < b.length := by have := HL.out; omega
        have hki : (k : Int) < (a.length : Int) := by omega
        have hki2 : (k : Int) < (b.length : Int) := by omega
        obtain ⟨b1, o1, rfl, hb1r, c0, c1, c2, c3, c4, c5, c6⟩ := ms_get ha hbr k hlt
        obtain ⟨b2, o2, rfl, hb2r, d0, d1, d2, d3, d4, d5, d6⟩ := ms_get hb hbr k hlt2
        have EQ := eq_mp a[k] b[k]
        clear ha hb
        have HT1 := Lib.hid (List.take_succ_eq_append_getElem hlt)
        have HT2 := Lib.hid (List.take_succ_eq_append_getElem hlt2)
        by_cases he : a[k] = b[k]
        · have he' : eqP a[k] b[k] = true := eqP_yes he
          have HE := Lib.hid he
          clear he
          go_wp2
          go_quiet (fail)
          go_wp2
          go_roundw
          case rel => exact ⟨k + 1, by omega, by go_num, by rw [HT1.out, HT2.out, HR.out, HE.out], bdnS hbr _⟩
          case measure => simp [intOf]; omega
        · have he' : eqP a[k] b[k] = false := eqP_no he
          have HE := Lib.hid he
          clear he
          go_wp2
          go_quiet (fail)
          go_wp2
          go_ret
          exact ⟨ret_bool (by rw [eqP_no (fun h => by subst h; exact HE.out rfl)]), bdnS hbr _⟩
      · obtain rfl : k = a.length := by omega
        have hkk : ¬ (a.length : Int) < (a.length : Int) := by omega
        go_wp2
        go_ret
        exact ⟨ret_bool (by rw [eqP_yes (by have := HR.out; rw [List.take_length, HL.out, List.take_length] at this; exact this)]), hbr⟩
  · have hl1 : ((a.length : Int) == (b.length : Int)) = false := by simp; omega
    have HL := Lib.hid hl
    clear hl
    go_enter Try.func41, Try.ntmps41
    go_wp2
    go_ret
    exact ⟨ret_bool (by rw [eqP_no (fun h => HL.out (by rw [h]))]), Below.refl _ _⟩
def infB (a b : Ob) : Bool := (a.id == b.id) && ((a.kind == b.kind) && ((a.quota == b.quota) && ((a.used == b.used) && ((a.links == b.links) && sameS a.L.d b.L.d a.L.xs b.L.xs))))
def infV (a : Ob) : Value := .agg #[.int .i64 a.id, .int .i64 a.kind, .int .i64 a.quota, .int .i64 a.used, .int .i64 a.links, .int .i64 a.L.d, .slice a.L.p a.L.xs.length a.L.cap]
set_option maxRecDepth 100000 in
set_option maxHeartbeats 2000000 in
theorem SameInfo_any (a b : Ob) (w : World) (hma : a.L.xs.length ≤ maxLen) (hmb : b.L.xs.length ≤ maxLen) (ha : CatsAt w a.L.p a.L.xs) (hb : CatsAt w b.L.p b.L.xs) :
    Calls Try.prog 40 #[infV a, infV b] w fun e w' => e = .returned (.bool (infB a b)) ∧ Below w.heap.size w w' := by
  have HS := Lib.hid (fun (X : World) (hX : Below w.heap.size w X) => Same_any a.L.d b.L.d a.L.p b.L.p a.L.cap b.L.cap a.L.xs b.L.xs X hma hmb (ha.below hX) (hb.below hX))
  have HF : Hid (infB a b = ((a.id == b.id) && ((a.kind == b.kind) && ((a.quota == b.quota) && ((a.used == b.used) && ((a.links == b.links) && sameS a.L.d b.L.d a.L.xs b.L.xs)))))) := Lib.hid rfl
  clear ha hb hma hmb
  generalize sameS a.L.d b.L.d a.L.xs b.L.xs = sb at *
  generalize infB a b = ib at *
  unfold infV
  obtain ⟨a0, a1, a2, a3, a4, ⟨a5, a6, a7, a8⟩, _⟩ := a
  obtain ⟨b0, b1, b2, b3, b4, ⟨b5, b6, b7, b8⟩, _⟩ := b
  simp only at HS HF ⊢
  generalize a8.length = n8 at *
  generalize b8.length = m8 at *
  have hW : Below w.heap.size w ((w.alloc (.cells #[.int .i64 a0, .int .i64 a1, .int .i64 a2, .int .i64 a3, .int .i64 a4, .int .i64 a5, .slice a6 n8 a7] 33)).alloc (.cells #[.int .i64 b0, .int .i64 b1, .int .i64 b2, .int .i64 b3, .int .i64 b4, .int .i64 b5, .slice b6 m8 b7] 33)) := by go_grown
  by_cases h0 : (a0 == b0) = true
  · skip
    by_cases h1 : (a1 == b1) = true
    · skip
      by_cases h2 : (a2 == b2) = true
      · skip
        by_cases h3 : (a3 == b3) = true
        · skip
          by_cases h4 : (a4 == b4) = true
          · skip
            have HE : Hid (ib = sb) := Lib.hid (by rw [HF.out, h0, h1, h2, h3, h4]; rfl)
            go_enter Try.func40, Try.ntmps40
            go_wp2_with (first
              | (go_at_call 42; refine (HS.out _ hW).mono ?_; rintro e w2 ⟨rfl, hb2⟩))
            go_ret
            exact ⟨ret_bool HE.out.symm, hW.trans (hb2.mono hW.size)⟩
          · have h4' : (a4 == b4) = false := by simpa using h4
            have HE : Hid (ib = false) := Lib.hid (by rw [HF.out, h0, h1, h2, h3, h4']; rfl)
            clear h4
            go_enter Try.func40, Try.ntmps40
            go_wp2
            go_ret
            exact ⟨ret_bool HE.out.symm, hW⟩
        · have h3' : (a3 == b3) = false := by simpa using h3
          have HE : Hid (ib = false) := Lib.hid (by rw [HF.out, h0, h1, h2, h3']; rfl)
          clear h3
          go_enter Try.func40, Try.ntmps40
          go_wp2
          go_ret
          exact ⟨ret_bool HE.out.symm, hW⟩
      · have h2' : (a2 == b2) = false := by simpa using h2
        have HE : Hid (ib = false) := Lib.hid (by rw [HF.out, h0, h1, h2']; rfl)
        clear h2
        go_enter Try.func40, Try.ntmps40
        go_wp2
        go_ret
        exact ⟨ret_bool HE.out.symm, hW⟩
    · have h1' : (a1 == b1) = false := by simpa using h1
      have HE : Hid (ib = false) := Lib.hid (by rw [HF.out, h0, h1']; rfl)
      clear h1
      go_enter Try.func40, Try.ntmps40
      go_wp2
      go_ret
      exact ⟨ret_bool HE.out.symm, hW⟩
  · have h0' : (a0 == b0) = false := by simpa using h0
    have HE : Hid (ib = false) := Lib.hid (by rw [HF.out, h0']; rfl)
    clear h0
    go_enter Try.func40, Try.ntmps40
    go_wp2
    go_ret
    exact ⟨ret_bool HE.out.symm, hW⟩
end Go.Proofs.Ytonhdkldacghoaa
