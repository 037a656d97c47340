/- What appendWord of package isa answers, and what must lie in memory. -/
import Derived.Test.YtgldkmabhmlijaaDoorCodes
import Derived.Test.YtgldkmabhmlijaaDoorRight
import Derived.Test.YtgldkmabhmlijaaDoorAppInt
import Derived.Test.YtgldkmabhmlijaaDoorRef
namespace Go.Proofs.YtgldkmabhmlijaaDoor
open Go.RowKit Go.Sort

/-- What the package variables hold, as far as anything here asks it. -/
structure Env (w : World) : Prop where
  big : 9 ≤ w.heap.size
  names : ∀ k, k < 27 → w.cell? ⟨0, k, none⟩ = some (.string ⟨(nmL.getD k []).toArray⟩)
  pow : Pow w
  ml : ∃ m, w.cell? ⟨1, 0, none⟩ = some (.int .i64 m)
  es : ∃ ev, w.cell? ⟨5, 0, none⟩ = some ev ∧ (ev = .nilIface ∨ ∃ te pe, ev = .iface te pe)
  er : ∃ ev, w.cell? ⟨6, 0, none⟩ = some ev ∧ (ev = .nilIface ∨ ∃ te pe, ev = .iface te pe)
theorem powNamed : Tryd.prog.globalNamed "internal/strconv.uint64pow10" = some 2 := by kernel_rfl
theorem Env.keep {w w' : World} {n : Nat} (h : Env w) (hb : Below n w w') (hn : 9 ≤ n) : Env w' where
  big := Nat.le_trans h.big hb.size
  names k hk := (hb.cell (p := ⟨0, k, none⟩) (by show 0 < n; omega)).trans (h.names k hk)
  pow := by
    have hp := h.pow
    unfold Pow Lib.TabIs World.var? at hp ⊢
    rw [powNamed] at hp ⊢
    simp only [Option.bind_some] at hp ⊢
    rw [hb.block _ (by omega)]
    exact hp
  ml := by obtain ⟨m, hm⟩ := h.ml; exact ⟨m, (hb.cell (p := ⟨1, 0, none⟩) (by show 1 < n; omega)).trans hm⟩
  es := by obtain ⟨m, hm, h2⟩ := h.es; exact ⟨m, (hb.cell (p := ⟨5, 0, none⟩) (by show 5 < n; omega)).trans hm, h2⟩
  er := by obtain ⟨m, hm, h2⟩ := h.er; exact ⟨m, (hb.cell (p := ⟨6, 0, none⟩) (by show 6 < n; omega)).trans hm, h2⟩
theorem Env.below {w w' : World} (h : Env w) (hb : Below w.heap.size w w') : Env w' := h.keep hb h.big

/-- A word of an instruction's text. -/
def tw (c : Cod) (v : Int) : List UInt8 := if v = 0 then [] else 32 :: ((if 1 ≤ v ∧ v ≤ 3 then [114] else []) ++ Lib.itoa (fld c v))
theorem src1 (w : World) (b : UInt8) : Src Tryd.prog 1 44 (.slice (some ⟨w.heap.size, 0, none⟩) 1 1) [b].length (bc [b]) (w.alloc (.cells #[.int .u8 (b.toNat : Int)] 5)) :=
  Src.ofSlice (P := Tryd.prog) (w := w.alloc (.cells #[.int .u8 (b.toNat : Int)] 5)) (size := 1) Tryd.underlying44 ⟨w.heap.size, 0, none⟩ 1 1 (bc [b]) rfl (cell_one_new w (.int .u8 (b.toNat : Int)) 5) (by intro u' hu'; simp only [bc, List.mem_map] at hu'; obtain ⟨b, _, rfl⟩ := hu'; rfl)
def fOk (c : Cod) (v : Int) : Prop := -4611686018427387904 ≤ fld c v ∧ fld c v ≤ 4611686018427387904
theorem At5.kept {W W' : World} {B : Nat} {c : Cod} (h : At5 W B c) (e : W'.heap[B]? = W.heap[B]?) (hz : W.heap.size ≤ W'.heap.size) : At5 W' B c :=
  ⟨Nat.lt_of_lt_of_le h.1 hz, ⟨(World.cell?_of_block (a := ⟨B, 0, none⟩) e).trans h.2.1.1, (World.cell?_of_block (a := ⟨B, 1, none⟩) e).trans h.2.1.2.1, (World.cell?_of_block (a := ⟨B, 2, none⟩) e).trans h.2.1.2.2.1, (World.cell?_of_block (a := ⟨B, 3, none⟩) e).trans h.2.1.2.2.2.1, (World.cell?_of_block (a := ⟨B, 4, none⟩) e).trans h.2.1.2.2.2.2⟩, fun o => (World.frozen?_of_block (a := ⟨B, o, none⟩) e).trans (h.2.2 o)⟩

theorem appendWord_0 (c : Cod) (B : Nat) (sv : Value) (xs : List UInt8) (w : World) (h : BR w B sv xs) (hB : B ≤ w.heap.size) :
    Calls Tryd.prog 15 #[sv, c.v, .int .i64 0] w fun e w' => ∃ v', e = .returned v' ∧ BR w' B v' (xs ++ tw c 0) ∧ Below B w w' := by
  unfold Cod.v
  go_enter Tryd.func15, Tryd.ntmps15
  go_wp2
  go_ret
  exact ⟨sv, rfl, by simpa [tw] using h.below ((Below.refl _ _).alloc (Nat.le_refl _) _), (Below.refl _ _).alloc hB _⟩
set_option maxRecDepth 100000 in
set_option maxHeartbeats 2000000 in
theorem appendWord_reg (c : Cod) (v : Int) (hv : 1 ≤ v ∧ v ≤ 3) (B : Nat) (sv : Value) (xs : List UInt8) (w : World) (hE : Env w) (h : BR w B sv xs) (hB : B ≤ w.heap.size) (hG : 9 ≤ B) (hlim : xs.length + 30 ≤ 140737488355328) (hf : fOk c v) :
    Calls Tryd.prog 15 #[sv, c.v, .int .i64 v] w fun e w' => ∃ v', e = .returned v' ∧ BR w' B v' (xs ++ tw c v) ∧ Below B w w' := by
  obtain ⟨i0, hi, hz0, hz1, hz2⟩ := info_parts info5
  have hv0 : (v == 0) = false := by simp; omega
  have hl : 0 ≤ v ∧ v ≤ 6 := by omega
  have HR : Hid (∀ W, Calls Tryd.prog 28 #[.int .i64 v] W fun e w' => e = .returned (.bool true) ∧ w' = W) := fun W => by
    have := isRegister_any v W hl
    rw [show decide (1 ≤ v ∧ v ≤ 3) = true from by simp; omega] at this; exact this
  have HT : Hid (tw c v = [32] ++ ([114] ++ Lib.itoa (fld c v))) := by simp only [Hid, tw]; rw [if_neg (by omega), if_pos hv]; rfl
  have hC0 := At5.new w c 25
  have hb0 : Below w.heap.size w (w.alloc (.cells #[.int .i64 c.op, .int .i64 c.a, .int .i64 c.b, .int .i64 c.c, .int .i64 c.n] 25)) := (Below.refl _ _).alloc (Nat.le_refl _) _
  obtain ⟨W0, hW0⟩ : ∃ W0, W0 = w.alloc (.cells #[.int .i64 c.op, .int .i64 c.a, .int .i64 c.b, .int .i64 c.c, .int .i64 c.n] 25) := ⟨_, rfl⟩
  have hz00 : W0.heap.size = w.heap.size + 1 := by rw [hW0]; simp
  rw [← hW0] at hC0 hb0
  have h0 := h.below hb0
  have HS1 := Lib.hid (src1 W0 32)
  have hbA : Below W0.heap.size W0 (W0.alloc (.cells #[.int .u8 ((32 : UInt8).toNat : Int)] 5)) := (Below.refl _ _).alloc (Nat.le_refl _) _
  have hA := h0.below hbA
  have hne0 : some w.heap.size ≠ sv.ownBlock := by obtain ⟨g, e, _, hg⟩ := h.own; rw [e]; intro he; cases he; omega
  have hHA : W0.heap.size = w.heap.size + 1 := hz00
  rw [hz00] at HS1
  subst hW0
  unfold Cod.v
  go_enter Tryd.func15, Tryd.ntmps15
  go_wp2_with (at_builtin; refine wpList_append_br rfl _ _ 44 44 rfl 5 i0 Tryd.underlying44 hi hz0 hz1 hz2 B sv xs [32] rfl hA (.slice (some ⟨w.heap.size + 1, 0, none⟩) 1 1) rfl HS1.out (by simp; omega) (by simp; omega) ?_; intro v1 w1 r1 r2 r3 r4; refine Hid.out ?_)
  refine Lib.hid ?_
  have hz1' : w.heap.size + 2 ≤ w1.heap.size := by simpa using r4
  have k1 := r3 w.heap.size (by simp; omega) hne0
  have hC1 : At5 w1 w.heap.size c := (hC0.below hbA (by simp)).kept k1.1 r4
  have hB1 : Below B w w1 := ((hb0.mono hB).trans (hbA.mono (by simp; omega))).trans r2
  have HS2 := Lib.hid (src1 w1 114)
  have hbA1 : Below w1.heap.size w1 (w1.alloc (.cells #[.int .u8 ((114 : UInt8).toNat : Int)] 5)) := (Below.refl _ _).alloc (Nat.le_refl _) _
  have hA1 := r1.below hbA1
  have hzA1 : (w1.alloc (.cells #[.int .u8 ((114 : UInt8).toNat : Int)] 5)).heap.size = w1.heap.size + 1 := by simp
  clear HS1 hA h0 hC0 h r3 hbA
  go_wp2_with (first | (go_at_call 28; refine (HR.out _).mono ?_; rintro e w' ⟨rfl, hw'⟩; rw [hw']; clear hw' w') | (at_builtin; refine wpList_append_br rfl _ _ 44 44 rfl 5 i0 Tryd.underlying44 hi hz0 hz1 hz2 B v1 (xs ++ [32]) [114] rfl hA1 (.slice (some ⟨w1.heap.size, 0, none⟩) 1 1) rfl HS2.out (by simp; omega) (by simp; omega) ?_; intro v2 w2 s1 s2 s3 s4; refine Hid.out ?_))
  refine Lib.hid ?_
  have hz2' : w1.heap.size + 1 ≤ w2.heap.size := by simpa using s4
  have k2 := s3 w.heap.size (by simp; omega) k1.2
  have hC2 : At5 w2 w.heap.size c := (hC1.below hbA1 (by omega)).kept k2.1 s4
  have hB2 : Below B w w2 := (hB1.trans (hbA1.mono (by omega))).trans s2
  obtain ⟨cl, ⟨c0, c1, c2, c3, c4⟩, cf⟩ := hC2
  clear HS2 hA1 r1 s3 hbA1 hC1
  go_wp2_with (first | (go_at_call 25; refine (field_any c v _ hl).mono ?_; rintro e w3 ⟨rfl, hb3⟩; refine Hid.out ?_))
  refine Lib.hid ?_
  have hz3 := hb3.size
  have hI := AppendInt_br (fld c v) B hf.1 hf.2 v2 (xs ++ [32] ++ [114]) w3 (s1.below hb3) (by omega) (by simp; omega) (fun w' hw' => (((hE.keep hB2 hG).below hb3).keep hw' hG).pow)
  clear s1
  go_wp2_with (go_at_call 29; refine hI.mono ?_; rintro e w4 ⟨v4, rfl, t1, t2, t3, t4⟩)
  go_ret
  refine ⟨v4, rfl, ?_, (hB2.trans (hb3.mono (by omega))).trans t2⟩
  rw [HT.out]; simpa [List.append_assoc] using t1
set_option maxRecDepth 100000 in
set_option maxHeartbeats 2000000 in
theorem appendWord_num (c : Cod) (v : Int) (hv : 4 ≤ v ∧ v ≤ 6) (B : Nat) (sv : Value) (xs : List UInt8) (w : World) (hE : Env w) (h : BR w B sv xs) (hB : B ≤ w.heap.size) (hG : 9 ≤ B) (hlim : xs.length + 30 ≤ 140737488355328) (hf : fOk c v) :
    Calls Tryd.prog 15 #[sv, c.v, .int .i64 v] w fun e w' => ∃ v', e = .returned v' ∧ BR w' B v' (xs ++ tw c v) ∧ Below B w w' := by
  obtain ⟨i0, hi, hz0, hz1, hz2⟩ := info_parts info5
  have hv0 : (v == 0) = false := by simp; omega
  have hl : 0 ≤ v ∧ v ≤ 6 := by omega
  have HR : Hid (∀ W, Calls Tryd.prog 28 #[.int .i64 v] W fun e w' => e = .returned (.bool false) ∧ w' = W) := fun W => by
    have := isRegister_any v W hl
    rw [show decide (1 ≤ v ∧ v ≤ 3) = false from by simp; omega] at this; exact this
  have HT : Hid (tw c v = [32] ++ Lib.itoa (fld c v)) := by simp only [Hid, tw]; rw [if_neg (by omega), if_neg (by omega)]; rfl
  have hC0 := At5.new w c 25
  have hb0 : Below w.heap.size w (w.alloc (.cells #[.int .i64 c.op, .int .i64 c.a, .int .i64 c.b, .int .i64 c.c, .int .i64 c.n] 25)) := (Below.refl _ _).alloc (Nat.le_refl _) _
  obtain ⟨W0, hW0⟩ : ∃ W0, W0 = w.alloc (.cells #[.int .i64 c.op, .int .i64 c.a, .int .i64 c.b, .int .i64 c.c, .int .i64 c.n] 25) := ⟨_, rfl⟩
  have hz00 : W0.heap.size = w.heap.size + 1 := by rw [hW0]; simp
  rw [← hW0] at hC0 hb0
  have h0 := h.below hb0
  have HS1 := Lib.hid (src1 W0 32)
  have hbA : Below W0.heap.size W0 (W0.alloc (.cells #[.int .u8 ((32 : UInt8).toNat : Int)] 5)) := (Below.refl _ _).alloc (Nat.le_refl _) _
  have hA := h0.below hbA
  have hne0 : some w.heap.size ≠ sv.ownBlock := by obtain ⟨g, e, _, hg⟩ := h.own; rw [e]; intro he; cases he; omega
  have hHA : W0.heap.size = w.heap.size + 1 := hz00
  rw [hz00] at HS1
  subst hW0
  unfold Cod.v
  go_enter Tryd.func15, Tryd.ntmps15
  go_wp2_with (at_builtin; refine wpList_append_br rfl _ _ 44 44 rfl 5 i0 Tryd.underlying44 hi hz0 hz1 hz2 B sv xs [32] rfl hA (.slice (some ⟨w.heap.size + 1, 0, none⟩) 1 1) rfl HS1.out (by simp; omega) (by simp; omega) ?_; intro v1 w1 r1 r2 r3 r4; refine Hid.out ?_)
  refine Lib.hid ?_
  have hz1' : w.heap.size + 2 ≤ w1.heap.size := by simpa using r4
  have k1 := r3 w.heap.size (by simp; omega) hne0
  have hC1 : At5 w1 w.heap.size c := (hC0.below hbA (by simp)).kept k1.1 r4
  have hB1 : Below B w w1 := ((hb0.mono hB).trans (hbA.mono (by simp; omega))).trans r2
  clear HS1 hA h0 hC0 h r3 hbA
  obtain ⟨cl, ⟨c0, c1, c2, c3, c4⟩, cf⟩ := hC1
  go_wp2_with (first | (go_at_call 28; refine (HR.out _).mono ?_; rintro e w' ⟨rfl, hw'⟩; rw [hw']; clear hw' w') | (go_at_call 25; refine (field_any c v _ hl).mono ?_; rintro e w3 ⟨rfl, hb3⟩; refine Hid.out ?_))
  refine Lib.hid ?_
  have hz3 := hb3.size
  have hI := AppendInt_br (fld c v) B hf.1 hf.2 v1 (xs ++ [32]) w3 (r1.below hb3) (by omega) (by simp; omega) (fun w' hw' => (((hE.keep hB1 hG).below hb3).keep hw' hG).pow)
  clear r1
  go_wp2_with (go_at_call 29; refine hI.mono ?_; rintro e w4 ⟨v4, rfl, t1, t2, t3, t4⟩)
  go_ret
  refine ⟨v4, rfl, ?_, (hB1.trans (hb3.mono (by omega))).trans t2⟩
  rw [HT.out]; simpa [List.append_assoc] using t1
theorem appendWord_any (c : Cod) (v : Int) (hv : 0 ≤ v ∧ v ≤ 6) (B : Nat) (sv : Value) (xs : List UInt8) (w : World) (hE : Env w) (h : BR w B sv xs) (hB : B ≤ w.heap.size) (hG : 9 ≤ B) (hlim : xs.length + 30 ≤ 140737488355328) (hf : fOk c v) :
    Calls Tryd.prog 15 #[sv, c.v, .int .i64 v] w fun e w' => ∃ v', e = .returned v' ∧ BR w' B v' (xs ++ tw c v) ∧ Below B w w' := by
  by_cases h0 : v = 0
  · subst h0; exact appendWord_0 c B sv xs w h hB
  · by_cases h3 : v ≤ 3
    · exact appendWord_reg c v (by omega) B sv xs w hE h hB hG hlim hf
    · exact appendWord_num c v (by omega) B sv xs w hE h hB hG hlim hf
end Go.Proofs.YtgldkmabhmlijaaDoor
