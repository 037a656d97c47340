/- What copied of package view answers: an object of the same that shares no memory with it. -/
import Derived.Test.YtonhdkldacghoaaClone
import Derived.Test.YtonhdkldacghoaaLow
import Derived.Deep.RegionLaw
import Derived.Deep.Cut
namespace Go.Proofs.Ytonhdkldacghoaa
open Go.RowKit Go.Sort

theorem heap_setCell {w : World} {g f : Nat} {v : Value} {cs : Array Value} {t : TypeId} {fr : Nat × Nat} (h : w.heap[g]? = some (.cells cs t fr)) : (w.setCell ⟨g, f, none⟩ v).heap[g]? = some (.cells (cs.setIfInBounds f v) t fr) := by
  show (w.heap.modify g _)[g]? = _
  simp [Array.getElem?_modify, h]
theorem heap_setCell_ne (w : World) (g f : Nat) (v : Value) {k : Nat} (h : k ≠ g) : (w.setCell ⟨g, f, none⟩ v).heap[k]? = w.heap[k]? := by
  show (w.heap.modify g _)[k]? = _
  rw [Array.getElem?_modify, if_neg (Ne.symm h)]
theorem size_setCell (w : World) (a : Addr) (v : Value) : (w.setCell a v).heap.size = w.heap.size := by simp [World.setCell]
def Ob.setL (o : Ob) (p : Option Addr) (c : Nat) : Ob := { o with L := { o.L with p := p, cap := c } }
def Ob.setC (o : Ob) (p : Option Addr) (c : Nat) : Ob := { o with C := { o.C with p := p, cap := c } }
def Ob.setls (o : Ob) (p : Option Addr) (c : Nat) : Ob := { o with lp := p, lc := c }
def Ob.setms (o : Ob) (p : Option Addr) (c : Nat) : Ob := { o with mp := p, mc := c }
def Ob.setal (o : Ob) (p : Option Addr) (c : Nat) : Ob := { o with ap := p, ac := c }
theorem cs_setL (o : Ob) (p : Option Addr) (c : Nat) : o.cs.setIfInBounds 6 (.slice p o.L.xs.length c) = (o.setL p c).cs := by simp [Ob.cs, Ob.cl, Ob.hd, Ob.tl, Ob.setL]
theorem cs_setC (o : Ob) (p : Option Addr) (c : Nat) : o.cs.setIfInBounds 11 (.slice p o.C.xs.length c) = (o.setC p c).cs := by simp [Ob.cs, Ob.cl, Ob.hd, Ob.tl, Ob.setC]
theorem cs_setls (o : Ob) (p : Option Addr) (c : Nat) : o.cs.setIfInBounds 7 (.slice p o.ls.length c) = (o.setls p c).cs := by simp [Ob.cs, Ob.cl, Ob.hd, Ob.tl, Ob.setls]
theorem cs_setms (o : Ob) (p : Option Addr) (c : Nat) : o.cs.setIfInBounds 9 (.slice p o.ms.length c) = (o.setms p c).cs := by simp [Ob.cs, Ob.cl, Ob.hd, Ob.tl, Ob.setms]
theorem cs_setal (o : Ob) (hs : o.st.length = 17) (p : Option Addr) (c : Nat) : o.cs.setIfInBounds 35 (.slice p o.al.length c) = (o.setal p c).cs := by
  unfold Ob.cs
  rw [List.setIfInBounds_toArray]
  congr 1
  unfold Ob.cl
  rw [List.set_append_right _ _ (by simp [Ob.hd]), List.set_append_right _ _ (by simp [Ob.hd, hs])]
  simp [Ob.hd, Ob.tl, Ob.setal, hs]
/-- An object's contents, wherever its rows lie. -/
def Ob.con (o : Ob) : Ob := { o with L := ⟨o.L.d, none, 0, o.L.xs⟩, lp := none, lc := 0, mp := none, mc := 0, C := ⟨o.C.d, none, 0, o.C.xs⟩, ap := none, ac := 0 }
/-- Its rows can be copied. -/
structure Ob.Fits (o : Ob) : Prop where
  L : o.L.xs.length * 16 ≤ 140737488355328
  ls : o.ls.length * 8 ≤ 140737488355328
  ms : o.ms.length * 48 ≤ 140737488355328
  C : o.C.xs.length * 16 ≤ 140737488355328
  al : o.al.length * 8 ≤ 140737488355328
/-- A place that lies at B or behind, and is there. -/
def Over (B : Nat) (w : World) (p : Option Addr) : Prop := ∀ a, p = some a → B ≤ a.block ∧ a.block < w.heap.size
/-- All rows of an object lie at B or behind. -/
structure ObOver (B : Nat) (w : World) (o : Ob) : Prop where
  L : Over B w o.L.p
  ls : Over B w o.lp
  ms : Over B w o.mp
  C : Over B w o.C.p
  al : Over B w o.ap
theorem row_out {w : World} {B e size n : Nat} {v : Value} {xs : List Value} (h : w.ownsRow B e size v n xs) : ∃ p c, v = .slice p n c ∧ n ≤ c ∧ (p = none → c = 0) ∧ Over B w p := by
  rcases h.2 with ⟨rfl, h0⟩ | ⟨g, cap, cur, rfl, h2, h3, h4, _⟩
  · exact ⟨none, 0, by rw [h0], by omega, fun _ => rfl, fun a e => by cases e⟩
  · exact ⟨_, cap, rfl, h4, (fun e => by cases e), fun a e => by cases e; exact ⟨h2, (h.lt g rfl).2⟩⟩
/-- Cells that may be written. -/
def Wrt (t : TypeId) (m : Nat) (w : World) (p : Option Addr) : Prop := ∀ a, p = some a → ∃ c, w.heap[a.block]? = some (.cells c t (0, 0)) ∧ a.off + m ≤ c.size ∧ a.spot = none
theorem row_wrt {w : World} {B e size n : Nat} {p : Option Addr} {c : Nat} {xs : List Value} (h : w.ownsRow B e size (.slice p n c) n xs) : Wrt e (n * size) w p := by
  rcases h.2 with ⟨hv, h0⟩ | ⟨g, cap, cur, hv, h2, h3, h4, _, h6, _⟩
  · simp only [Value.slice.injEq] at hv
    rw [hv.1]; intro a e; cases e
  · simp only [Value.slice.injEq] at hv
    obtain ⟨rfl, _, rfl⟩ := hv
    intro a e
    cases e
    exact ⟨cur, h3, by rw [h6, Nat.zero_add]; exact Nat.mul_le_mul_right _ h4, rfl⟩
theorem row_cats {w : World} {B : Nat} {p : Option Addr} {c : Nat} {xs : List (Int × Int)} (h : w.ownsRow B 50 2 (.slice p xs.length c) xs.length (flat xs)) : CatsAt w p xs := by
  obtain ⟨p', c', e, hc, _⟩ := own_out h
  cases e; exact hc
theorem row_ms {w : World} {B : Nat} {p : Option Addr} {c : Nat} {xs : List Mp} (h : w.ownsRow B 77 7 (.slice p xs.length c) xs.length (mcells xs)) : MsAt w p xs := by
  intro k hk
  rcases h.2 with ⟨hv, h0⟩ | ⟨g, cap', cur, hv, _, hg, _⟩
  · omega
  · simp at hv
    obtain ⟨rfl, rfl⟩ := hv
    refine ⟨g, 0, rfl, (Array.getElem?_eq_some_iff.1 hg).1, fun f u hu => ?_⟩
    have hf : f < 7 := by have := (Array.getElem?_eq_some_iff.1 hu).1; simpa [mpC] using this
    rw [Nat.zero_add, h.cellAt (k * 7 + f) (by omega)]
    exact mcells_at xs k hk f u hu
/-- What isn't block N or the one behind it stays. -/
structure Kn (N : Nat) (X Y : World) : Prop where
  size : X.heap.size ≤ Y.heap.size
  block : ∀ k, k < X.heap.size → k ≠ N → k ≠ N + 1 → Y.heap[k]? = X.heap[k]?
theorem Kn.trans {N : Nat} {X Y Z : World} (h : Kn N X Y) (k : Kn N Y Z) : Kn N X Z := ⟨Nat.le_trans h.size k.size, fun j hj h1 h2 => (k.block j (Nat.lt_of_lt_of_le hj h.size) h1 h2).trans (h.block j hj h1 h2)⟩
theorem Kn.refl (N : Nat) (X : World) : Kn N X X := ⟨Nat.le_refl _, fun _ _ _ _ => rfl⟩
theorem Kn.below {N : Nat} {X Y : World} (h : Below X.heap.size X Y) : Kn N X Y := ⟨h.size, fun k hk _ _ => h.block k hk⟩
theorem Kn.set {N f : Nat} {X : World} {v : Value} : Kn N X (X.setCell ⟨N, f, none⟩ v) := ⟨by rw [size_setCell]; omega, fun k _ h1 _ => heap_setCell_ne _ _ _ _ h1⟩
section
variable {N : Nat} {X Y : World} {p : Option Addr}
theorem Kn.cell (h : Kn N X Y) (ho : Over (N + 2) X p) {b off : Nat} {u : Value} {j : Nat} (hp : p = some ⟨b, off, none⟩) (hc : X.cell? ⟨b, j, none⟩ = some u) : Y.cell? ⟨b, j, none⟩ = some u := by
  obtain ⟨h1, h2⟩ := ho _ hp
  simp only at h1 h2
  rw [← hc]
  exact World.cell?_of_block (a := ⟨b, j, none⟩) (h.block b h2 (by omega) (by omega))
theorem Kn.wrt (h : Kn N X Y) (ho : Over (N + 2) X p) {t : TypeId} {m : Nat} (hw : Wrt t m X p) : Wrt t m Y p := fun a e => by
  obtain ⟨c, h1, h2, h3⟩ := hw a e
  obtain ⟨g1, g2⟩ := ho a e
  exact ⟨c, (h.block a.block g2 (by omega) (by omega)).trans h1, h2, h3⟩
theorem Kn.over (h : Kn N X Y) {B : Nat} (ho : Over B X p) : Over B Y p := fun a e => ⟨(ho a e).1, Nat.lt_of_lt_of_le (ho a e).2 h.size⟩
theorem Kn.cats (h : Kn N X Y) (ho : Over (N + 2) X p) {xs : List (Int × Int)} (hc : CatsAt X p xs) : CatsAt Y p xs := fun k hk => by
  obtain ⟨b, off, hp, hb, c0, c1⟩ := hc k hk
  exact ⟨b, off, hp, Nat.lt_of_lt_of_le hb h.size, h.cell ho hp c0, h.cell ho hp c1⟩
theorem Kn.ints (h : Kn N X Y) (ho : Over (N + 2) X p) {xs : List Int} (hc : IntsAt X p xs) : IntsAt Y p xs := fun k hk => by
  obtain ⟨b, off, hp, hb, c0⟩ := hc k hk
  exact ⟨b, off, hp, Nat.lt_of_lt_of_le hb h.size, h.cell ho hp c0⟩
theorem Kn.ms (h : Kn N X Y) (ho : Over (N + 2) X p) {xs : List Mp} (hc : MsAt X p xs) : MsAt Y p xs := fun k hk => by
  obtain ⟨b, off, hp, hb, c0⟩ := hc k hk
  exact ⟨b, off, hp, Nat.lt_of_lt_of_le hb h.size, fun f u hu => h.cell ho hp (c0 f u hu)⟩
end
theorem Over.mono {B B' : Nat} {w : World} {p : Option Addr} (h : Over B w p) (hb : B' ≤ B) : Over B' w p := fun a e => ⟨Nat.le_trans hb (h a e).1, (h a e).2⟩
/-- The two boxes of copied: what is copied so far, and the answer's, still empty. -/
structure CS (w : World) (o : Ob) (X : World) : Prop where
  h0 : X.heap[w.heap.size]? = some (.cells o.cs 42 (0, 0))
  h1 : X.heap[w.heap.size + 1]? = some (.cells #[.int .i64 0, .int .i64 0, .int .i64 0, .int .i64 0, .int .i64 0, .int .i64 0, .slice none 0 0, .slice none 0 0, .string ⟨#[]⟩, .slice none 0 0, .int .i64 0, .slice none 0 0, .int .i64 0, .int .i64 0, .int .u64 0, .int .u64 0, .int .u64 0, .int .u64 0, .int .u64 0, .int .u64 0, .int .u64 0, .int .u64 0, .int .u64 0, .int .u64 0, .int .u64 0, .int .u64 0, .int .u64 0, .int .u64 0, .int .u64 0, .int .u64 0, .int .u64 0, .int .u64 0, .int .i64 0, .int .i64 0, .int .i64 0, .slice none 0 0, .string ⟨#[]⟩, .string ⟨#[]⟩] 42 (0, 0))
  bel : Below w.heap.size w X
theorem CS.intro {w : World} {o : Ob} {Y W0 : World} {Q : World → Prop} (h : CS w o W0) (hy : Kn w.heap.size Y W0) (k : ∀ W, CS w o W → Kn w.heap.size Y W → Q W) : Q W0 := k W0 h hy
theorem CS.lt {w : World} {o : Ob} {X : World} (h : CS w o X) : w.heap.size + 1 < X.heap.size := (Array.getElem?_eq_some_iff.1 h.h1).1
theorem CS.next {w : World} {o : Ob} {X Y : World} (h : CS w o X) (hb : Below X.heap.size X Y) : CS w o Y := by
  have := h.lt
  exact ⟨(hb.block _ (by omega)).trans h.h0, (hb.block _ (by omega)).trans h.h1, h.bel.trans (hb.mono (by omega))⟩
theorem CS.set {w : World} {o o' : Ob} {X : World} {f : Nat} {v : Value} (h : CS w o X) (he : o.cs.setIfInBounds f v = o'.cs) : CS w o' (X.setCell ⟨w.heap.size, f, none⟩ v) :=
  ⟨by rw [heap_setCell h.h0, he], by rw [heap_setCell_ne _ _ _ _ (by omega)]; exact h.h1, h.bel.setCell (p := ⟨w.heap.size, f, none⟩) (by simp) _⟩
theorem results_cop (tmps : Array Value) (w : World) (g : Nat) (cs : Array Value) (h2 : tmps.getD 2 undef = .pointer (some ⟨g, 0, none⟩)) (hg : w.heap[g]? = some (.cells cs 42 (0, 0))) (hi : cs.size = 38) : (results Try.f33 tmps).run Try.prog w = .ok (.agg cs) w := by
  have hl := run_loadVar_row (P := Try.prog) w g 42 42 cs (0, 0) _ hg Try.underlying42 rfl (by rw [hi]; exact infoOb)
  have h2' : tmps[2]?.getD undef = .pointer (some ⟨g, 0, none⟩) := by simpa using h2
  simp [results, Try.results33, h2', asAddr, hl]
set_option maxRecDepth 100000 in
set_option maxHeartbeats 2000000 in
theorem copied_any (o : Ob) (w : World) (ho : ObOk w o) (hf : o.Fits) :
    Calls Try.prog 33 #[.agg o.cs] w fun e w' => ∃ o' : Ob, e = .returned (.agg o'.cs) ∧ o'.con = o.con ∧ ObOk w' o' ∧ ObOver w.heap.size w' o' ∧ (Wrt 50 (o'.L.xs.length * 2) w' o'.L.p ∧ Wrt 3 o'.ls.length w' o'.lp) ∧ Below w.heap.size w w' := by
  have HST := Lib.hid ho.st
  have HO := Lib.hid ho
  have HF := Lib.hid hf
  obtain ⟨cs0, hcs0⟩ : ∃ c, o.cs = c := ⟨_, rfl⟩
  have HC0 := Lib.hid hcs0
  rw [hcs0]
  clear ho hf hcs0
  go_enter Try.func33, Try.ntmps33
  go_upto_region 1 with fail
  refine CS.intro (w := w) (o := o) (Q := fun W => Code.wp _ _ _ _ W) ?_ (Kn.refl _ _) ?_
  · rw [← HC0.out]
    refine ⟨?_, ?_, by go_grown⟩
    · rw [heap_alloc_old _ _ (by simp)]; exact heap_new _ _
    · have := heap_new (w.alloc (.cells o.cs 42)) (.cells #[.int .i64 0, .int .i64 0, .int .i64 0, .int .i64 0, .int .i64 0, .int .i64 0, .slice none 0 0, .slice none 0 0, .string ⟨#[]⟩, .slice none 0 0, .int .i64 0, .slice none 0 0, .int .i64 0, .int .i64 0, .int .u64 0, .int .u64 0, .int .u64 0, .int .u64 0, .int .u64 0, .int .u64 0, .int .u64 0, .int .u64 0, .int .u64 0, .int .u64 0, .int .u64 0, .int .u64 0, .int .u64 0, .int .u64 0, .int .u64 0, .int .u64 0, .int .u64 0, .int .u64 0, .int .i64 0, .int .i64 0, .int .i64 0, .slice none 0 0, .string ⟨#[]⟩, .string ⟨#[]⟩] 42)
      simpa using this
  intro X0 hS0 _
  have hS0l := hS0.lt
  have hz0 : w.heap.size < X0.heap.size := by omega
  have c0 : X0.cell? ⟨w.heap.size, 6, none⟩ = some (.slice o.L.p o.L.xs.length o.L.cap) := heap_cells hS0.h0 (by rw [Ob.head _ _ (by decide)]; rfl)
  have HC1 := Lib.hid (CloneE_any o.L.p o.L.cap o.L.xs X0 HF.out.L (HO.out.L.below hS0.bel))
  have HS0 := Lib.hid hS0
  clear hS0
  go_wp2_with (go_at_call 53; refine HC1.out.mono ?_; rintro e Y1 ⟨v1, rfl, hr1, hb1⟩; obtain ⟨p1, n1, rfl, hn1, hq1, ho1⟩ := row_out hr1; refine Hid.out ?_)
  refine Lib.hid ?_
  have y1 : Y1.cell? ⟨w.heap.size, 6, none⟩ = some (.slice o.L.p o.L.xs.length o.L.cap) := (hb1.cell (p := ⟨w.heap.size, 6, none⟩) hz0).trans c0
  have f1 : Y1.frozen? ⟨w.heap.size, 6, none⟩ = false := frozen_of_row _ _ _ _ _ (HS0.out.next hb1).h0
  have hl1 : w.heap.size < Y1.heap.size := by have := hb1.size; omega
  have HR1 := Lib.hid (row_cats hr1)
  have HWt1 := Lib.hid (row_wrt hr1)
  have HB1' := Lib.hid hb1
  have HO1' : Hid (Over (w.heap.size + 2) Y1 p1) := Lib.hid (ho1.mono (by omega))
  clear c0 HC1 hr1 hb1 ho1 hS0l hz0
  go_upto_region 2 with fail
  refine CS.intro (w := w) (o := o.setL p1 n1) (Y := Y1) (Q := fun W => Code.wp _ _ _ _ W) ?_ Kn.set ?_
  · exact (HS0.out.next HB1'.out).set (cs_setL o _ _)
  intro X1 hS1 hK1
  have HK1 := Lib.hid hK1
  clear hK1
  have hS1l := hS1.lt
  have hz1 : w.heap.size < X1.heap.size := by omega
  have c1 : X1.cell? ⟨w.heap.size, 11, none⟩ = some (.slice o.C.p o.C.xs.length o.C.cap) := heap_cells hS1.h0 (by rw [Ob.head _ _ (by decide)]; rfl)
  have HC2 := Lib.hid (CloneE_any o.C.p o.C.cap o.C.xs X1 HF.out.C (HO.out.C.below hS1.bel))
  have HS1 := Lib.hid hS1
  clear hS1
  go_wp2_with (go_at_call 53; refine HC2.out.mono ?_; rintro e Y2 ⟨v2, rfl, hr2, hb2⟩; obtain ⟨p2, n2, rfl, hn2, hq2, ho2⟩ := row_out hr2; refine Hid.out ?_)
  refine Lib.hid ?_
  have y2 : Y2.cell? ⟨w.heap.size, 11, none⟩ = some (.slice o.C.p o.C.xs.length o.C.cap) := (hb2.cell (p := ⟨w.heap.size, 11, none⟩) hz1).trans c1
  have f2 : Y2.frozen? ⟨w.heap.size, 11, none⟩ = false := frozen_of_row _ _ _ _ _ (HS1.out.next hb2).h0
  have hl2 : w.heap.size < Y2.heap.size := by have := hb2.size; omega
  have HR2 := Lib.hid (row_cats hr2)
  have HB2' := Lib.hid hb2
  have HO2' : Hid (Over (w.heap.size + 2) Y2 p2) := Lib.hid (ho2.mono (by omega))
  clear c1 HC2 hr2 hb2 ho2 hS1l hz1
  go_upto_region 3 with fail
  refine CS.intro (w := w) (o := (o.setL p1 n1).setC p2 n2) (Y := Y2) (Q := fun W => Code.wp _ _ _ _ W) ?_ Kn.set ?_
  · exact (HS1.out.next HB2'.out).set (cs_setC (o.setL p1 n1) _ _)
  intro X2 hS2 hK2
  have HK2 := Lib.hid hK2
  clear hK2
  have hS2l := hS2.lt
  have hz2 : w.heap.size < X2.heap.size := by omega
  have c2 : X2.cell? ⟨w.heap.size, 7, none⟩ = some (.slice o.lp o.ls.length o.lc) := heap_cells hS2.h0 (by rw [Ob.head _ _ (by decide)]; rfl)
  have HC3 := Lib.hid (CloneI_any o.lp o.lc o.ls X2 HF.out.ls (HO.out.ls.below hS2.bel))
  have HS2 := Lib.hid hS2
  clear hS2
  go_wp2_with (go_at_call 54; refine HC3.out.mono ?_; rintro e Y3 ⟨v3, rfl, hr3, hb3⟩; obtain ⟨p3, n3, rfl, hn3, hq3, ho3⟩ := row_out hr3; refine Hid.out ?_)
  refine Lib.hid ?_
  have y3 : Y3.cell? ⟨w.heap.size, 7, none⟩ = some (.slice o.lp o.ls.length o.lc) := (hb3.cell (p := ⟨w.heap.size, 7, none⟩) hz2).trans c2
  have f3 : Y3.frozen? ⟨w.heap.size, 7, none⟩ = false := frozen_of_row _ _ _ _ _ (HS2.out.next hb3).h0
  have hl3 : w.heap.size < Y3.heap.size := by have := hb3.size; omega
  have HR3 := Lib.hid (row_ints hr3)
  have HWt3 := Lib.hid (row_wrt hr3)
  have HB3' := Lib.hid hb3
  have HO3' : Hid (Over (w.heap.size + 2) Y3 p3) := Lib.hid (ho3.mono (by omega))
  clear c2 HC3 hr3 hb3 ho3 hS2l hz2
  go_upto_region 4 with fail
  refine CS.intro (w := w) (o := ((o.setL p1 n1).setC p2 n2).setls p3 n3) (Y := Y3) (Q := fun W => Code.wp _ _ _ _ W) ?_ Kn.set ?_
  · exact (HS2.out.next HB3'.out).set (cs_setls ((o.setL p1 n1).setC p2 n2) _ _)
  intro X3 hS3 hK3
  have HK3 := Lib.hid hK3
  clear hK3
  have hS3l := hS3.lt
  have hz3 : w.heap.size < X3.heap.size := by omega
  have c3 : X3.cell? ⟨w.heap.size, 9, none⟩ = some (.slice o.mp o.ms.length o.mc) := heap_cells hS3.h0 (by rw [Ob.head _ _ (by decide)]; rfl)
  have HC4 := Lib.hid (CloneM_any o.mp o.mc o.ms X3 HF.out.ms (HO.out.ms.below hS3.bel))
  have HS3 := Lib.hid hS3
  clear hS3
  go_wp2_with (go_at_call 55; refine HC4.out.mono ?_; rintro e Y4 ⟨v4, rfl, hr4, hb4⟩; obtain ⟨p4, n4, rfl, hn4, hq4, ho4⟩ := row_out hr4; refine Hid.out ?_)
  refine Lib.hid ?_
  have y4 : Y4.cell? ⟨w.heap.size, 9, none⟩ = some (.slice o.mp o.ms.length o.mc) := (hb4.cell (p := ⟨w.heap.size, 9, none⟩) hz3).trans c3
  have f4 : Y4.frozen? ⟨w.heap.size, 9, none⟩ = false := frozen_of_row _ _ _ _ _ (HS3.out.next hb4).h0
  have hl4 : w.heap.size < Y4.heap.size := by have := hb4.size; omega
  have HR4 := Lib.hid (row_ms hr4)
  have HB4' := Lib.hid hb4
  have HO4' : Hid (Over (w.heap.size + 2) Y4 p4) := Lib.hid (ho4.mono (by omega))
  clear c3 HC4 hr4 hb4 ho4 hS3l hz3
  go_upto_region 5 with fail
  refine CS.intro (w := w) (o := (((o.setL p1 n1).setC p2 n2).setls p3 n3).setms p4 n4) (Y := Y4) (Q := fun W => Code.wp _ _ _ _ W) ?_ Kn.set ?_
  · exact (HS3.out.next HB4'.out).set (cs_setms (((o.setL p1 n1).setC p2 n2).setls p3 n3) _ _)
  intro X4 hS4 hK4
  have HK4 := Lib.hid hK4
  clear hK4
  have hS4l := hS4.lt
  have hz4 : w.heap.size < X4.heap.size := by omega
  have c4 : X4.cell? ⟨w.heap.size, 35, none⟩ = some (.slice o.ap o.al.length o.ac) := heap_cells hS4.h0 (by rw [show 35 = 31 + 4 from rfl, Ob.tail ((((o.setL p1 n1).setC p2 n2).setls p3 n3).setms p4 n4) HST.out]; rfl)
  have HC5 := Lib.hid (CloneI_any o.ap o.ac o.al X4 HF.out.al (HO.out.al.below hS4.bel))
  have HS4 := Lib.hid hS4
  clear hS4
  go_wp2_with (go_at_call 54; refine HC5.out.mono ?_; rintro e Y5 ⟨v5, rfl, hr5, hb5⟩; obtain ⟨p5, n5, rfl, hn5, hq5, ho5⟩ := row_out hr5; refine Hid.out ?_)
  refine Lib.hid ?_
  have y5 : Y5.cell? ⟨w.heap.size, 35, none⟩ = some (.slice o.ap o.al.length o.ac) := (hb5.cell (p := ⟨w.heap.size, 35, none⟩) hz4).trans c4
  have f5 : Y5.frozen? ⟨w.heap.size, 35, none⟩ = false := frozen_of_row _ _ _ _ _ (HS4.out.next hb5).h0
  have hl5 : w.heap.size < Y5.heap.size := by have := hb5.size; omega
  have HR5 := Lib.hid (row_ints hr5)
  have HB5' := Lib.hid hb5
  have HO5' : Hid (Over (w.heap.size + 2) Y5 p5) := Lib.hid (ho5.mono (by omega))
  clear c4 HC5 hr5 hb5 ho5 hS4l hz4
  go_upto_region 6 with fail
  refine CS.intro (w := w) (o := ((((o.setL p1 n1).setC p2 n2).setls p3 n3).setms p4 n4).setal p5 n5) (Y := Y5) (Q := fun W => Code.wp _ _ _ _ W) ?_ Kn.set ?_
  · exact (HS4.out.next HB5'.out).set (cs_setal ((((o.setL p1 n1).setC p2 n2).setls p3 n3).setms p4 n4) HST.out _ _)
  intro X5 hS5 hK5
  have HK5 := Lib.hid hK5
  clear hK5
  obtain ⟨o5, ho5⟩ : ∃ o5, ((((o.setL p1 n1).setC p2 n2).setls p3 n3).setms p4 n4).setal p5 n5 = o5 := ⟨_, rfl⟩
  rw [ho5] at hS5
  have hst5 : o5.st.length = 17 := by rw [← ho5]; exact HST.out
  have hsz := Ob.size hst5
  have hone := Ob.one (o := o5)
  have h0 := hS5.h0
  have h1 := hS5.h1
  have HB5 := Lib.hid hS5.bel
  have hlt5 := hS5.lt
  obtain ⟨cs5, hcs5⟩ : ∃ c, o5.cs = c := ⟨_, rfl⟩
  have HC5 := Lib.hid hcs5
  rw [hcs5] at hsz hone h0
  have HI : Hid ((Try.prog.info? 42).map (·.size) = some cs5.size) := Lib.hid (by rw [hsz]; exact infoOb)
  have HSZ := Lib.hid hsz
  have HO5 := Lib.hid ho5
  clear hcs5 hS5 hsz ho5 hst5
  go_wp2_with (first
    | (refine wpList_load_row rfl 42 _ rfl w.heap.size rfl 42 _ (0, 0) _ h0 Try.underlying42 rfl HI.out ?_)
    | (refine wpList_store_row rfl 42 _ _ rfl (w.heap.size + 1) cs5 rfl rfl 42 _ h1 HI.out (by rw [HSZ.out]; rfl) hone ?_))
  refine bodyPost_ret (results_cop _ _ (w.heap.size + 1) cs5 rfl (heap_setRow _ _ _ _ _ h1) HSZ.out) rfl ?_
  have hBF : Below w.heap.size w (X5.setRow (w.heap.size + 1) cs5) := below_setRowW HB5.out (by omega) _
  have hKF : Kn w.heap.size X5 (X5.setRow (w.heap.size + 1) cs5) := ⟨by rw [size_setRow]; omega, fun k _ _ h2 => heap_setRow_ne _ _ _ h2⟩
  have q5 := HK5.out.trans hKF
  have q4 := HK4.out.trans ((Kn.below HB5'.out).trans q5)
  have q3 := HK3.out.trans ((Kn.below HB4'.out).trans q4)
  have q2 := HK2.out.trans ((Kn.below HB3'.out).trans q3)
  have q1 := HK1.out.trans ((Kn.below HB2'.out).trans q2)
  have e5 := HO5.out
  have hok := HO.out
  refine ⟨o5, by rw [HC5.out], by rw [← e5]; rfl, ?_, ?_, ?_, hBF⟩
  · rw [← e5]
    exact ⟨HST.out, q1.cats HO1'.out HR1.out, hok.Lm, q3.ints HO3'.out HR3.out, hok.lm, q4.ms HO4'.out HR4.out, hok.mm, q2.cats HO2'.out HR2.out, hok.Cm, q5.ints HO5'.out HR5.out, hok.am, hok.idr, hok.lsr, ⟨hq1, hq3, hq4, hq2, hq5⟩, ⟨hn1, hn3, hn4, hn2, hn5⟩⟩
  · rw [← e5]
    exact ⟨q1.over (HO1'.out.mono (by omega)), q3.over (HO3'.out.mono (by omega)), q4.over (HO4'.out.mono (by omega)), q2.over (HO2'.out.mono (by omega)), q5.over (HO5'.out.mono (by omega))⟩
  · rw [← e5]
    exact ⟨q1.wrt HO1'.out HWt1.out, q3.wrt HO3'.out (by have h := HWt3.out; rw [Nat.mul_one] at h; exact h)⟩
end Go.Proofs.Ytonhdkldacghoaa
