/- What (*program).read of package isa does, for every line. -/
import Derived.Test.YtgldkmabhmlijaaDoorPlace
import Derived.Test.YtgldkmabhmlijaaDoorCrowd
import Derived.Laws.OwnMore
import Derived.Deep.RegionLaw
import Derived.RangeFuncBox
import Derived.RangeFuncWrites
namespace Go.Proofs.YtgldkmabhmlijaaDoor
open Go.RowKit Go.Sort Go.Shelf
attribute [local go_sem] Oper.semAt_some
/-- A step: its instruction, its line, its name. -/
structure Ste where
  (c : Cod) (line : Int) (name : ByteArray)
def flat7 (l : List Ste) : List Value := l.flatMap fun x => v7 x.c x.line x.name
/-- What was read. -/
structure Prg where
  (st : List Ste) (D : DataW Unit)
def dropC (s : ByteArray) : ByteArray := ⟨(Lib.trimSuffix s.data.toList [58]).toArray⟩
def isPl (s : ByteArray) : Bool := Lib.hasSuffix s.data.toList [58]
/-- A line is read. -/
def readS (p : Prg) (n : Int) (s : ByteArray) : Bool × Prg :=
  if s.toList.isEmpty = true then (true, p)
  else if isPl s = true then (plOk p.D (dropC s), { p with D := plPut p.D (dropC s) p.st.length })
  else ((stpS s).ok, { p with st := p.st ++ [⟨(stpS s).c, n, (stpS s).name⟩] })
/-- The program lies at block Bp. -/
structure PAt (w : World) (base Bp mb m : Nat) (p : Prg) : Prop where
  blk : ∃ v, w.heap[Bp]? = some (.cells #[v, .map (some mb)] 55 (0, 0)) ∧ w.ownsRow base 77 7 v p.st.length (flat7 p.st)
  map : MapAt w mb m p.D
  bp : base ≤ Bp
  mp : base ≤ mb
theorem row_form {w : World} {base e size n : Nat} {v : Value} {xs : List Value} (h : w.ownsRow base e size v n xs) : ∃ sp cap, v = .slice sp n cap := by
  rcases h.2 with ⟨rfl, rfl⟩ | ⟨g, cap, cur, rfl, _⟩
  · exact ⟨_, _, rfl⟩
  · exact ⟨_, _, rfl⟩
theorem map_heap {w : World} {mb m : Nat} {D : DataW Unit} (h : MapAt w mb m D) : ∃ es c, w.heap[mb]? = some (.map es c) := by
  obtain ⟨es, c, h, _⟩ := h; exact ⟨es, c, h⟩
theorem PAt.below {w w' : World} {base Bp mb m : Nat} {p : Prg} (h : PAt w base Bp mb m p) (hb : Below w.heap.size w w') : PAt w' base Bp mb m p := by
  obtain ⟨⟨v, hv, hr⟩, hm, h1, h2⟩ := h
  have hl := (Array.getElem?_eq_some_iff.1 hv).1
  exact ⟨⟨v, (hb.block Bp hl).trans hv, hr.kept (grown_below hb none) (by cases hq : v.ownBlock <;> simp)⟩, World.ownsMap.kept hm (grown_below hb none) (by simp), h1, h2⟩
theorem PAt.mono {w : World} {base Bp mb m m' : Nat} {p : Prg} (h : PAt w base Bp mb m p) (hm : m ≤ m') : PAt w base Bp mb m' p := ⟨h.blk, World.ownsMap.mono h.map hm, h.bp, h.mp⟩
theorem PAt.placed {w w' : World} {base Bp mb m m' : Nat} {p : Prg} {D' : DataW Unit} (h : PAt w base Bp mb m p) (hg : w.grownBy w' (some mb)) (hm' : MapAt w' mb m' D') : PAt w' base Bp mb m' { p with D := D' } := by
  obtain ⟨⟨v, hv, hr⟩, hm, h1, h2⟩ := h
  obtain ⟨es, c, hmb⟩ := map_heap hm
  have hl := (Array.getElem?_eq_some_iff.1 hv).1
  refine ⟨⟨v, (hg.block Bp hl (fun e => ?_)).trans hv, hr.kept hg ?_⟩, hm', h1, h2⟩
  · cases e; rw [hv] at hmb; cases hmb
  · rcases hr.2 with ⟨rfl, _⟩ | ⟨g, cap, cur, rfl, _, hgb, _⟩
    · exact .inl rfl
    · refine .inr fun e => ?_
      obtain rfl : g = mb := by simpa [Value.ownBlock] using e
      rw [hgb] at hmb; cases hmb
theorem own_ne {w0 : World} {base n Bp : Nat} {v v' u : Value} {xs : List Value} {Y : World} (h : Y.ownsRow base 77 7 v n xs) (hb : w0.heap[Bp]? = some (.cells #[v', u] 55 (0, 0))) (hY : Below w0.heap.size w0 Y) : some Bp ≠ v.ownBlock := by
  rcases h.2 with ⟨rfl, _⟩ | ⟨g, cap, cur, rfl, _, hgb, _⟩
  · simp [Value.ownBlock]
  · intro e
    obtain rfl : Bp = g := by simpa [Value.ownBlock] using e
    rw [hY.block Bp (Array.getElem?_eq_some_iff.1 hb).1, hb] at hgb
    injection hgb with hgb; injection hgb with _ h2 _; exact absurd h2 (by decide)
theorem own_ne_map {Y : World} {base n mb m : Nat} {v : Value} {xs : List Value} {D : DataW Unit} (h : Y.ownsRow base 77 7 v n xs) (hm : MapAt Y mb m D) : some mb ≠ v.ownBlock := by
  obtain ⟨es, c, hmb⟩ := map_heap hm
  rcases h.2 with ⟨rfl, _⟩ | ⟨g, cap, cur, rfl, _, hgb, _⟩
  · simp [Value.ownBlock]
  · intro e
    obtain rfl : mb = g := by simpa [Value.ownBlock] using e
    rw [hmb] at hgb; cases hgb
theorem set2 {w : World} {B : Nat} {t : TypeId} {v u : Value} (v' : Value) (h : w.heap[B]? = some (.cells #[v, u] t (0, 0))) : (w.setCell ⟨B, 0, none⟩ v').heap[B]? = some (.cells #[v', u] t (0, 0)) := by
  obtain ⟨hlt, hk⟩ := Array.getElem?_eq_some_iff.1 h
  show (w.heap.modify B _)[B]? = _
  rw [Array.getElem?_eq_getElem (by rw [Array.size_modify]; exact hlt), Array.getElem_modify_self, hk]
  rfl
theorem flat7_snoc (l : List Ste) (x : Ste) : flat7 (l ++ [x]) = flat7 l ++ v7 x.c x.line x.name := by unfold flat7; rw [List.flatMap_append]; simp
theorem PAt.stepped {w4 : World} {base Bp mb m : Nat} {p : Prg} {v v' : Value} {x : Ste} (hv : w4.heap[Bp]? = some (.cells #[v, .map (some mb)] 55 (0, 0)))
    (hr : w4.ownsRow base 77 7 v' (p.st.length + 1) (flat7 p.st ++ v7 x.c x.line x.name)) (hm : MapAt w4 mb m p.D) (h1 : base ≤ Bp) (h2 : base ≤ mb) :
    PAt (w4.setCell ⟨Bp, 0, none⟩ v') base Bp mb (m + 1) { p with st := p.st ++ [x] } := by
  obtain ⟨es, c, hmb⟩ := map_heap hm
  refine ⟨⟨v', set2 _ hv, ?_⟩, World.ownsMap.mono (World.ownsMap.setCell hm (fun e => ?_) _) (by omega), h1, h2⟩
  · rw [flat7_snoc, List.length_append]
    exact hr.kept (grownBy_setCell' w4 Bp _) (.inr (own_ne hr hv (Below.refl _ _)).symm)
  · have e' : mb = Bp := e
    rw [e', hv] at hmb; cases hmb
theorem grown_row {w w' : World} {base n : Nat} {v : Value} {xs : List Value} {Y : World} (hg : w.grownBy w' v.ownBlock) (hr : Y.ownsRow base 77 7 v n xs) (hb : base ≤ w.heap.size) : Below base w w' :=
  ⟨hg.os, hg.tape, hg.output, hg.size, fun k hk => hg.block k (by omega) (fun e => by have := (hr.lt k e.symm).1; omega)⟩
theorem grown_base {w w' : World} {r base : Nat} (hg : w.grownBy w' (some r)) (hr : base ≤ r) (hb : base ≤ w.heap.size) : Below base w w' :=
  ⟨hg.os, hg.tape, hg.output, hg.size, fun k hk => hg.block k (by omega) (fun e => by cases e; omega)⟩
theorem keeps_below {w w' : World} (h : Below w.heap.size w w') : KeepsOthers w w' := KeepsOthers.of_grownBy (grown_below h none) (fun j o e => by cases e)
theorem keeps_row {V w4 : World} {base n : Nat} {v : Value} {xs : List Value} {ob : Obj} (hr : (V.alloc ob).ownsRow base 77 7 v n xs) (hg : V.grownBy w4 v.ownBlock) : KeepsOthers V w4 := KeepsOthers.of_grownBy hg (fun j o e hj => by
  rcases hr.2 with ⟨rfl, _⟩ | ⟨g, cap, cur, rfl, _, hgb, _⟩
  · simp [Value.ownBlock] at e
  · obtain rfl : g = j := by simpa [Value.ownBlock] using e
    rw [Below.heap_alloc V ob g (Array.getElem?_eq_some_iff.1 hj).1, hj] at hgb
    injection hgb with hgb; rw [hgb]; rfl)
set_option maxRecDepth 100000 in
set_option maxHeartbeats 1000000 in
theorem read_place (base Bp mb m : Nat) (p : Prg) (n : Int) (s : ByteArray) (w : World) (hP : PAt w base Bp mb m p) (hs : s.size < 1000000) (hst : p.st.length < 1000000) (hmm : m < 1000000)
    (hc : s.toList.isEmpty = true ∨ isPl s = true) :
    Calls Tryd.prog 18 #[.pointer (some ⟨Bp, 0, none⟩), .int .i64 n, .string s] w fun e w' => e = .returned (.bool (readS p n s).1) ∧ PAt w' base Bp mb (m + 1) (readS p n s).2 ∧ Below base w w' ∧ KeepsFrom (mb + 1) w w' := by
  have HP := Lib.hid hP
  by_cases he : s.toList.isEmpty = true
  · have HR : Hid (readS p n s = (true, p)) := by unfold readS; rw [if_pos he]; exact rfl
    go_enter Tryd.func18, Tryd.ntmps18
    go_wp2
    go_ret
    rw [HR.out]
    exact ⟨rfl, HP.out.mono (by omega), Below.refl _ _, KeepsFrom.refl _ _⟩
  · have hpl : isPl s = true := hc.resolve_left he
    have he' : s.toList.isEmpty = false := by simpa using he
    have HR : Hid (readS p n s = (plOk p.D (dropC s), { p with D := plPut p.D (dropC s) p.st.length })) := by unfold readS; rw [if_neg he, if_pos hpl]; exact rfl
    have HC : Hid (∀ W, Calls Tryd.prog 33 #[.string s, .string ⟨#[58]⟩] W fun e w' => e = .returned (.tuple #[.string (dropC s), .bool true]) ∧ w' = W) := fun W => by
      have := Tryd.strings_CutSuffix s ⟨#[58]⟩ W (by omega)
      rw [show (⟨#[58]⟩ : ByteArray).data.toList = [58] from rfl, show Lib.hasSuffix s.data.toList [58] = true from hpl] at this
      exact this
    obtain ⟨⟨v, hv, hr⟩, hm, h1, h2⟩ := hP
    obtain ⟨sp, cap, rfl⟩ := row_form hr
    have hl := (Array.getElem?_eq_some_iff.1 hv).1
    have c0 : w.cell? ⟨Bp, 0, none⟩ = some (.slice sp p.st.length cap) := by simp [World.cell?, hv]
    have c1 : w.cell? ⟨Bp, 1, none⟩ = some (.map (some mb)) := by simp [World.cell?, hv]
    have hdz : (dropC s).size ≤ maxLen := by
      show (Lib.trimSuffix s.data.toList [58]).length ≤ 2 ^ 63 - 1
      have hsl : s.data.toList.length = s.size := by simp
      unfold Lib.trimSuffix; split
      · rw [List.length_take]; omega
      · omega
    have HA := Lib.hid (addPlace_any Bp mb m p.st.length cap sp p.D (dropC s) w c0 c1 hdz hst hmm hl hm)
    clear hc hpl hv hr hm he
    go_enter Tryd.func18, Tryd.ntmps18
    go_wp2_with (first
      | (go_at_call 33; refine (HC.out _).mono ?_; rintro e w1 ⟨rfl, hw1⟩; rw [hw1]; clear hw1 w1)
      | (go_at_call 34; refine HA.out.mono ?_; rintro e w2 ⟨rfl, hm2, hg2⟩; have HM2 := Lib.hid hm2; have HG2 := Lib.hid hg2; clear hm2 hg2))
    go_ret
    rw [HR.out]
    exact ⟨rfl, HP.out.placed HG2.out HM2.out, grown_base HG2.out h2 (by omega), KeepsFrom.of_grownBy HG2.out (fun j e => by cases e; omega)⟩
/-- append onto a row of the call's own, as one step of a region that draws. -/
theorem step_append_own {P : Program} {ops : Array Oper} {o : Oper} {a : Act} {w : World} {K : Act → World → Prop} {Q : Exit → Act → World → Prop} {E : Prop}
    (hg : o.guard = none) (s x : Operand) (t : TypeId) (hop : o.op = Op.call { callee := Callee.builtin Builtin.append, args := #[s, x], argTypes := #[t, t] })
    (base : Nat) (e : TypeId) (i : TypeInfo) (z : Value) (size bytes : Nat) (h1 : P.underlying t = some (.slice e)) (h2 : P.info? e = some i) (h3 : i.zero = some z) (h4 : i.size = size) (h5 : i.bytes = bytes) (h6 : z.cells.size = size) (h7 : 0 < size)
    (v : Value) (n : Nat) (xs : List Value) (hs : a.eval s = v) (hown : w.ownsRow base e size v n xs)
    (ad : Addr) (m c : Nat) (news : List Value) (hx : a.eval x = .slice (some ad) m c) (hn : news.length = m * size) (hc : ∀ j u, news[j]? = some u → w.cell? (ad.add j) = some u) (h1c : ∀ u ∈ news, u.oneCell' = true)
    (b1 : n + m ≤ maxLen) (b2 : (n + m) * bytes ≤ 140737488355328) (hbase : base ≤ w.heap.size)
    (hK : ∀ v' w', w'.ownsRow base e size v' (n + m) (xs ++ news) → w.grownBy w' v.ownBlock → K (a.put o.dst v') w') :
    if Region.wanted o (yielded ops a.tmps) = true then Oper.wp P o a w K Q else E := by
  have hw : Region.wanted o (yielded ops a.tmps) = true := by simp [Region.wanted, hg]
  rw [if_pos hw]
  exact wp_append_own w s x t hop base e i z size bytes h1 h2 h3 h4 h5 h6 h7 v n xs hs hown ad m c news hx hn hc h1c b1 b2 hbase (fun v' w' h h' _ => hK v' w' h h')
theorem stepInfo : (Tryd.prog.info? 77).map (fun i => (i.zero, i.size, i.bytes)) = some (some (.agg #[.int .i64 0, .int .i64 0, .int .i64 0, .int .i64 0, .int .i64 0, .int .i64 0, .string ⟨#[]⟩]), 7, 64) := by kernel_rfl
set_option maxRecDepth 100000 in
set_option maxHeartbeats 2000000 in
theorem read_step (base Bp mb m : Nat) (p : Prg) (n : Int) (s : ByteArray) (w : World) (hE : Env w) (hP : PAt w base Bp mb m p) (hs : s.size < 1000000) (hst : p.st.length < 1000000)
    (he : s.toList.isEmpty = false) (hpl : isPl s = false) :
    Calls Tryd.prog 18 #[.pointer (some ⟨Bp, 0, none⟩), .int .i64 n, .string s] w fun e w' => e = .returned (.bool (readS p n s).1) ∧ PAt w' base Bp mb (m + 1) (readS p n s).2 ∧ Below base w w' ∧ KeepsFrom (mb + 1) w w' := by
  have HP := Lib.hid hP
  have HR : Hid (readS p n s = ((stpS s).ok, { p with st := p.st ++ [⟨(stpS s).c, n, (stpS s).name⟩] })) := by unfold readS; rw [if_neg (by rw [he]; decide), if_neg (by rw [hpl]; decide)]; exact rfl
  have HC : Hid (∀ W, Calls Tryd.prog 33 #[.string s, .string ⟨#[58]⟩] W fun e w' => e = .returned (.tuple #[.string (dropC s), .bool false]) ∧ w' = W) := fun W => by
    have := Tryd.strings_CutSuffix s ⟨#[58]⟩ W (by omega)
    rw [show (⟨#[58]⟩ : ByteArray).data.toList = [58] from rfl, show Lib.hasSuffix s.data.toList [58] = false from hpl] at this
    exact this
  have HS : Hid (∀ W, Env W → Calls Tryd.prog 35 #[.string s] W fun e w' => e = .returned (.tuple #[(stpS s).v 0, .bool (stpS s).ok]) ∧ Below W.heap.size W w') := fun W hW => parseStep_any s W hW hs
  generalize stpS s = q at HS HR
  obtain ⟨qc, qn, qo⟩ := q
  unfold Stp.v at HS
  obtain ⟨⟨v, hv, hr⟩, hm, h1, h2⟩ := hP
  obtain ⟨sp, cap, rfl⟩ := row_form hr
  have hl := (Array.getElem?_eq_some_iff.1 hv).1
  clear hpl hv hr hm
  go_enter Tryd.func18, Tryd.ntmps18
  go_wp2_with (first
    | (go_at_call 33; refine (HC.out _).mono ?_; rintro e w1 ⟨rfl, hw1⟩; rw [hw1]; clear hw1 w1)
    | (go_at_call 35; refine (HS.out _ hE).mono ?_; rintro e w2 ⟨rfl, hb2⟩; refine Hid.out ?_))
  refine Lib.hid ?_
  obtain ⟨⟨v2, hv2, hr2⟩, hm2, _, _⟩ := HP.out.below hb2
  have HB2 := Lib.hid hb2
  have HM2 := Lib.hid hm2
  have hl2 := (Array.getElem?_eq_some_iff.1 hv2).1
  have hbg : base ≤ w2.heap.size := by omega
  clear hb2 hm2
  obtain ⟨i0, hi, hz0, hz1, hz2⟩ := info_parts stepInfo
  go_upto_region 5 with fail
  have hA3 : AtV (w2.alloc (.cells #[.int .i64 qc.op, .int .i64 qc.a, .int .i64 qc.b, .int .i64 qc.c, .int .i64 qc.n, .int .i64 n, .string qn] 77)) w2.heap.size (v7 qc n qn) := AtV.new w2 _ _
  have hB3 : Below w2.heap.size w2 (w2.alloc (.cells #[.int .i64 qc.op, .int .i64 qc.a, .int .i64 qc.b, .int .i64 qc.c, .int .i64 qc.n, .int .i64 n, .string qn] 77)) := by go_grown
  generalize w2.alloc (.cells #[.int .i64 qc.op, .int .i64 qc.a, .int .i64 qc.b, .int .i64 qc.c, .int .i64 qc.n, .int .i64 n, .string qn] 77) = W3 at hA3 hB3 ⊢
  have hv3 : W3.heap[Bp]? = _ := (hB3.block Bp hl2).trans hv2
  have hr3 := hr2.kept (grown_below hB3 none) (by cases hq : v2.ownBlock <;> simp)
  have HM3 : Hid (MapAt W3 mb m p.D) := World.ownsMap.kept HM2.out (grown_below hB3 none) (by simp)
  obtain ⟨sp2, cap2, rfl⟩ := row_form hr2
  obtain ⟨V, hV⟩ : ∃ V, W3.drew = V := ⟨_, rfl⟩
  have hs3 : W3.heap.size = V.heap.size := by rw [← hV]; rfl
  have k0 : V.cell? ⟨w2.heap.size, 0, none⟩ = some (.int .i64 qc.op) := by rw [← hV]; exact hA3.2.1 0 (by simp [v7])
  have k1 : V.cell? ⟨w2.heap.size, 1, none⟩ = some (.int .i64 qc.a) := by rw [← hV]; exact hA3.2.1 1 (by simp [v7])
  have k2 : V.cell? ⟨w2.heap.size, 2, none⟩ = some (.int .i64 qc.b) := by rw [← hV]; exact hA3.2.1 2 (by simp [v7])
  have k3 : V.cell? ⟨w2.heap.size, 3, none⟩ = some (.int .i64 qc.c) := by rw [← hV]; exact hA3.2.1 3 (by simp [v7])
  have k4 : V.cell? ⟨w2.heap.size, 4, none⟩ = some (.int .i64 qc.n) := by rw [← hV]; exact hA3.2.1 4 (by simp [v7])
  have k5 : V.cell? ⟨w2.heap.size, 5, none⟩ = some (.int .i64 n) := by rw [← hV]; exact hA3.2.1 5 (by simp [v7])
  have k6 : V.cell? ⟨w2.heap.size, 6, none⟩ = some (.string qn) := by rw [← hV]; exact hA3.2.1 6 (by simp [v7])
  have hvV : V.heap[Bp]? = some (.cells #[.slice sp2 p.st.length cap2, .map (some mb)] 55 (0, 0)) := by rw [← hV]; exact hv3
  have c0 : V.cell? ⟨Bp, 0, none⟩ = some (.slice sp2 p.st.length cap2) := by simp [World.cell?, hvV]
  have f0 : V.frozen? ⟨Bp, 0, none⟩ = false := by simp [World.frozen?, hvV]
  have hltV : Bp < V.heap.size := by rw [← hs3]; exact Nat.lt_of_lt_of_le hl2 hB3.size
  have hbtV : w2.heap.size < V.heap.size := by rw [← hs3]; exact hA3.1
  have HBV : Hid (Below w2.heap.size w2 V) := by rw [← hV]; exact ⟨hB3.os, hB3.tape, hB3.output, hB3.size, hB3.block⟩
  have HMV : Hid (MapAt V mb m p.D) := by rw [← hV]; exact HM3.out
  have hrV : V.ownsRow base 77 7 (.slice sp2 p.st.length cap2) p.st.length (flat7 p.st) := by rw [← hV]; exact hr3
  have HVV := Lib.hid hvV
  have HRA := Lib.hid (hrV.alloc (.cells #[.int .i64 qc.op, .int .i64 qc.a, .int .i64 qc.b, .int .i64 qc.c, .int .i64 qc.n, .int .i64 n, .string qn] 77))
  have hAA : AtV (V.alloc (.cells #[.int .i64 qc.op, .int .i64 qc.a, .int .i64 qc.b, .int .i64 qc.c, .int .i64 qc.n, .int .i64 n, .string qn] 77)) V.heap.size (v7 qc n qn) := AtV.new V _ _
  have HN : Hid (∀ j u, (v7 qc n qn)[j]? = some u → (V.alloc (.cells #[.int .i64 qc.op, .int .i64 qc.a, .int .i64 qc.b, .int .i64 qc.c, .int .i64 qc.n, .int .i64 n, .string qn] 77)).cell? ((⟨V.heap.size, 0, none⟩ : Addr).add j) = some u) := fun j u hu => by
    obtain ⟨hj, rfl⟩ := List.getElem?_eq_some_iff.1 hu
    rw [show (⟨V.heap.size, 0, none⟩ : Addr).add j = ⟨V.heap.size, j, none⟩ from by cases j <;> simp [Addr.add]]
    exact hAA.2.1 j hj
  have HO : Hid (∀ u ∈ v7 qc n qn, u.oneCell' = true) := fun u hu => by simp [v7] at hu; rcases hu with rfl | rfl | rfl | rfl | rfl | rfl | rfl <;> rfl
  have hbV : base ≤ V.heap.size := by omega
  clear hr2 hr3 hv2 hv3 hA3 hB3 hvV hrV hAA HM3
  go_region_law (refine step_append_own rfl (.tmp 33) (.tmp 35) 53 rfl base 77 i0 _ 7 64 (by kernel_rfl) hi hz0 hz1 hz2 rfl (by decide) _ _ _ (by simp [Act.eval]) HRA.out ⟨V.heap.size, 0, none⟩ 1 1 (v7 qc n qn) (by simp [Act.eval]) rfl HN.out HO.out (by show _ ≤ 2 ^ 63 - 1; omega) (by omega) (by simp; omega) ?_; intro v' w4 hown4 hgrow4; obtain ⟨g', cap', rfl⟩ := ownsRow_succ hown4; have hb4 : V.grownBy w4 (Value.ownBlock (.slice sp2 p.st.length cap2)) := (World.grownBy_alloc V _ _).trans hgrow4; have hv4 : w4.heap[Bp]? = some (.cells #[.slice sp2 p.st.length cap2, .map (some mb)] 55 (0, 0)) := (hb4.block Bp hltV (own_ne HRA.out HVV.out (by go_grown))).trans HVV.out; have c4 : w4.frozen? ⟨Bp, 0, none⟩ = false := (by simp [World.frozen?, hv4]); have e4 : w4.cell? ⟨Bp, 0, none⟩ = some (.slice sp2 p.st.length cap2) := (by simp [World.cell?, hv4]); have HW4 := Lib.hid hown4; have HG4 := Lib.hid hb4; have HV4 := Lib.hid hv4; clear hown4 hgrow4 hb4 hv4)
  all_goals
    go_wp2
    go_ret
    rw [HR.out]
    have hm4 : MapAt w4 mb m p.D := World.ownsMap.kept HMV.out HG4.out (own_ne_map HRA.out (World.ownsMap.alloc HMV.out _))
    exact ⟨rfl, PAt.stepped HV4.out HW4.out hm4 h1 h2, (((HB2.out.mono (by omega)).trans (HBV.out.mono hbg)).trans (grown_row HG4.out HRA.out hbV)).trans ((Below.refl _ _).setCell (p := ⟨Bp, 0, none⟩) h1 _), ((((keeps_below HB2.out).trans (keeps_below HBV.out)).trans (keeps_row HRA.out HG4.out)).trans (KeepsOthers.setCell _ _ _)).from _⟩
theorem read_any (base Bp mb m : Nat) (p : Prg) (n : Int) (s : ByteArray) (w : World) (hE : Env w) (hP : PAt w base Bp mb m p) (hs : s.size < 1000000) (hst : p.st.length < 1000000) (hmm : m < 1000000) :
    Calls Tryd.prog 18 #[.pointer (some ⟨Bp, 0, none⟩), .int .i64 n, .string s] w fun e w' => e = .returned (.bool (readS p n s).1) ∧ PAt w' base Bp mb (m + 1) (readS p n s).2 ∧ Below base w w' ∧ KeepsFrom (mb + 1) w w' := by
  by_cases he : s.toList.isEmpty = true
  · exact read_place base Bp mb m p n s w hP hs hst hmm (.inl he)
  · by_cases hp : isPl s = true
    · exact read_place base Bp mb m p n s w hP hs hst hmm (.inr hp)
    · exact read_step base Bp mb m p n s w hE hP hs hst (by simpa using he) (by simpa using hp)
end Go.Proofs.YtgldkmabhmlijaaDoor
