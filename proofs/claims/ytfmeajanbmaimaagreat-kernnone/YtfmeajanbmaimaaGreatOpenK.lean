/- How what is handed in is read in memory, and what a law owes. -/
import Derived.Test.YtfmeajanbmaimaaGreatPgPieces
import Derived.Test.YtfmeajanbmaimaaGreatPgRead
import Derived.Test.YtfmeajanbmaimaaGreatPaPMake
import Derived.Test.YtfmeajanbmaimaaGreatRows
import Derived.WalkKit
import Derived.ProofKit
import Derived.OpenShut
import Derived.Deep.DeepHandedRow
import Derived.ChangeMaps5
import Derived.Lib.SmallJoins
import Derived.Deep.Slices
/- A kernel as it lies in memory: each of its blocks belongs to one of its parts. -/
namespace Go.Proofs.YtfmeajanbmaimaaGreat
open Go.RowKit Go.Sort
/-- Whose a block is. -/
inductive KTag
  | kb
  | tab
  | rms
  | mp (i : Nat)
  | th (t : Int)
  | dv (t : Int)
  | sg (t : Int)
/-- A thread: its clearance, its address space, its registers and place, whether it has stopped. -/
structure Th where
  cd : Int
  cv : Value
  xs : List (Int × Int)
  mi : Int
  mj : Int
  st : List Int
  sp : Bool
def thC (x : Th) : Array Value := ([Value.int .i64 x.cd, x.cv, .int .i64 x.mi, .int .i64 x.mj] ++ x.st.map (fun n => Value.int .u64 n) ++ [Value.bool x.sp]).toArray
structure Kn where
  kb : Nat
  tb : Nat
  mb : Nat
  base : Nat
  rb : Nat
  ms : Nat
  mp : Nat
  mt : Nat
  mg : Nat
  md : Nat
  mr : Nat
  D : DataW Unit
  T : Ho.Tab
  F : Nat → Prop
  all : List Wa.Who
  al : Int → List Int
  N : Nat
  nS : Nat
  fS : Lit → Option Nat
  sd : Int → List UInt8
  nT : Nat
  fT : Lit → Option Nat
  th : Int → Th
  nR : Nat
  S : Int → Bool
  ticks : Int
  own : Nat → Option KTag
def knC (K : Kn) : Array Value := #[Wa.pv K.tb, Wa.pv K.rb, .map (some K.ms), .map (some K.mp), .map (some K.mt), .map (some K.mg), .map (some K.md), .map (some K.mr), .int .i64 K.ticks]
/-- A segment's bytes at B, in blocks that are its own. -/
def SegAt (W : World) (lo B : Nat) (d : List UInt8) (own : Nat → Option KTag) (g : KTag) : Prop :=
  ∃ ls, Pg.BAt Pg.N0 W lo B d ls ∧ own B = some g ∧ (∀ x ∈ ls, own x.1 = some g) ∧ ∀ c t f a n cp, W.heap[B]? = some (.cells c t f) → c[1]? = some (.slice (some a) n cp) → own a.block = some g
structure KAt (lo : Nat) (W : World) (K : Kn) : Prop where
  blk : W.heap[K.kb]? = some (.cells (knC K) 97 (0, 0))
  tab : Ho.TAt W K.base K.tb K.mb K.D K.T
  rms : Wa.RA W K.rb K.F K.all K.al K.N
  mS : Wa.MAt W 3 K.ms K.nS K.fS
  mT : Wa.MAt W 3 K.mt K.nT K.fT
  mR : SAt W K.mr K.nR K.S
  thr : ∀ id B, K.fT (Wa.ky id) = some B → W.heap[B]? = some (.cells (thC (K.th id)) 123 (0, 0)) ∧ K.own B = some (.th id) ∧ (K.th id).st.length = 17 ∧ Pa.LV ((K.th id).cd, (K.th id).xs) (.agg #[.int .i64 (K.th id).cd, (K.th id).cv]) W ∧ ∀ k, (K.th id).cv.ownBlock = some k → K.own k = some (.th id)
  sgs : ∀ id B, K.fS (Wa.ky id) = some B → ∃ b, lo ≤ b ∧ SegAt W b B (K.sd id) K.own (.sg id)
  okb : K.own K.kb = some .kb
  ot : ∀ k, Ho.tfoot K.tb K.mb K.T k → K.own k = some .tab
  orm : ∀ k, K.F k → K.own k = some .rms
  oS : K.own K.ms = some (.mp 2)
  oP : K.own K.mp = some (.mp 3)
  oT : K.own K.mt = some (.mp 4)
  oG : K.own K.mg = some (.mp 5)
  oD : K.own K.md = some (.mp 6)
  oR : K.own K.mr = some (.mp 7)
  lt : ∀ k, K.own k ≠ none → lo ≤ k ∧ k < W.heap.size
/-- What is said of a kernel that has just begun. -/
structure KFirst (K : Kn) (r c t : Int) : Prop where
  tR : ∃ x, K.T r = some x ∧ x.ob = ⟨r, 1, 1099511627776, 2, 1, 2, [], [c, t]⟩
  tC : ∃ x, K.T c = some x ∧ x.ob = Ho.newOb c 6 1 2 []
  tT : ∃ x, K.T t = some x ∧ x.ob = Ho.newOb t 4 1 2 []
  tN : ∀ k, k ≠ r → k ≠ c → k ≠ t → K.T k = none
  sz : Maps.size K.D = 3
  all : K.all = []
  al : K.al = fun _ => []
  fS : K.fS = fun _ => none
  nS : K.nS = 0
  fT : ∃ B, K.fT = Wa.updF (fun _ => none) (Wa.ky t) (some B)
  nT : K.nT = 1
  th : K.th = fun _ => ⟨4, .slice none 0 0, [], 0, 0, List.replicate 17 0, false⟩
  S : ∀ k, K.S k = (k == r || k == c || k == t)
  nR : K.nR = 3
  ticks : K.ticks = 0
def tagOf (t c : Int) : Option Nat → Option KTag
  | some 14 => some .rms
  | some 43 => some .kb
  | some 15 => some (.mp 2)
  | some 16 => some (.mp 3)
  | some 17 => some (.mp 4)
  | some 24 => some (.mp 5)
  | some 25 => some (.mp 6)
  | some 31 => some (.mp 7)
  | some 22 => some (.th t)
  | some 29 => some (.dv c)
  | _ => none
open Classical in
noncomputable def ownT (P : Nat → Prop) (t c : Int) (own : Ko.Own) (k : Nat) : Option KTag := if P k then some .tab else tagOf t c (own k)
theorem ownT_yes {P : Nat → Prop} {t c : Int} {own : Ko.Own} {k : Nat} (h : P k) : ownT P t c own k = some .tab := by unfold ownT; rw [if_pos h]
theorem ownT_no {P : Nat → Prop} {t c : Int} {own : Ko.Own} {k : Nat} (h : ¬ P k) : ownT P t c own k = tagOf t c (own k) := by unfold ownT; rw [if_neg h]
end Go.Proofs.YtfmeajanbmaimaaGreat
/- A call under way, and who asks. -/
namespace Go.Proofs.YtfmeajanbmaimaaGreat
open Go.RowKit Go.Sort
/-- What is asked. -/
structure Ask where
  op : Int
  pi : Int
  pj : Int
  qi : Int
  qj : Int
  a : Int
  b : Int
  c : Int
  ld : Int
  lv : Value
  md : Int
  mv : Value
  s : ByteArray
  at_ : Int
  pg : Int
  inn : Int
  mid : Int
  fr : Int
  wr : Bool
  rn : Bool
/-- Who asks: the thread's block, its number, its label; the number that was drawn. -/
structure Who where
  B : Nat
  id : Int
  d : Int
  v : Value
def askV (x : Ask) : Value := .agg #[.int .i64 x.op, .int .i64 x.pi, .int .i64 x.pj, .int .i64 x.qi, .int .i64 x.qj, .int .i64 x.a, .int .i64 x.b, .int .i64 x.c, .int .i64 x.ld, x.lv, .int .i64 x.md, x.mv, .string x.s, .int .i64 x.at_, .int .i64 x.pg, .int .i64 x.inn, .int .i64 x.mid, .int .i64 x.fr, .bool x.wr, .bool x.rn]
def clC (kb : Nat) (x : Ask) (y : Who) (dr : Int) : Array Value := #[.pointer (some ⟨kb, 0, none⟩), .int .i64 x.op, .int .i64 x.pi, .int .i64 x.pj, .int .i64 x.qi, .int .i64 x.qj, .int .i64 x.a, .int .i64 x.b, .int .i64 x.c, .int .i64 x.ld, x.lv, .int .i64 x.md, x.mv, .string x.s, .int .i64 x.at_, .int .i64 x.pg, .int .i64 x.inn, .int .i64 x.mid, .int .i64 x.fr, .bool x.wr, .bool x.rn, .pointer (some ⟨y.B, 0, none⟩), .int .i64 y.id, .int .i64 y.d, y.v, .int .i64 dr]
def ClAt (W : World) (cb kb : Nat) (x : Ask) (y : Who) (dr : Int) : Prop := W.heap[cb]? = some (.cells (clC kb x y dr) 80 (0, 0))
theorem ClAt.lt {W : World} {cb kb : Nat} {x : Ask} {y : Who} {dr : Int} (h : ClAt W cb kb x y dr) : cb < W.heap.size := (Array.getElem?_eq_some_iff.1 h).1
theorem ClAt.cell {W : World} {cb kb : Nat} {x : Ask} {y : Who} {dr : Int} (h : ClAt W cb kb x y dr) (j : Nat) : W.cell? ⟨cb, j, none⟩ = (clC kb x y dr)[j]? := by
  have h' : W.heap[cb]? = some (.cells (clC kb x y dr) 80 (0, 0)) := h
  simp only [World.cell?, h']
  rfl
theorem KAt.cell {lo : Nat} {W : World} {K : Kn} (h : KAt lo W K) (j : Nat) : W.cell? ⟨K.kb, j, none⟩ = (knC K)[j]? := by
  simp only [World.cell?, h.blk]
  rfl
theorem ClAt.below {W W' : World} {cb kb : Nat} {x : Ask} {y : Who} {dr : Int} (h : ClAt W cb kb x y dr) (hb : Below W.heap.size W W') : ClAt W' cb kb x y dr := (hb.block cb h.lt).trans h
/-- A row of entries read as a label. -/
theorem lv_of {W : World} {base : Nat} {d : Int} {v : Value} {xs : List (Int × Int)} (h : W.ownsRow base 172 2 v xs.length (Ho.flat xs)) (hn : xs.length ≤ 16) : Pa.LV (d, xs) (.agg #[.int .i64 d, v]) W := by
  obtain ⟨p, cap, rfl, hc⟩ := Ho.cats_row h
  refine ⟨p, cap, rfl, hc, ?_, hn⟩
  rcases h.2 with ⟨h1, h0⟩ | ⟨g, cap', cur, h1, h2⟩
  · rw [h0]; exact Nat.zero_le _
  · injection h1 with _ _ h3; rw [h3]; exact h2.2.2.1
theorem sees_c {t o : Pa.ML} {v u : Value} {B : Nat} {id : Int} {W : World} (ht : Pa.LV t (.agg #[.int .i64 t.1, v]) W) (ho : Pa.LV o u W) :
    Calls Tryz.prog 24 #[.agg #[.pointer (some ⟨B, 0, none⟩), .int .i64 id, .int .i64 t.1, v], u] W fun e W' => e = .returned (.bool (Pa.seesS t.1 o.1 t.2 o.2)) ∧ Below W.heap.size W W' := by
  obtain ⟨p, cap, hv, h1, h2, h3⟩ := ht
  simp at hv
  subst hv
  obtain ⟨p', cap', rfl, h1', h2', h3'⟩ := ho
  have hW : Below W.heap.size W ((W.alloc (.cells #[.pointer (some ⟨B, 0, none⟩), .int .i64 id, .int .i64 t.1, .slice p t.2.length cap] 78)).alloc (.cells #[.int .i64 o.1, .slice p' o.2.length cap'] 26)) := by go_grown
  have HS := Lib.hid (Pa.Sees_any t.1 o.1 p p' cap cap' t.2 o.2 _ (by omega) (by unfold maxLen; omega) h2' (h1.below hW) (h1'.below hW))
  go_enter Tryz.func24, Tryz.ntmps24
  go_wp2_with (go_at_call 88; refine HS.out.mono ?_; rintro e w2 ⟨rfl, hb2⟩)
  go_ret
  exact ⟨rfl, hW.trans (hb2.mono hW.size)⟩
theorem alters_c {t o : Pa.ML} {v u : Value} {B : Nat} {id : Int} {W : World} (ht : Pa.LV t (.agg #[.int .i64 t.1, v]) W) (ho : Pa.LV o u W) :
    Calls Tryz.prog 37 #[.agg #[.pointer (some ⟨B, 0, none⟩), .int .i64 id, .int .i64 t.1, v], u] W fun e W' => e = .returned (.bool (Pa.altersS t.1 o.1 t.2 o.2)) ∧ Below W.heap.size W W' := by
  obtain ⟨p, cap, hv, h1, h2, h3⟩ := ht
  simp at hv
  subst hv
  obtain ⟨p', cap', rfl, h1', h2', h3'⟩ := ho
  have hW : Below W.heap.size W ((W.alloc (.cells #[.pointer (some ⟨B, 0, none⟩), .int .i64 id, .int .i64 t.1, .slice p t.2.length cap] 78)).alloc (.cells #[.int .i64 o.1, .slice p' o.2.length cap'] 26)) := by go_grown
  have HS := Lib.hid (Pa.Alters_any t.1 o.1 p p' cap cap' t.2 o.2 _ (by omega) (by unfold maxLen; omega) h2 h2' (h1.below hW) (h1'.below hW))
  go_enter Tryz.func37, Tryz.ntmps37
  go_wp2_with (go_at_call 101; refine HS.out.mono ?_; rintro e w2 ⟨rfl, hb2⟩)
  go_ret
  exact ⟨rfl, hW.trans (hb2.mono hW.size)⟩
end Go.Proofs.YtfmeajanbmaimaaGreat
namespace Go.Proofs.YtfmeajanbmaimaaGreat
open Go.ChangeShapes Go.WideShapes Go.ChangeAt Go.RowKit

theorem own : ownKnob Tryz.prog.godebug = none := by kernel_rfl
theorem cells24 : Tryz.prog.cellsOf 26 = 2 := by kernel_rfl
theorem cells30 : Tryz.prog.cellsOf 172 = 2 := by kernel_rfl
theorem cells22 : Tryz.prog.cellsOf 24 = 1 := by kernel_rfl
theorem cells3 : Tryz.prog.cellsOf 3 = 1 := by kernel_rfl
theorem laidOut : laidOutB Tryz.prog = true := by kernel_rfl
def askL (x : Ask) : List Value := [.int .i64 x.op, .int .i64 x.pi, .int .i64 x.pj, .int .i64 x.qi, .int .i64 x.qj, .int .i64 x.a, .int .i64 x.b, .int .i64 x.c, .int .i64 x.ld, x.lv, .int .i64 x.md, x.mv, .string x.s, .int .i64 x.at_, .int .i64 x.pg, .int .i64 x.inn, .int .i64 x.mid, .int .i64 x.fr, .bool x.wr, .bool x.rn]
section
variable {H : Type} {enc : TypeId × Value → H}

/-- What is handed in reads as it did, wherever nothing old has turned. -/
theorem all_stay {W W' : World} (hb : Below W.heap.size W W') : ∀ {ts : List TypeId} {vs : List Value} {ds : List (DataW H)} {ps : List MemPlace} {sp : Nat → Bool}, (∀ t ∈ ts, Tryz.prog.readableRec t = true ∧ t < Tryz.prog.types.size) →
    DataW.TrodAll enc Tryz.prog W 0 (fun _ => true) true ts vs ds ps → (∀ x ∈ ps, x.block < W.heap.size) → (∀ x ∈ ps, sp x.block = true) → DataW.TrodAll enc Tryz.prog W' 0 sp true ts vs ds ps
  | [], _, _, _, _, _, h, _, _ => by
    obtain ⟨rfl, rfl, rfl⟩ := trodAll_nil h
    exact trodAll_mk0
  | t :: ts, _, _, _, _, hr, h, hlt, hsp => by
    obtain ⟨v, vs', d, ds', p, q, rfl, rfl, rfl, h0, h1⟩ := trodAll_cons h
    exact trodAll_cons_mk (WideElems.Trod_stays laidOut (hr t (List.mem_cons_self ..)).1 (hr t (List.mem_cons_self ..)).2 h0 (fun x hx => hb.same (hlt x (List.mem_append.2 (.inl hx)))) (fun x hx => hsp x (List.mem_append.2 (.inl hx))))
      (all_stay hb (fun u hu => hr u (List.mem_cons_of_mem _ hu)) h1 (fun x hx => hlt x (List.mem_append.2 (.inr hx))) (fun x hx => hsp x (List.mem_append.2 (.inr hx))))
theorem entry_open {W : World} {a : Addr} {n : Nat} {x : DataW H × List MemPlace} {cs : List Value} (hc : W.cells? 0 a 2 = some cs) (h : DataW.trod enc Tryz.prog W 0 (fun _ => true) true n 172 cs = some x) :
    ∃ c l : Int, W.cell? a = some (.int .i64 c) ∧ W.cell? (a.add 1) = some (.int .i64 l) := by
  obtain ⟨y0, y1, m, _, _, h0, h1⟩ := trod_struct2 Tryz.underlying172 h
  rw [cells3] at h0 h1
  obtain ⟨c, e0, _, _⟩ := DataW.trod_int Tryz.underlying3 h0
  obtain ⟨l, e1, _, _⟩ := DataW.trod_int Tryz.underlying3 h1
  obtain ⟨_, hlen, hcell⟩ := World.cells?_some hc
  match cs, hlen with
  | [c0, c1], _ =>
    simp at e0 e1
    subst e0 e1
    have k0 := hcell 0 (by decide)
    have k1 := hcell 1 (by decide)
    refine ⟨c, l, ?_, k1⟩
    simpa [Addr.add] using k0

theorem addr_at (b o j : Nat) : (⟨b, o, none⟩ : Addr).add j = ⟨b, o + j, none⟩ := by
  by_cases h : j = 0 <;> simp [Addr.add, h]
theorem spot_none {W : World} {a : Addr} {v : Value} (h : W.cell? a = some v) : a = ⟨a.block, a.off, none⟩ := by
  obtain ⟨b, o, s⟩ := a
  cases s with
  | none => rfl
  | some s => simp only [World.cell?] at h; split at h <;> simp at h

theorem slice_open {W : World} {n : Nat} {v : Value} {x : DataW H × List MemPlace} (h : DataW.trod enc Tryz.prog W 0 (fun _ => true) true n 24 [v] = some x) :
    ∃ (p : Option Addr) (cap : Nat) (xs : List (Int × Int)), v = .slice p xs.length cap ∧ Pa.CatsAt W p xs ∧ xs.length ≤ cap ∧ cap ≤ maxLen := by
  rcases Deep.open_slice Tryz.underlying24 h with ⟨hcs, _⟩ | ⟨a, len, cap, m, k, D, Pl, hcs, hb, hl, hm, hmm, _, hx⟩
  · simp only [List.cons.injEq, and_true] at hcs
    exact ⟨none, 0, [], hcs, fun j hj => by simp at hj, by simp, by unfold maxLen; omega⟩
  · simp only [List.cons.injEq, and_true] at hcs
    rw [if_pos rfl] at hmm
    subst hmm
    rw [cells30] at hx
    have hcell : ∀ i, i < len → ∃ y : Int × Int, W.cell? (a.add (i * 2)) = some (.int .i64 y.1) ∧ W.cell? ((a.add (i * 2)).add 1) = some (.int .i64 y.2) := fun i hi => by
      obtain ⟨cs', h1, h2⟩ := hx i (by omega)
      obtain ⟨c, l, e0, e1⟩ := entry_open h1 h2
      exact ⟨(c, l), e0, e1⟩
    obtain ⟨f, hf⟩ := Deep.choose_lt hcell
    refine ⟨some a, m, (List.range len).map f, by simpa using hcs, ?_, by simpa using hl, hm⟩
    intro j hj
    have hj' : j < len := by simpa using hj
    obtain ⟨e0, e1⟩ := hf j hj'
    have ha : a = ⟨a.block, a.off, none⟩ := by
      have hs := spot_none (hf 0 (by omega)).1
      simpa [Addr.add] using hs
    have hblk : a.block < W.heap.size := by
      obtain ⟨cs', h1, _⟩ := hx j (by omega)
      have := World.cells?_block h1 (by decide)
      obtain ⟨b, o, s⟩ := a
      simp only [Addr.add] at this
      split at this <;> simpa using this
    rw [ha] at e0 e1
    rw [addr_at, addr_at] at e1
    rw [addr_at] at e0
    refine ⟨a.block, a.off, by rw [← ha], hblk, ?_, ?_⟩
    · simpa using e0
    · simpa using e1

theorem label_cells {W : World} {n : Nat} {c0 c1 : Value} {x : DataW H × List MemPlace} (h : DataW.trod enc Tryz.prog W 0 (fun _ => true) true n 26 [c0, c1] = some x) :
    ∃ (e : Int) (p : Option Addr) (cap : Nat) (xs : List (Int × Int)), c0 = .int .i64 e ∧ c1 = .slice p xs.length cap ∧ Pa.CatsAt W p xs ∧ xs.length ≤ cap ∧ cap ≤ maxLen := by
  obtain ⟨y0, y1, m, _, _, h0, h1⟩ := trod_struct2 Tryz.underlying26 h
  rw [cells3] at h0
  rw [cells22] at h1
  obtain ⟨e, e0, _, _⟩ := DataW.trod_int Tryz.underlying3 h0
  simp at e0
  have h1' : DataW.trod enc Tryz.prog W 0 (fun _ => true) true m 24 [c1] = some y1 := by simpa using h1
  obtain ⟨p, cap, xs, e1, hc, hl, hm⟩ := slice_open h1'
  exact ⟨e, p, cap, xs, e0, e1, hc, hl, hm⟩
theorem cellsRef : Tryz.prog.cellsOf 23 = 2 := by kernel_rfl
theorem cellsMp : Tryz.prog.cellsOf 28 = 7 := by kernel_rfl
theorem cellsCall : Tryz.prog.cellsOf 30 = 20 := by kernel_rfl
theorem cellsStr : Tryz.prog.cellsOf 9 = 1 := by kernel_rfl
theorem cellsBool : Tryz.prog.cellsOf 4 = 1 := by kernel_rfl
theorem one_int {W : World} {n : Nat} {c : Value} {x : DataW H × List MemPlace} (h : DataW.trod enc Tryz.prog W 0 (fun _ => true) true n 3 [c] = some x) : ∃ k : Int, c = .int .i64 k := by
  obtain ⟨k, e, _, _⟩ := DataW.trod_int Tryz.underlying3 h
  exact ⟨k, by simpa using e⟩
theorem ref_cells {W : World} {n : Nat} {c0 c1 : Value} {x : DataW H × List MemPlace} (h : DataW.trod enc Tryz.prog W 0 (fun _ => true) true n 23 [c0, c1] = some x) : ∃ i j : Int, c0 = .int .i64 i ∧ c1 = .int .i64 j := by
  obtain ⟨y0, y1, m, _, _, h0, h1⟩ := trod_struct2 Tryz.underlying23 h
  rw [cells3] at h0 h1
  obtain ⟨i, e0⟩ := one_int (show DataW.trod enc Tryz.prog W 0 (fun _ => true) true m 3 [c0] = some y0 by simpa using h0)
  obtain ⟨j, e1⟩ := one_int (show DataW.trod enc Tryz.prog W 0 (fun _ => true) true m 3 [c1] = some y1 by simpa using h1)
  exact ⟨i, j, e0, e1⟩
set_option maxRecDepth 100000 in
theorem map_cells7 {W : World} {n : Nat} {c0 c1 c2 c3 c4 c5 c6 : Value} {x : DataW H × List MemPlace} (hf : DataW.trod enc Tryz.prog W 0 (fun _ => true) true n 28 [c0, c1, c2, c3, c4, c5, c6] = some x) : ∃ (x0 x1 x2 x3 x4 : Int) (x5 x6 : Bool), c0 = .int .i64 x0 ∧ c1 = .int .i64 x1 ∧ c2 = .int .i64 x2 ∧ c3 = .int .i64 x3 ∧ c4 = .int .i64 x4 ∧ c5 = .bool x5 ∧ c6 = .bool x6 := by
  obtain ⟨xs, n', rfl, _, hcl, hxl, hall⟩ := DataW.trod_struct Tryz.underlying28 hf
  have h0 := hall 0 _ rfl
  rw [List.getElem?_eq_getElem (by rw [hxl]; decide)] at h0
  obtain ⟨x0, e0, _, _⟩ := DataW.trod_int Tryz.underlying3 h0
  change List.take (Tryz.prog.cellsOf 3) (List.drop 0 [c0, c1, c2, c3, c4, c5, c6]) = _ at e0
  rw [cells3] at e0
  have h1 := hall 1 _ rfl
  rw [List.getElem?_eq_getElem (by rw [hxl]; decide)] at h1
  obtain ⟨x1, e1, _, _⟩ := DataW.trod_int Tryz.underlying3 h1
  change List.take (Tryz.prog.cellsOf 3) (List.drop 1 [c0, c1, c2, c3, c4, c5, c6]) = _ at e1
  rw [cells3] at e1
  have h2 := hall 2 _ rfl
  rw [List.getElem?_eq_getElem (by rw [hxl]; decide)] at h2
  obtain ⟨x2, e2, _, _⟩ := DataW.trod_int Tryz.underlying3 h2
  change List.take (Tryz.prog.cellsOf 3) (List.drop 2 [c0, c1, c2, c3, c4, c5, c6]) = _ at e2
  rw [cells3] at e2
  have h3 := hall 3 _ rfl
  rw [List.getElem?_eq_getElem (by rw [hxl]; decide)] at h3
  obtain ⟨x3, e3, _, _⟩ := DataW.trod_int Tryz.underlying3 h3
  change List.take (Tryz.prog.cellsOf 3) (List.drop 3 [c0, c1, c2, c3, c4, c5, c6]) = _ at e3
  rw [cells3] at e3
  have h4 := hall 4 _ rfl
  rw [List.getElem?_eq_getElem (by rw [hxl]; decide)] at h4
  obtain ⟨x4, e4, _, _⟩ := DataW.trod_int Tryz.underlying3 h4
  change List.take (Tryz.prog.cellsOf 3) (List.drop 4 [c0, c1, c2, c3, c4, c5, c6]) = _ at e4
  rw [cells3] at e4
  have h5 := hall 5 _ rfl
  rw [List.getElem?_eq_getElem (by rw [hxl]; decide)] at h5
  obtain ⟨x5, e5, _⟩ := DataW.trod_bool Tryz.underlying4 h5
  change List.take (Tryz.prog.cellsOf 4) (List.drop 5 [c0, c1, c2, c3, c4, c5, c6]) = _ at e5
  rw [cellsBool] at e5
  have h6 := hall 6 _ rfl
  rw [List.getElem?_eq_getElem (by rw [hxl]; decide)] at h6
  obtain ⟨x6, e6, _⟩ := DataW.trod_bool Tryz.underlying4 h6
  change List.take (Tryz.prog.cellsOf 4) (List.drop 6 [c0, c1, c2, c3, c4, c5, c6]) = _ at e6
  rw [cellsBool] at e6
  exact ⟨x0, x1, x2, x3, x4, x5, x6, by simpa using e0, by simpa using e1, by simpa using e2, by simpa using e3, by simpa using e4, by simpa using e5, by simpa using e6⟩
set_option maxRecDepth 100000 in
set_option maxHeartbeats 1000000 in
theorem call_cells {W : World} {n : Nat} {cs : List Value} {x : DataW H × List MemPlace} (hf : DataW.trod enc Tryz.prog W 0 (fun _ => true) true n 30 cs = some x) : ∃ y : Ask, cs = (askL y) ∧ (∃ p n c, y.lv = .slice p n c) ∧ ∃ p n c, y.mv = .slice p n c := by
  obtain ⟨xs, n', _, _, hcl, hxl, hall⟩ := DataW.trod_struct Tryz.underlying30 hf
  rw [cellsCall] at hcl
  match cs, hcl with
  | [v0, v1, v2, v3, v4, v5, v6, v7, v8, v9, v10, v11, v12, v13, v14, v15, v16, v17, v18, v19], _ =>
    have h0 := hall 0 _ rfl
    rw [List.getElem?_eq_getElem (by rw [hxl]; decide)] at h0
    change DataW.trod enc Tryz.prog W 0 (fun _ => true) true n' 3 (List.take (Tryz.prog.cellsOf 3) (List.drop 0 [v0, v1, v2, v3, v4, v5, v6, v7, v8, v9, v10, v11, v12, v13, v14, v15, v16, v17, v18, v19])) = _ at h0
    rw [cells3] at h0
    change DataW.trod enc Tryz.prog W 0 (fun _ => true) true n' 3 [v0] = _ at h0
    obtain ⟨z0, f0⟩ := one_int h0
    have h1 := hall 1 _ rfl
    rw [List.getElem?_eq_getElem (by rw [hxl]; decide)] at h1
    change DataW.trod enc Tryz.prog W 0 (fun _ => true) true n' 23 (List.take (Tryz.prog.cellsOf 23) (List.drop 1 [v0, v1, v2, v3, v4, v5, v6, v7, v8, v9, v10, v11, v12, v13, v14, v15, v16, v17, v18, v19])) = _ at h1
    rw [cellsRef] at h1
    change DataW.trod enc Tryz.prog W 0 (fun _ => true) true n' 23 [v1, v2] = _ at h1
    obtain ⟨z1, z2, f1, f2⟩ := ref_cells h1
    have h2 := hall 2 _ rfl
    rw [List.getElem?_eq_getElem (by rw [hxl]; decide)] at h2
    change DataW.trod enc Tryz.prog W 0 (fun _ => true) true n' 23 (List.take (Tryz.prog.cellsOf 23) (List.drop 3 [v0, v1, v2, v3, v4, v5, v6, v7, v8, v9, v10, v11, v12, v13, v14, v15, v16, v17, v18, v19])) = _ at h2
    rw [cellsRef] at h2
    change DataW.trod enc Tryz.prog W 0 (fun _ => true) true n' 23 [v3, v4] = _ at h2
    obtain ⟨z3, z4, f3, f4⟩ := ref_cells h2
    have h3 := hall 3 _ rfl
    rw [List.getElem?_eq_getElem (by rw [hxl]; decide)] at h3
    change DataW.trod enc Tryz.prog W 0 (fun _ => true) true n' 3 (List.take (Tryz.prog.cellsOf 3) (List.drop 5 [v0, v1, v2, v3, v4, v5, v6, v7, v8, v9, v10, v11, v12, v13, v14, v15, v16, v17, v18, v19])) = _ at h3
    rw [cells3] at h3
    change DataW.trod enc Tryz.prog W 0 (fun _ => true) true n' 3 [v5] = _ at h3
    obtain ⟨z5, f5⟩ := one_int h3
    have h4 := hall 4 _ rfl
    rw [List.getElem?_eq_getElem (by rw [hxl]; decide)] at h4
    change DataW.trod enc Tryz.prog W 0 (fun _ => true) true n' 3 (List.take (Tryz.prog.cellsOf 3) (List.drop 6 [v0, v1, v2, v3, v4, v5, v6, v7, v8, v9, v10, v11, v12, v13, v14, v15, v16, v17, v18, v19])) = _ at h4
    rw [cells3] at h4
    change DataW.trod enc Tryz.prog W 0 (fun _ => true) true n' 3 [v6] = _ at h4
    obtain ⟨z6, f6⟩ := one_int h4
    have h5 := hall 5 _ rfl
    rw [List.getElem?_eq_getElem (by rw [hxl]; decide)] at h5
    change DataW.trod enc Tryz.prog W 0 (fun _ => true) true n' 3 (List.take (Tryz.prog.cellsOf 3) (List.drop 7 [v0, v1, v2, v3, v4, v5, v6, v7, v8, v9, v10, v11, v12, v13, v14, v15, v16, v17, v18, v19])) = _ at h5
    rw [cells3] at h5
    change DataW.trod enc Tryz.prog W 0 (fun _ => true) true n' 3 [v7] = _ at h5
    obtain ⟨z7, f7⟩ := one_int h5
    have h6 := hall 6 _ rfl
    rw [List.getElem?_eq_getElem (by rw [hxl]; decide)] at h6
    change DataW.trod enc Tryz.prog W 0 (fun _ => true) true n' 26 (List.take (Tryz.prog.cellsOf 26) (List.drop 8 [v0, v1, v2, v3, v4, v5, v6, v7, v8, v9, v10, v11, v12, v13, v14, v15, v16, v17, v18, v19])) = _ at h6
    rw [cells24] at h6
    change DataW.trod enc Tryz.prog W 0 (fun _ => true) true n' 26 [v8, v9] = _ at h6
    obtain ⟨z8, p8, cap8, ys8, f8, f9, -, -, -⟩ := label_cells h6
    have h7 := hall 7 _ rfl
    rw [List.getElem?_eq_getElem (by rw [hxl]; decide)] at h7
    change DataW.trod enc Tryz.prog W 0 (fun _ => true) true n' 26 (List.take (Tryz.prog.cellsOf 26) (List.drop 10 [v0, v1, v2, v3, v4, v5, v6, v7, v8, v9, v10, v11, v12, v13, v14, v15, v16, v17, v18, v19])) = _ at h7
    rw [cells24] at h7
    change DataW.trod enc Tryz.prog W 0 (fun _ => true) true n' 26 [v10, v11] = _ at h7
    obtain ⟨z10, p10, cap10, ys10, f10, f11, -, -, -⟩ := label_cells h7
    have h8 := hall 8 _ rfl
    rw [List.getElem?_eq_getElem (by rw [hxl]; decide)] at h8
    change DataW.trod enc Tryz.prog W 0 (fun _ => true) true n' 9 (List.take (Tryz.prog.cellsOf 9) (List.drop 12 [v0, v1, v2, v3, v4, v5, v6, v7, v8, v9, v10, v11, v12, v13, v14, v15, v16, v17, v18, v19])) = _ at h8
    rw [cellsStr] at h8
    change DataW.trod enc Tryz.prog W 0 (fun _ => true) true n' 9 [v12] = _ at h8
    obtain ⟨z12, f12, _, _⟩ := DataW.trod_string Tryz.underlying9 h8
    have f12 : v12 = .string z12 := by simpa using f12
    have h9 := hall 9 _ rfl
    rw [List.getElem?_eq_getElem (by rw [hxl]; decide)] at h9
    change DataW.trod enc Tryz.prog W 0 (fun _ => true) true n' 28 (List.take (Tryz.prog.cellsOf 28) (List.drop 13 [v0, v1, v2, v3, v4, v5, v6, v7, v8, v9, v10, v11, v12, v13, v14, v15, v16, v17, v18, v19])) = _ at h9
    rw [cellsMp] at h9
    change DataW.trod enc Tryz.prog W 0 (fun _ => true) true n' 28 [v13, v14, v15, v16, v17, v18, v19] = _ at h9
    obtain ⟨z13, z14, z15, z16, z17, z18, z19, f13, f14, f15, f16, f17, f18, f19⟩ := map_cells7 h9
    refine ⟨⟨z0, z1, z2, z3, z4, z5, z6, z7, z8, .slice p8 ys8.length cap8, z10, .slice p10 ys10.length cap10, z12, z13, z14, z15, z16, z17, z18, z19⟩, ?_, ⟨_, _, _, rfl⟩, ⟨_, _, _, rfl⟩⟩
    rw [f0, f1, f2, f3, f4, f5, f6, f7, f8, f9, f10, f11, f12, f13, f14, f15, f16, f17, f18, f19]; rfl
set_option maxRecDepth 100000 in
/-- A call that is handed in. -/
theorem call_open {W : World} {r : Reach} {b0 : Nat} {v : Value} {d : DataW H} {ps : List MemPlace} (hv : Value.okWide Tryz.prog W r b0 30 v) (h : DataW.Trod enc Tryz.prog W 0 (fun _ => true) true 30 v d ps) :
    ∃ y : Ask, v = askV y ∧ (∃ p n c, y.lv = .slice p n c) ∧ ∃ p n c, y.mv = .slice p n c := by
  obtain ⟨cs, rfl, hsz⟩ := okWide_struct Tryz.underlying30 hv
  obtain ⟨fuel, hf⟩ := h
  have hcs : (Value.agg cs).cells.toList = cs.toList := by simp [Value.cells]
  rw [hcs] at hf
  obtain ⟨y, e, hl, hm⟩ := call_cells hf
  refine ⟨y, ?_, hl, hm⟩
  unfold askV
  congr 1
  exact Array.toList_inj.1 (by rw [e]; rfl)
end
/-- What a law owes: it answered true, and nothing old has turned. -/
theorem law_post {H : Type} {enc : TypeId × Value → H} {f : Func} {s : ChangeSpec} {W W' : World} {args : Array Value} {ds : List (DataW H)} {before : List MemPlace} (hres : f.resultTypes = #[4]) (hr : ∀ t ∈ f.params.toList, Tryz.prog.readableRec t = true ∧ t < Tryz.prog.types.size)
    (hv : s.vars = []) (hW : DataW.Whole enc Tryz.prog f.params.toList s.vars false W args.toList ds [] before) (hfr : (s.fn H (ds ++ [])).results = [.lit (.bool true)]) (hfa : (s.fn H (ds ++ [])).args = ds) (hfv : (s.fn H (ds ++ [])).vars = []) (hb : Below W.heap.size W W') :
    s.post enc Tryz.prog f false true false false W args (.bool true) W' := by
  have hlt := hW.lt
  have hW' := hW
  obtain ⟨p, q, hA, hV, rfl, _, _⟩ := hW
  have hq : q = [] := by rw [hv] at hV; exact (trodVars_none hV).2
  subst hq
  rw [List.append_nil] at hW' hlt
  have hold : ∀ x ∈ p, (fun b => decide (b < W.heap.size)) x.block = true := fun x hx => by simpa using hlt x hx
  refine ⟨ds, [], p, [], p, [], hW', ?_, ?_, ?_, hb.frame _, fun h => by cases h⟩
  · rw [hres, hfr]; exact trodAll_mk1 (shut_bool Tryz.underlying4 _)
  · rw [hfa]; exact all_stay hb hr hA hlt hold
  · rw [hfv, hv]; exact rfl
end Go.Proofs.YtfmeajanbmaimaaGreat
