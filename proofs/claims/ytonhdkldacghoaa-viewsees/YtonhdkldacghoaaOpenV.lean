/- How objects, labels and rows of objects that are handed in are read in memory, and what a law owes. -/
import Derived.Test.YtonhdkldacghoaaRows
import Derived.Test.YtonhdkldacghoaaOb
import Derived.WalkKit
import Derived.ProofKit
import Derived.OpenShut
import Derived.Deep.DeepHandedRow
import Derived.ChangeMaps5
import Derived.Lib.SmallJoins
import Derived.Deep.Slices
namespace Go.Proofs.Ytonhdkldacghoaa
open Go.ChangeShapes Go.WideShapes Go.ChangeAt Go.RowKit

theorem int_range {n : Int} (h : (Lit.int .i64 n).wf = true) : -9223372036854775808 ≤ n ∧ n ≤ 9223372036854775807 := by
  simp [Lit.wf] at h
  exact ⟨Int.le_trans (by decide : (-9223372036854775808 : Int) ≤ IntKind.min .i64) h.1, Int.le_trans h.2 (by decide)⟩
theorem own : ownKnob Try.prog.godebug = none := by kernel_rfl
theorem cells24 : Try.prog.cellsOf 25 = 2 := by kernel_rfl
theorem cells30 : Try.prog.cellsOf 50 = 2 := by kernel_rfl
theorem cellsIs : Try.prog.cellsOf 28 = 1 := by kernel_rfl
theorem cellsMs : Try.prog.cellsOf 34 = 1 := by kernel_rfl
theorem cellsS : Try.prog.cellsOf 9 = 1 := by kernel_rfl
theorem cellsU : Try.prog.cellsOf 37 = 1 := by kernel_rfl
theorem cellsB : Try.prog.cellsOf 4 = 1 := by kernel_rfl
theorem cellsM : Try.prog.cellsOf 77 = 7 := by kernel_rfl
theorem cellsI : Try.prog.cellsOf 33 = 7 := by kernel_rfl
theorem cellsR : Try.prog.cellsOf 36 = 2 := by kernel_rfl
theorem cellsSt : Try.prog.cellsOf 40 = 17 := by kernel_rfl
theorem cellsA : Try.prog.cellsOf 38 = 16 := by kernel_rfl
theorem cellsO : Try.prog.cellsOf 42 = 38 := by kernel_rfl
theorem cells22 : Try.prog.cellsOf 23 = 1 := by kernel_rfl
theorem cells3 : Try.prog.cellsOf 3 = 1 := by kernel_rfl
theorem laidOut : laidOutB Try.prog = true := by kernel_rfl
section
variable {H : Type} {enc : TypeId × Value → H}

/-- What is handed in reads as it did, wherever nothing old has turned. -/
theorem all_stay {W W' : World} (hb : Below W.heap.size W W') : ∀ {ts : List TypeId} {vs : List Value} {ds : List (DataW H)} {ps : List MemPlace} {sp : Nat → Bool}, (∀ t ∈ ts, Try.prog.readableRec t = true ∧ t < Try.prog.types.size) →
    DataW.TrodAll enc Try.prog W 0 (fun _ => true) true ts vs ds ps → (∀ x ∈ ps, x.block < W.heap.size) → (∀ x ∈ ps, sp x.block = true) → DataW.TrodAll enc Try.prog W' 0 sp true ts vs ds ps
  | [], _, _, _, _, _, h, _, _ => by
    obtain ⟨rfl, rfl, rfl⟩ := trodAll_nil h
    exact trodAll_mk0
  | t :: ts, _, _, _, _, hr, h, hlt, hsp => by
    obtain ⟨v, vs', d, ds', p, q, rfl, rfl, rfl, h0, h1⟩ := trodAll_cons h
    exact trodAll_cons_mk (WideElems.Trod_stays laidOut (hr t (List.mem_cons_self ..)).1 (hr t (List.mem_cons_self ..)).2 h0 (fun x hx => hb.same (hlt x (List.mem_append.2 (.inl hx)))) (fun x hx => hsp x (List.mem_append.2 (.inl hx))))
      (all_stay hb (fun u hu => hr u (List.mem_cons_of_mem _ hu)) h1 (fun x hx => hlt x (List.mem_append.2 (.inr hx))) (fun x hx => hsp x (List.mem_append.2 (.inr hx))))
theorem addr_at (b o j : Nat) : (⟨b, o, none⟩ : Addr).add j = ⟨b, o + j, none⟩ := by
  by_cases h : j = 0 <;> simp [Addr.add, h]
theorem spot_none {W : World} {a : Addr} {v : Value} (h : W.cell? a = some v) : a = ⟨a.block, a.off, none⟩ := by
  obtain ⟨b, o, s⟩ := a
  cases s with
  | none => rfl
  | some s => simp only [World.cell?] at h; split at h <;> simp at h


/-- A row of any elements that is handed in, by what one element is. -/
theorem row_open {α : Type} [Inhabited α] {W : World} {t e : TypeId} {k : Nat} (hu : Try.prog.underlying t = some (.slice e)) (hk : Try.prog.cellsOf e = k) (hpos : 0 < k) (C : α → List Value) (OK : α → Prop)
    (hC : ∀ y, OK y → (C y).length = k) (ho : ∀ (n : Nat) (cs : List Value) (x : DataW H × List MemPlace), DataW.trod enc Try.prog W 0 (fun _ => true) true n e cs = some x → ∃ y, OK y ∧ cs = C y)
    {n : Nat} {v : Value} {x : DataW H × List MemPlace} (h : DataW.trod enc Try.prog W 0 (fun _ => true) true n t [v] = some x) :
    ∃ (p : Option Addr) (cap : Nat) (xs : List α), v = .slice p xs.length cap ∧ (∀ j (hj : j < xs.length), ∃ b off, p = some ⟨b, off, none⟩ ∧ b < W.heap.size ∧ (∀ f u, (C xs[j])[f]? = some u → W.cell? ⟨b, off + j * k + f, none⟩ = some u) ∧ OK xs[j]) ∧ xs.length ≤ cap ∧ cap ≤ maxLen ∧ (p = none → cap = 0) := by
  rcases Deep.open_slice hu h with ⟨hcs, _⟩ | ⟨a, len, cap, m, q, D, Pl, hcs, hb, hl, hm, hmm, _, hx⟩
  · simp only [List.cons.injEq, and_true] at hcs
    exact ⟨none, 0, [], hcs, fun j hj => by simp at hj, by simp, by unfold maxLen; omega, fun _ => rfl⟩
  · simp only [List.cons.injEq, and_true] at hcs
    rw [if_pos rfl] at hmm
    subst hmm
    rw [hk] at hx
    have hcell : ∀ i, i < len → ∃ y : α, OK y ∧ ∀ f u, (C y)[f]? = some u → W.cell? ((a.add (i * k)).add f) = some u := fun i hi => by
      obtain ⟨cs', h1, h2⟩ := hx i (by omega)
      obtain ⟨y, hy, rfl⟩ := ho _ _ _ h2
      obtain ⟨_, hlen, hcell⟩ := World.cells?_some h1
      refine ⟨y, hy, fun f u hu => ?_⟩
      have hf : f < k := by rw [← hC y hy]; exact (List.getElem?_eq_some_iff.1 hu).1
      rw [hcell f hf]; exact hu
    obtain ⟨f, hf⟩ := Deep.choose_lt hcell
    refine ⟨some a, m, (List.range len).map f, by simpa using hcs, ?_, by simpa using hl, hm, fun h => by cases h⟩
    intro j hj
    have hj' : j < len := by simpa using hj
    obtain ⟨hok, hc⟩ := hf j hj'
    have ha : a = ⟨a.block, a.off, none⟩ := by
      obtain ⟨ok0, hc0⟩ := hf 0 (by omega)
      have hlt : 0 < (C (f 0)).length := by rw [hC _ ok0]; exact hpos
      have hs := spot_none (hc0 0 (C (f 0))[0] (List.getElem?_eq_getElem hlt))
      simpa [Addr.add] using hs
    have hblk : a.block < W.heap.size := by
      obtain ⟨cs', h1, _⟩ := hx j (by omega)
      have := World.cells?_block h1 hpos
      obtain ⟨b, o, s⟩ := a
      simp only [Addr.add] at this
      split at this <;> simpa using this
    refine ⟨a.block, a.off, by rw [← ha], hblk, fun q u hu => ?_, by simpa using hok⟩
    have := hc q u (by simpa using hu)
    rw [ha, addr_at, addr_at] at this
    exact this
theorem i64_range {n : Int} (h : (Lit.int .i64 n).wf = true) : i64 n := int_range h
theorem ints_row {W : World} {n : Nat} {v : Value} {x : DataW H × List MemPlace} (h : DataW.trod enc Try.prog W 0 (fun _ => true) true n 28 [v] = some x) :
    ∃ (p : Option Addr) (cap : Nat) (xs : List Int), v = .slice p xs.length cap ∧ IntsAt W p xs ∧ (∀ y ∈ xs, i64 y) ∧ xs.length ≤ cap ∧ cap ≤ maxLen ∧ (p = none → cap = 0) := by
  obtain ⟨p, cap, xs, hv, hc, h1, h2, h3⟩ := row_open Try.underlying28 cells3 (by decide) (fun y : Int => [.int .i64 y]) i64 (fun _ _ => rfl) (fun n cs x h => by
    obtain ⟨y, e, _, hw⟩ := DataW.trod_int Try.underlying3 h
    exact ⟨y, i64_range hw, e⟩) h
  refine ⟨p, cap, xs, hv, fun j hj => ?_, fun y hy => ?_, h1, h2, h3⟩
  · obtain ⟨b, off, hp, hb, hf, _⟩ := hc j hj
    have := hf 0 _ rfl
    rw [Nat.mul_one, Nat.add_zero] at this
    exact ⟨b, off, hp, hb, this⟩
  · obtain ⟨j, hj, rfl⟩ := List.getElem_of_mem hy
    obtain ⟨_, _, _, _, _, hok⟩ := hc j hj
    exact hok
theorem cats_row {W : World} {n : Nat} {v : Value} {x : DataW H × List MemPlace} (h : DataW.trod enc Try.prog W 0 (fun _ => true) true n 23 [v] = some x) :
    ∃ (p : Option Addr) (cap : Nat) (xs : List (Int × Int)), v = .slice p xs.length cap ∧ CatsAt W p xs ∧ xs.length ≤ cap ∧ cap ≤ maxLen ∧ (p = none → cap = 0) := by
  obtain ⟨p, cap, xs, hv, hc, h1, h2, h3⟩ := row_open Try.underlying23 cells30 (by decide) (fun y : Int × Int => [.int .i64 y.1, .int .i64 y.2]) (fun _ => True) (fun _ _ => rfl) (fun n cs x h => by
    obtain ⟨y0, y1, m, _, hl, g0, g1⟩ := trod_struct2 Try.underlying50 h
    rw [cells3] at g0 g1
    rw [cells30] at hl
    obtain ⟨c, e0, _, _⟩ := DataW.trod_int Try.underlying3 g0
    obtain ⟨l, e1, _, _⟩ := DataW.trod_int Try.underlying3 g1
    refine ⟨(c, l), trivial, ?_⟩
    match cs, hl with
    | [c0, c1], _ => simp at e0 e1; rw [e0, e1]) h
  refine ⟨p, cap, xs, hv, fun j hj => ?_, h1, h2, h3⟩
  obtain ⟨b, off, hp, hb, hf, _⟩ := hc j hj
  exact ⟨b, off, hp, hb, hf 0 _ rfl, hf 1 _ rfl⟩
theorem label_seg {W : World} {n : Nat} {cs : List Value} {x : DataW H × List MemPlace} (h : DataW.trod enc Try.prog W 0 (fun _ => true) true n 25 cs = some x) :
    ∃ L : Lab, cs = [.int .i64 L.d, .slice L.p L.xs.length L.cap] ∧ CatsAt W L.p L.xs ∧ L.xs.length ≤ L.cap ∧ L.xs.length ≤ maxLen ∧ (L.p = none → L.cap = 0) := by
  obtain ⟨y0, y1, m, _, hl, g0, g1⟩ := trod_struct2 Try.underlying25 h
  rw [cells24] at hl
  rw [cells3] at g0
  rw [cells22] at g1
  obtain ⟨e, e0, _, _⟩ := DataW.trod_int Try.underlying3 g0
  match cs, hl with
  | [c0, c1], _ =>
    have g1' : DataW.trod enc Try.prog W 0 (fun _ => true) true m 23 [c1] = some y1 := by simpa using g1
    obtain ⟨p, cap, xs, rfl, hc, h1, h2, h3⟩ := cats_row g1'
    simp at e0
    exact ⟨⟨e, p, cap, xs⟩, by rw [e0], hc, h1, Nat.le_trans h1 h2, h3⟩
theorem seg_step {k n : Nat} {cs seg : List Value} (h : List.take k (List.drop n cs) = seg) : List.drop n cs = seg ++ List.drop (n + k) cs := by
  rw [← h, ← List.drop_drop, List.take_append_drop]
instance : Inhabited Mp := ⟨⟨0, 0, 0, 0, 0, false, false⟩⟩
set_option maxRecDepth 100000 in
theorem map_seg {W : World} {n : Nat} {cs : List Value} {x : DataW H × List MemPlace} (h : DataW.trod enc Try.prog W 0 (fun _ => true) true n 77 cs = some x) : ∃ m : Mp, cs = (mpC m).toList := by
  obtain ⟨xs, n, _, _, hl, hxl, hall⟩ := DataW.trod_struct Try.underlying77 h
  rw [cellsM] at hl
  have h0 := hall 0 _ rfl
  rw [List.getElem?_eq_getElem (by rw [hxl]; decide)] at h0
  obtain ⟨x0, e0, _, _⟩ := DataW.trod_int Try.underlying3 h0
  change List.take (Try.prog.cellsOf 3) (List.drop 0 cs) = _ at e0
  rw [cells3] at e0
  have h1 := hall 1 _ rfl
  rw [List.getElem?_eq_getElem (by rw [hxl]; decide)] at h1
  obtain ⟨x1, e1, _, _⟩ := DataW.trod_int Try.underlying3 h1
  change List.take (Try.prog.cellsOf 3) (List.drop 1 cs) = _ at e1
  rw [cells3] at e1
  have h2 := hall 2 _ rfl
  rw [List.getElem?_eq_getElem (by rw [hxl]; decide)] at h2
  obtain ⟨x2, e2, _, _⟩ := DataW.trod_int Try.underlying3 h2
  change List.take (Try.prog.cellsOf 3) (List.drop 2 cs) = _ at e2
  rw [cells3] at e2
  have h3 := hall 3 _ rfl
  rw [List.getElem?_eq_getElem (by rw [hxl]; decide)] at h3
  obtain ⟨x3, e3, _, _⟩ := DataW.trod_int Try.underlying3 h3
  change List.take (Try.prog.cellsOf 3) (List.drop 3 cs) = _ at e3
  rw [cells3] at e3
  have h4 := hall 4 _ rfl
  rw [List.getElem?_eq_getElem (by rw [hxl]; decide)] at h4
  obtain ⟨x4, e4, _, _⟩ := DataW.trod_int Try.underlying3 h4
  change List.take (Try.prog.cellsOf 3) (List.drop 4 cs) = _ at e4
  rw [cells3] at e4
  have h5 := hall 5 _ rfl
  rw [List.getElem?_eq_getElem (by rw [hxl]; decide)] at h5
  obtain ⟨x5, e5, _⟩ := DataW.trod_bool Try.underlying4 h5
  change List.take (Try.prog.cellsOf 4) (List.drop 5 cs) = _ at e5
  rw [cellsB] at e5
  have h6 := hall 6 _ rfl
  rw [List.getElem?_eq_getElem (by rw [hxl]; decide)] at h6
  obtain ⟨x6, e6, _⟩ := DataW.trod_bool Try.underlying4 h6
  change List.take (Try.prog.cellsOf 4) (List.drop 6 cs) = _ at e6
  rw [cellsB] at e6
  refine ⟨⟨x0, x1, x2, x3, x4, x5, x6⟩, ?_⟩
  have e : cs = List.drop 0 cs := rfl
  rw [e, seg_step e0, seg_step e1, seg_step e2, seg_step e3, seg_step e4, seg_step e5, seg_step e6, List.drop_of_length_le (by omega)]
  rfl

theorem maps_row {W : World} {n : Nat} {v : Value} {x : DataW H × List MemPlace} (h : DataW.trod enc Try.prog W 0 (fun _ => true) true n 34 [v] = some x) :
    ∃ (p : Option Addr) (cap : Nat) (xs : List Mp), v = .slice p xs.length cap ∧ MsAt W p xs ∧ xs.length ≤ cap ∧ cap ≤ maxLen ∧ (p = none → cap = 0) := by
  obtain ⟨p, cap, xs, hv, hc, h1, h2, h3⟩ := row_open Try.underlying34 cellsM (by decide) (fun y : Mp => (mpC y).toList) (fun _ => True) (fun _ _ => rfl) (fun n cs x h => by
    obtain ⟨m, hm⟩ := map_seg h
    exact ⟨m, trivial, hm⟩) h
  refine ⟨p, cap, xs, hv, fun j hj => ?_, h1, h2, h3⟩
  obtain ⟨b, off, hp, hb, hf, _⟩ := hc j hj
  exact ⟨b, off, hp, hb, fun f u hu => hf f u (by simpa using hu)⟩
set_option maxRecDepth 100000 in
theorem state_seg {W : World} {n : Nat} {cs : List Value} {x : DataW H × List MemPlace} (h : DataW.trod enc Try.prog W 0 (fun _ => true) true n 40 cs = some x) : ∃ st : List Int, st.length = 17 ∧ cs = st.map (Value.int .u64) := by
  obtain ⟨xs, n, _, _, hl, hxl, hall⟩ := DataW.trod_struct Try.underlying40 h
  rw [cellsSt] at hl
  have h0 := hall 0 _ rfl
  rw [List.getElem?_eq_getElem (by rw [hxl]; decide)] at h0
  obtain ⟨ys, m, _, _, _, hyl, hally⟩ := DataW.trod_array Try.underlying38 h0
  have hreg : ∀ i, i < 17 → ∃ k, cs[i]? = some (.int .u64 k) := by
    intro i hi
    by_cases h16 : i < 16
    · have h1 := hally i h16
      rw [List.getElem?_eq_getElem (by rw [hyl]; exact h16)] at h1
      obtain ⟨k, e0, _, hw⟩ := DataW.trod_int Try.underlying37 h1
      change List.take (Try.prog.cellsOf 37) (List.drop (i * Try.prog.cellsOf 37) (List.take (Try.prog.cellsOf 38) (List.drop 0 cs))) = _ at e0
      rw [cellsU, cellsA, List.drop_zero, Nat.mul_one] at e0
      refine ⟨k, ?_⟩
      have : (List.take 1 (List.drop i (List.take 16 cs)))[0]? = some (.int .u64 k) := by rw [e0]; rfl
      rw [List.getElem?_take_of_lt (by omega), List.getElem?_drop, List.getElem?_take_of_lt (by omega)] at this
      simpa using this
    · have h1 := hall 1 _ rfl
      rw [List.getElem?_eq_getElem (by rw [hxl]; decide)] at h1
      obtain ⟨pc, e1, _, hw1⟩ := DataW.trod_int Try.underlying37 h1
      change List.take (Try.prog.cellsOf 37) (List.drop 16 cs) = _ at e1
      rw [cellsU] at e1
      have h17 : i = 16 := by omega
      subst h17
      refine ⟨pc, ?_⟩
      have : (List.take 1 (List.drop 16 cs))[0]? = some (.int .u64 pc) := by rw [e1]; rfl
      rw [List.getElem?_take_of_lt (by omega), List.getElem?_drop] at this
      simpa using this
  obtain ⟨f, hf⟩ := Deep.choose_lt hreg
  refine ⟨(List.range 17).map f, by simp, ?_⟩
  apply List.ext_getElem?
  intro j
  by_cases hj : j < 17
  · rw [hf j hj]; simp [hj]
  · rw [List.getElem?_eq_none (by omega), List.getElem?_eq_none (by simp; omega)]

theorem ref_seg {W : World} {n : Nat} {cs : List Value} {x : DataW H × List MemPlace} (h : DataW.trod enc Try.prog W 0 (fun _ => true) true n 36 cs = some x) : ∃ a b : Int, cs = [.int .i64 a, .int .i64 b] := by
  obtain ⟨y0, y1, m, _, hl, g0, g1⟩ := trod_struct2 Try.underlying36 h
  rw [cells3] at g0 g1
  rw [cellsR] at hl
  obtain ⟨c, e0, _, _⟩ := DataW.trod_int Try.underlying3 g0
  obtain ⟨l, e1, _, _⟩ := DataW.trod_int Try.underlying3 g1
  match cs, hl with
  | [c0, c1], _ => simp at e0 e1; exact ⟨c, l, by rw [e0, e1]⟩
set_option maxRecDepth 100000 in
theorem info_seg {W : World} {n : Nat} {cs : List Value} {x : DataW H × List MemPlace} (h : DataW.trod enc Try.prog W 0 (fun _ => true) true n 33 cs = some x) :
    ∃ (a b c d e : Int) (L : Lab), cs = [.int .i64 a, .int .i64 b, .int .i64 c, .int .i64 d, .int .i64 e, .int .i64 L.d, .slice L.p L.xs.length L.cap] ∧ i64 a ∧ CatsAt W L.p L.xs ∧ L.xs.length ≤ L.cap ∧ L.xs.length ≤ maxLen ∧ (L.p = none → L.cap = 0) := by
  obtain ⟨xs, n, _, _, hl, hxl, hall⟩ := DataW.trod_struct Try.underlying33 h
  rw [cellsI] at hl
  have h0 := hall 0 _ rfl
  rw [List.getElem?_eq_getElem (by rw [hxl]; decide)] at h0
  obtain ⟨x0, e0, _, g0⟩ := DataW.trod_int Try.underlying3 h0
  change List.take (Try.prog.cellsOf 3) (List.drop 0 cs) = _ at e0
  rw [cells3] at e0
  have h1 := hall 1 _ rfl
  rw [List.getElem?_eq_getElem (by rw [hxl]; decide)] at h1
  obtain ⟨x1, e1, _, g1⟩ := DataW.trod_int Try.underlying3 h1
  change List.take (Try.prog.cellsOf 3) (List.drop 1 cs) = _ at e1
  rw [cells3] at e1
  have h2 := hall 2 _ rfl
  rw [List.getElem?_eq_getElem (by rw [hxl]; decide)] at h2
  obtain ⟨x2, e2, _, g2⟩ := DataW.trod_int Try.underlying3 h2
  change List.take (Try.prog.cellsOf 3) (List.drop 2 cs) = _ at e2
  rw [cells3] at e2
  have h3 := hall 3 _ rfl
  rw [List.getElem?_eq_getElem (by rw [hxl]; decide)] at h3
  obtain ⟨x3, e3, _, g3⟩ := DataW.trod_int Try.underlying3 h3
  change List.take (Try.prog.cellsOf 3) (List.drop 3 cs) = _ at e3
  rw [cells3] at e3
  have h4 := hall 4 _ rfl
  rw [List.getElem?_eq_getElem (by rw [hxl]; decide)] at h4
  obtain ⟨x4, e4, _, g4⟩ := DataW.trod_int Try.underlying3 h4
  change List.take (Try.prog.cellsOf 3) (List.drop 4 cs) = _ at e4
  rw [cells3] at e4
  have h5 := hall 5 _ rfl
  rw [List.getElem?_eq_getElem (by rw [hxl]; decide)] at h5
  obtain ⟨x5, e5, hc5, ha5, hb5, hn5⟩ := label_seg h5
  change List.take (Try.prog.cellsOf 25) (List.drop 5 cs) = _ at e5
  rw [cells24] at e5
  refine ⟨x0, x1, x2, x3, x4, x5, ?_, i64_range g0, hc5, ha5, hb5, hn5⟩
  have e : cs = List.drop 0 cs := rfl
  rw [e, seg_step e0, seg_step e1, seg_step e2, seg_step e3, seg_step e4, seg_step e5, List.drop_of_length_le (by omega)]
  rfl

set_option maxRecDepth 100000 in
set_option maxHeartbeats 1000000 in
theorem object_seg {W : World} {n : Nat} {cs : List Value} {x : DataW H × List MemPlace} (h : DataW.trod enc Try.prog W 0 (fun _ => true) true n 42 cs = some x) : ∃ o : Ob, ObOk W o ∧ cs = o.cl := by
  obtain ⟨xs, n, _, _, hl, hxl, hall⟩ := DataW.trod_struct Try.underlying42 h
  rw [cellsO] at hl
  have h0 := hall 0 _ rfl
  rw [List.getElem?_eq_getElem (by rw [hxl]; decide)] at h0
  obtain ⟨q0, q1, q2, q3, q4, LL, e0, gq, hcL, haL, hbL, hnL⟩ := info_seg h0
  change List.take (Try.prog.cellsOf 33) (List.drop 0 cs) = _ at e0
  rw [cellsI] at e0
  have h1 := hall 1 _ rfl
  rw [List.getElem?_eq_getElem (by rw [hxl]; decide)] at h1
  obtain ⟨w1, ew1⟩ : ∃ v, List.take 1 (List.drop 7 cs) = [v] := by
    cases hq : List.drop 7 cs with
    | nil => have := congrArg List.length hq; simp at this; omega
    | cons a r => exact ⟨a, rfl⟩
  change DataW.trod enc Try.prog W 0 (fun _ => true) true n 28 (List.take (Try.prog.cellsOf 28) (List.drop 7 cs)) = _ at h1
  rw [cellsIs, ew1] at h1
  obtain ⟨p1, c1, x1, ev1, hc1, hr1, ha1, hb1, hn1⟩ := ints_row h1
  have e1 := ew1
  rw [ev1] at e1
  have h2 := hall 2 _ rfl
  rw [List.getElem?_eq_getElem (by rw [hxl]; decide)] at h2
  obtain ⟨x2, e2, _, g2⟩ := DataW.trod_string Try.underlying9 h2
  change List.take (Try.prog.cellsOf 9) (List.drop 8 cs) = _ at e2
  rw [cellsS] at e2
  have h3 := hall 3 _ rfl
  rw [List.getElem?_eq_getElem (by rw [hxl]; decide)] at h3
  obtain ⟨w3, ew3⟩ : ∃ v, List.take 1 (List.drop 9 cs) = [v] := by
    cases hq : List.drop 9 cs with
    | nil => have := congrArg List.length hq; simp at this; omega
    | cons a r => exact ⟨a, rfl⟩
  change DataW.trod enc Try.prog W 0 (fun _ => true) true n 34 (List.take (Try.prog.cellsOf 34) (List.drop 9 cs)) = _ at h3
  rw [cellsMs, ew3] at h3
  obtain ⟨p3, c3, x3, ev3, hc3, ha3, hb3, hn3⟩ := maps_row h3
  have e3 := ew3
  rw [ev3] at e3
  have h4 := hall 4 _ rfl
  rw [List.getElem?_eq_getElem (by rw [hxl]; decide)] at h4
  obtain ⟨x4, e4, hc4, ha4, hb4, hn4⟩ := label_seg h4
  change List.take (Try.prog.cellsOf 25) (List.drop 10 cs) = _ at e4
  rw [cells24] at e4
  have h5 := hall 5 _ rfl
  rw [List.getElem?_eq_getElem (by rw [hxl]; decide)] at h5
  obtain ⟨x5, y5, e5⟩ := ref_seg h5
  change List.take (Try.prog.cellsOf 36) (List.drop 12 cs) = _ at e5
  rw [cellsR] at e5
  have h6 := hall 6 _ rfl
  rw [List.getElem?_eq_getElem (by rw [hxl]; decide)] at h6
  obtain ⟨x6, hl6, e6⟩ := state_seg h6
  change List.take (Try.prog.cellsOf 40) (List.drop 14 cs) = _ at e6
  rw [cellsSt] at e6
  have h7 := hall 7 _ rfl
  rw [List.getElem?_eq_getElem (by rw [hxl]; decide)] at h7
  obtain ⟨x7, e7, _, g7⟩ := DataW.trod_int Try.underlying37 h7
  change List.take (Try.prog.cellsOf 37) (List.drop 31 cs) = _ at e7
  rw [cellsU] at e7
  have h8 := hall 8 _ rfl
  rw [List.getElem?_eq_getElem (by rw [hxl]; decide)] at h8
  obtain ⟨x8, e8, _, g8⟩ := DataW.trod_int Try.underlying3 h8
  change List.take (Try.prog.cellsOf 3) (List.drop 32 cs) = _ at e8
  rw [cells3] at e8
  have h9 := hall 9 _ rfl
  rw [List.getElem?_eq_getElem (by rw [hxl]; decide)] at h9
  obtain ⟨x9, e9, _, g9⟩ := DataW.trod_int Try.underlying3 h9
  change List.take (Try.prog.cellsOf 3) (List.drop 33 cs) = _ at e9
  rw [cells3] at e9
  have h10 := hall 10 _ rfl
  rw [List.getElem?_eq_getElem (by rw [hxl]; decide)] at h10
  obtain ⟨x10, e10, _, g10⟩ := DataW.trod_int Try.underlying3 h10
  change List.take (Try.prog.cellsOf 3) (List.drop 34 cs) = _ at e10
  rw [cells3] at e10
  have h11 := hall 11 _ rfl
  rw [List.getElem?_eq_getElem (by rw [hxl]; decide)] at h11
  obtain ⟨w11, ew11⟩ : ∃ v, List.take 1 (List.drop 35 cs) = [v] := by
    cases hq : List.drop 35 cs with
    | nil => have := congrArg List.length hq; simp at this; omega
    | cons a r => exact ⟨a, rfl⟩
  change DataW.trod enc Try.prog W 0 (fun _ => true) true n 28 (List.take (Try.prog.cellsOf 28) (List.drop 35 cs)) = _ at h11
  rw [cellsIs, ew11] at h11
  obtain ⟨p11, c11, x11, ev11, hc11, hr11, ha11, hb11, hn11⟩ := ints_row h11
  have e11 := ew11
  rw [ev11] at e11
  have h12 := hall 12 _ rfl
  rw [List.getElem?_eq_getElem (by rw [hxl]; decide)] at h12
  obtain ⟨x12, e12, _, g12⟩ := DataW.trod_string Try.underlying9 h12
  change List.take (Try.prog.cellsOf 9) (List.drop 36 cs) = _ at e12
  rw [cellsS] at e12
  have h13 := hall 13 _ rfl
  rw [List.getElem?_eq_getElem (by rw [hxl]; decide)] at h13
  obtain ⟨x13, e13, _, g13⟩ := DataW.trod_string Try.underlying9 h13
  change List.take (Try.prog.cellsOf 9) (List.drop 37 cs) = _ at e13
  rw [cellsS] at e13
  refine ⟨⟨q0, q1, q2, q3, q4, LL, p1, c1, x1, x2, p3, c3, x3, x4, x5, y5, x6, x7, x8, x9, x10, p11, c11, x11, x12, x13⟩, ⟨hl6, hcL, hbL, hc1, Nat.le_trans ha1 hb1, hc3, Nat.le_trans ha3 hb3, hc4, hb4, hc11, Nat.le_trans ha11 hb11, gq, hr1, ⟨hnL, hn1, hn3, hn4, hn11⟩, ⟨haL, ha1, ha3, ha4, ha11⟩⟩, ?_⟩
  have e : cs = List.drop 0 cs := rfl
  rw [e, seg_step e0, seg_step e1, seg_step e2, seg_step e3, seg_step e4, seg_step e5, seg_step e6, seg_step e7, seg_step e8, seg_step e9, seg_step e10, seg_step e11, seg_step e12, seg_step e13, List.drop_of_length_le (by omega)]
  unfold Ob.cl Ob.hd Ob.tl
  simp only [List.cons_append, List.nil_append, List.append_nil]
instance : Inhabited Lab := ⟨⟨0, none, 0, []⟩⟩
instance : Inhabited Ob := ⟨⟨0, 0, 0, 0, 0, default, none, 0, [], ⟨#[]⟩, none, 0, [], default, 0, 0, [], 0, 0, 0, 0, none, 0, [], ⟨#[]⟩, ⟨#[]⟩⟩⟩
/-- A label that is handed in. -/
theorem lab_open {W : World} {r : Reach} {b0 : Nat} {v : Value} {d : DataW H} {ps : List MemPlace} (hv : Value.okWide Try.prog W r b0 25 v) (h : DataW.Trod enc Try.prog W 0 (fun _ => true) true 25 v d ps) :
    ∃ L : Lab, v = L.val ∧ CatsAt W L.p L.xs ∧ L.xs.length ≤ L.cap ∧ L.xs.length ≤ maxLen ∧ (L.p = none → L.cap = 0) := by
  obtain ⟨cs, rfl, hsz⟩ := okWide_struct Try.underlying25 hv
  obtain ⟨fuel, hf⟩ := h
  have hcs : (Value.agg cs).cells.toList = cs.toList := by simp [Value.cells]
  rw [hcs] at hf
  obtain ⟨L, e, r⟩ := label_seg hf
  exact ⟨L, by rw [show cs = #[.int .i64 L.d, .slice L.p L.xs.length L.cap] from Array.toList_inj.1 e]; rfl, r⟩
/-- An object that is handed in. -/
theorem ob_open {W : World} {r : Reach} {b0 : Nat} {v : Value} {d : DataW H} {ps : List MemPlace} (hv : Value.okWide Try.prog W r b0 42 v) (h : DataW.Trod enc Try.prog W 0 (fun _ => true) true 42 v d ps) :
    ∃ o : Ob, v = .agg o.cs ∧ ObOk W o := by
  obtain ⟨cs, rfl, hsz⟩ := okWide_struct Try.underlying42 hv
  obtain ⟨fuel, hf⟩ := h
  have hcs : (Value.agg cs).cells.toList = cs.toList := by simp [Value.cells]
  rw [hcs] at hf
  obtain ⟨o, ho, e⟩ := object_seg hf
  exact ⟨o, by rw [show cs = o.cs from Array.toList_inj.1 (by rw [e]; rfl)], ho⟩
/-- A row of objects that is handed in. -/
theorem obs_open {W : World} {r : Reach} {b0 : Nat} {v : Value} {d : DataW H} {ps : List MemPlace} (hv : Value.okWide Try.prog W r b0 22 v) (h : DataW.Trod enc Try.prog W 0 (fun _ => true) true 22 v d ps) :
    ∃ (p : Option Addr) (cap : Nat) (l : List Ob), v = .slice p l.length cap ∧ ObsAt W p l ∧ l.length ≤ cap ∧ cap ≤ maxLen ∧ (p = none → cap = 0) := by
  obtain ⟨a0, len0, cap0, rfl⟩ := okWide_slice Try.underlying22 hv
  obtain ⟨fuel, hf⟩ := h
  have hcs0 : (Value.slice a0 len0 cap0).cells.toList = [.slice a0 len0 cap0] := by simp [Value.cells]
  rw [hcs0] at hf
  obtain ⟨p, cap, xs, hv', hc, h1, h2, h3⟩ := row_open Try.underlying22 cellsO (by decide) Ob.cl (fun o => ObOk W o) (fun o ho => by simp [Ob.cl, Ob.hd, Ob.tl, ho.st]) (fun n cs x h => object_seg h) hf
  refine ⟨p, cap, xs, hv', fun j hj => ?_, h1, h2, h3⟩
  obtain ⟨b, off, hp, hb, hf', hok⟩ := hc j hj
  exact ⟨b, off, hp, hb, fun f u hu => hf' f u (by simpa [Ob.cs] using hu), hok⟩
end

/-- What a law owes: it answered true, and nothing old has turned. -/
theorem law_post {H : Type} {enc : TypeId × Value → H} {f : Func} {s : ChangeSpec} {W W' : World} {args : Array Value} {ds : List (DataW H)} {before : List MemPlace} (hres : f.resultTypes = #[4]) (hr : ∀ t ∈ f.params.toList, Try.prog.readableRec t = true ∧ t < Try.prog.types.size)
    (hv : s.vars = []) (hW : DataW.Whole enc Try.prog f.params.toList s.vars false W args.toList ds [] before) (hfr : (s.fn H (ds ++ [])).results = [.lit (.bool true)]) (hfa : (s.fn H (ds ++ [])).args = ds) (hfv : (s.fn H (ds ++ [])).vars = []) (hb : Below W.heap.size W W') :
    s.post enc Try.prog f false true false false W args (.bool true) W' := by
  have hlt := hW.lt
  have hW' := hW
  obtain ⟨p, q, hA, hV, rfl, _, _⟩ := hW
  have hq : q = [] := by rw [hv] at hV; exact (trodVars_none hV).2
  subst hq
  rw [List.append_nil] at hW' hlt
  have hold : ∀ x ∈ p, (fun b => decide (b < W.heap.size)) x.block = true := fun x hx => by simpa using hlt x hx
  refine ⟨ds, [], p, [], p, [], hW', ?_, ?_, ?_, hb.frame _, fun h => by cases h⟩
  · rw [hres, hfr]; exact trodAll_mk1 (shut_bool Try.underlying4 _)
  · rw [hfa]; exact all_stay hb hr hA hlt hold
  · rw [hfv, hv]; exact rfl
end Go.Proofs.Ytonhdkldacghoaa
