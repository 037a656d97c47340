/- Rows of objects that are handed in, and that memory bears copies of them. -/
import Derived.Test.YtonhdkldacghoaaOpenV
import Derived.Test.YtonhdkldacghoaaCop
namespace Go.Proofs.Ytonhdkldacghoaa
open Go.ChangeShapes Go.WideShapes Go.ChangeAt Go.RowKit

theorem bytesE : Try.prog.bytesOf 50 = 16 := by kernel_rfl
theorem bytesI : Try.prog.bytesOf 3 = 8 := by kernel_rfl
theorem bytesM : Try.prog.bytesOf 77 = 48 := by kernel_rfl
section
variable {H : Type} {enc : TypeId × Value → H}
def wok (t : TypeId) (x : DataW H) : Prop := (DataW.weights Try.prog t x).all (· ≤ reachBytes) = true
theorem each_wok : ∀ {ts : List TypeId} {ds : List (DataW H)}, (DataW.weightsEach Try.prog ts ds).all (· ≤ reachBytes) = true → ∀ (i : Nat) (t : TypeId) (d : DataW H), ts[i]? = some t → ds[i]? = some d → wok t d
  | [], _, _, i, t, d, h1, _ => by simp at h1
  | _ :: _, [], _, i, t, d, _, h2 => by simp at h2
  | a :: ts, b :: ds, h, i, t, d, h1, h2 => by
    rw [DataW.weightsEach, List.all_append, Bool.and_eq_true] at h
    cases i with
    | zero => simp at h1 h2; subst h1; subst h2; exact h.1
    | succ i => exact each_wok h.2 i t d (by simpa using h1) (by simpa using h2)
theorem all_wok {e : TypeId} : ∀ {ds : List (DataW H)}, (DataW.weightsAll Try.prog e ds).all (· ≤ reachBytes) = true → ∀ d ∈ ds, wok e d
  | [], _, d, hd => by cases hd
  | b :: ds, h, d, hd => by
    rw [DataW.weightsAll, List.all_append, Bool.and_eq_true] at h
    rcases List.mem_cons.1 hd with rfl | hd
    · exact h.1
    · exact all_wok h.2 d hd
theorem struct_wok {t : TypeId} {fs : Array Field} (hu : Try.prog.underlying t = some (.struct fs)) {parts : List (DataW H)} (h : wok t (.agg parts)) (i : Nat) (f : Field) (d : DataW H) (h1 : fs[i]? = some f) (h2 : parts[i]? = some d) : wok f.type d := by
  unfold wok at h
  rw [DataW.weights, hu] at h
  exact each_wok h i f.type d (by simp [h1]) h2
theorem slice_wok {t e : TypeId} (hu : Try.prog.underlying t = some (.slice e)) {a b : List (DataW H)} (h : wok t (.slice a b)) : ∀ d ∈ a, wok e d := by
  unfold wok at h
  rw [DataW.weights, hu] at h
  simp only [List.all_cons, List.all_append, Bool.and_eq_true] at h
  exact all_wok h.2.1
theorem slice_fit {W : World} {t e : TypeId} {b n : Nat} {p : Option Addr} {len cap : Nat} {x : DataW H × List MemPlace} (hu : Try.prog.underlying t = some (.slice e)) (hb : Try.prog.bytesOf e = b)
    (h : DataW.trod enc Try.prog W 0 (fun _ => true) true n t [.slice p len cap] = some x) (hw : wok t x.1) : len * b ≤ 140737488351232 := by
  rcases Deep.open_slice hu h with ⟨hcs, _⟩ | ⟨a, len', cap', m, q, D, Pl, hcs, _, _, _, _, hxe, _⟩
  · simp only [List.cons.injEq, Value.slice.injEq, and_true] at hcs
    rw [hcs.2.1]; omega
  · simp only [List.cons.injEq, Value.slice.injEq, and_true] at hcs
    obtain ⟨_, rfl, _⟩ := hcs
    rw [hxe] at hw
    unfold wok at hw
    rw [DataW.weights, hu] at hw
    simp only [List.all_cons, Bool.and_eq_true, decide_eq_true_eq, List.length_map, List.length_range, hb] at hw
    have h1 := hw.1
    unfold reachBytes at h1
    have h2 : len * b ≤ (len + (m - len)) * b := Nat.mul_le_mul_right _ (by omega)
    omega
set_option maxRecDepth 100000 in
theorem label_fit {W : World} {n : Nat} {cs : List Value} {x : DataW H × List MemPlace} (h : DataW.trod enc Try.prog W 0 (fun _ => true) true n 25 cs = some x) (hw : wok 25 x.1) {p : Option Addr} {len cap : Nat} (hc : cs[1]? = some (.slice p len cap)) : len * 16 ≤ 140737488355328 := by
  obtain ⟨y0, y1, m, rfl, hl, g0, g1⟩ := trod_struct2 Try.underlying25 h
  have hw1 : wok 23 y1.1 := struct_wok Try.underlying25 hw 1 _ _ rfl rfl
  rw [cells24] at hl
  rw [cells22] at g1
  match cs, hl with
  | [c0, c1], _ =>
    simp at hc
    have g1' : DataW.trod enc Try.prog W 0 (fun _ => true) true m 23 [c1] = some y1 := by simpa using g1
    rw [hc] at g1'
    have := slice_fit Try.underlying23 bytesE g1' hw1
    omega
theorem take1 {l : List Value} {i : Nat} {v : Value} (h : l[i]? = some v) : List.take 1 (List.drop i l) = [v] := by
  obtain ⟨hi, rfl⟩ := List.getElem?_eq_some_iff.1 h
  rw [List.drop_eq_getElem_cons hi]; rfl
set_option maxRecDepth 100000 in
theorem object_fit {W : World} {n : Nat} {o : Ob} {x : DataW H × List MemPlace} (hst : o.st.length = 17) (h : DataW.trod enc Try.prog W 0 (fun _ => true) true n 42 o.cl = some x) (hw : wok 42 x.1) : o.Fits := by
  obtain ⟨xs, n, _, rfl, hl, hxl, hall⟩ := DataW.trod_struct Try.underlying42 h
  have hd : ∀ i, i < 14 → o.cl[i]? = o.hd[i]? := fun i hi => by have := Ob.head o i hi; simpa [Ob.cs] using this
  have ht : ∀ i, o.cl[31 + i]? = o.tl[i]? := fun i => by have := Ob.tail o hst i; simpa [Ob.cs] using this
  have hwi : ∀ (i : Nat) (hi : i < xs.length) (f : Field), _ → wok f.type xs[i].1 := fun i hi f hf => struct_wok Try.underlying42 hw i f _ hf (by simp [hi])
  have h0 := hall 0 _ rfl
  rw [List.getElem?_eq_getElem (by rw [hxl]; decide)] at h0
  have h1 := hall 1 _ rfl
  rw [List.getElem?_eq_getElem (by rw [hxl]; decide)] at h1
  have h3 := hall 3 _ rfl
  rw [List.getElem?_eq_getElem (by rw [hxl]; decide)] at h3
  have h4 := hall 4 _ rfl
  rw [List.getElem?_eq_getElem (by rw [hxl]; decide)] at h4
  have h11 := hall 11 _ rfl
  rw [List.getElem?_eq_getElem (by rw [hxl]; decide)] at h11
  have w0 := hwi 0 (by rw [hxl]; decide) _ rfl
  have w1 := hwi 1 (by rw [hxl]; decide) _ rfl
  have w3 := hwi 3 (by rw [hxl]; decide) _ rfl
  have w4 := hwi 4 (by rw [hxl]; decide) _ rfl
  have w11 := hwi 11 (by rw [hxl]; decide) _ rfl
  change DataW.trod enc Try.prog W 0 (fun _ => true) true n 33 (List.take (Try.prog.cellsOf 33) (List.drop 0 o.cl)) = _ at h0
  change DataW.trod enc Try.prog W 0 (fun _ => true) true n 28 (List.take (Try.prog.cellsOf 28) (List.drop 7 o.cl)) = _ at h1
  change DataW.trod enc Try.prog W 0 (fun _ => true) true n 34 (List.take (Try.prog.cellsOf 34) (List.drop 9 o.cl)) = _ at h3
  change DataW.trod enc Try.prog W 0 (fun _ => true) true n 25 (List.take (Try.prog.cellsOf 25) (List.drop 10 o.cl)) = _ at h4
  change DataW.trod enc Try.prog W 0 (fun _ => true) true n 28 (List.take (Try.prog.cellsOf 28) (List.drop 35 o.cl)) = _ at h11
  rw [cellsIs, take1 (v := .slice o.lp o.ls.length o.lc) (by rw [hd _ (by decide)]; rfl)] at h1
  rw [cellsMs, take1 (v := .slice o.mp o.ms.length o.mc) (by rw [hd _ (by decide)]; rfl)] at h3
  rw [cellsIs, take1 (v := .slice o.ap o.al.length o.ac) (by rw [show 35 = 31 + 4 from rfl, ht]; rfl)] at h11
  rw [cells24] at h4
  rw [cellsI] at h0
  have f1 := slice_fit Try.underlying28 bytesI h1 w1
  have f3 := slice_fit Try.underlying34 bytesM h3 w3
  have f11 := slice_fit Try.underlying28 bytesI h11 w11
  have f4 := label_fit h4 w4 (p := o.C.p) (len := o.C.xs.length) (cap := o.C.cap) (by rw [List.getElem?_take_of_lt (by decide), List.getElem?_drop, hd _ (by decide)]; rfl)
  obtain ⟨ys, m, _, hy, _, hyl, hally⟩ := DataW.trod_struct Try.underlying33 h0
  have g5 := hally 5 _ rfl
  rw [List.getElem?_eq_getElem (by rw [hyl]; decide)] at g5
  change DataW.trod enc Try.prog W 0 (fun _ => true) true m 25 (List.take (Try.prog.cellsOf 25) (List.drop 5 (List.take 7 (List.drop 0 o.cl)))) = _ at g5
  rw [cells24] at g5
  have w5 : wok 25 (ys[5]'(by rw [hyl]; decide)).1 := by
    rw [hy] at w0
    exact struct_wok Try.underlying33 w0 5 _ _ rfl (by simp [hyl])
  have f0 := label_fit g5 w5 (p := o.L.p) (len := o.L.xs.length) (cap := o.L.cap) (by rw [List.getElem?_take_of_lt (by decide), List.getElem?_drop, List.getElem?_take_of_lt (by decide), List.drop_zero, hd _ (by decide)]; rfl)
  exact ⟨f0, by omega, by omega, f4, by omega⟩
/-- A row of any elements that is handed in, by what one element is and weighs. -/
theorem row_openW {α : Type} [Inhabited α] {W : World} {t e : TypeId} {k : Nat} (hu : Try.prog.underlying t = some (.slice e)) (hk : Try.prog.cellsOf e = k) (hpos : 0 < k) (C : α → List Value) (OK : α → Prop)
    (hC : ∀ y, OK y → (C y).length = k) (ho : ∀ (n : Nat) (cs : List Value) (x : DataW H × List MemPlace), DataW.trod enc Try.prog W 0 (fun _ => true) true n e cs = some x → wok e x.1 → ∃ y, OK y ∧ cs = C y)
    {n : Nat} {v : Value} {x : DataW H × List MemPlace} (h : DataW.trod enc Try.prog W 0 (fun _ => true) true n t [v] = some x) (hw : wok t x.1) :
    ∃ (p : Option Addr) (cap : Nat) (xs : List α), v = .slice p xs.length cap ∧ (∀ j (hj : j < xs.length), ∃ b off, p = some ⟨b, off, none⟩ ∧ b < W.heap.size ∧ (∀ f u, (C xs[j])[f]? = some u → W.cell? ⟨b, off + j * k + f, none⟩ = some u) ∧ OK xs[j]) ∧ xs.length ≤ cap ∧ cap ≤ maxLen ∧ (p = none → cap = 0) := by
  rcases Deep.open_slice hu h with ⟨hcs, _⟩ | ⟨a, len, cap, m, q, D, Pl, hcs, hb, hl, hm, hmm, hxe, hx⟩
  · simp only [List.cons.injEq, and_true] at hcs
    exact ⟨none, 0, [], hcs, fun j hj => by simp at hj, by simp, by unfold maxLen; omega, fun _ => rfl⟩
  · simp only [List.cons.injEq, and_true] at hcs
    rw [if_pos rfl] at hmm
    subst hmm
    rw [hk] at hx
    have hwD : ∀ i, i < len → wok e (D i) := fun i hi => by
      rw [hxe] at hw
      exact slice_wok hu hw (D i) (List.mem_map.2 ⟨i, List.mem_range.2 hi, rfl⟩)
    have hcell : ∀ i, i < len → ∃ y : α, OK y ∧ ∀ f u, (C y)[f]? = some u → W.cell? ((a.add (i * k)).add f) = some u := fun i hi => by
      obtain ⟨cs', h1, h2⟩ := hx i (by omega)
      obtain ⟨y, hy, rfl⟩ := ho _ _ _ h2 (hwD i hi)
      obtain ⟨_, hlen, hcell⟩ := World.cells?_some h1
      refine ⟨y, hy, fun f u hu => ?_⟩
      have hf : f < k := by rw [← hC y hy]; exact (List.getElem?_eq_some_iff.1 hu).1
      rw [hcell f hf]; exact hu
    obtain ⟨f, hf⟩ := Deep.choose_lt hcell
    refine ⟨some a, m, (List.range len).map f, by simpa using hcs, ?_, by simpa using hl, hm, fun h => by cases h⟩
    intro j hj
    have hj' : j < len := by simpa using hj
    obtain ⟨hok, hc⟩ := hf j hj'
    have ha : a = ⟨a.block, a.off, none⟩ := by
      obtain ⟨ok0, hc0⟩ := hf 0 (by omega)
      have hlt : 0 < (C (f 0)).length := by rw [hC _ ok0]; exact hpos
      have hs := spot_none (hc0 0 (C (f 0))[0] (List.getElem?_eq_getElem hlt))
      simpa [Addr.add] using hs
    have hblk : a.block < W.heap.size := by
      obtain ⟨cs', h1, _⟩ := hx j (by omega)
      have := World.cells?_block h1 hpos
      obtain ⟨b, o, s⟩ := a
      simp only [Addr.add] at this
      split at this <;> simpa using this
    refine ⟨a.block, a.off, by rw [← ha], hblk, fun q u hu => ?_, by simpa using hok⟩
    have := hc q u (by simpa using hu)
    rw [ha, addr_at, addr_at] at this
    exact this
/-- A row of objects that is handed in. -/
theorem obs_openW {W : World} {r : Go.Reach} {b0 : Nat} {v : Value} {d : DataW H} {ps : List MemPlace} (hv : Value.okWide Try.prog W r b0 22 v) (h : DataW.Trod enc Try.prog W 0 (fun _ => true) true 22 v d ps) (hw : wok 22 d) :
    ∃ (p : Option Addr) (cap : Nat) (l : List Ob), v = .slice p l.length cap ∧ ObsAt W p l ∧ (∀ o ∈ l, o.Fits) ∧ l.length ≤ cap ∧ cap ≤ maxLen ∧ (p = none → cap = 0) := by
  obtain ⟨a0, len0, cap0, rfl⟩ := okWide_slice Try.underlying22 hv
  obtain ⟨fuel, hf⟩ := h
  have hcs0 : (Value.slice a0 len0 cap0).cells.toList = [.slice a0 len0 cap0] := by simp [Value.cells]
  rw [hcs0] at hf
  obtain ⟨p, cap, xs, hv', hc, h1, h2, h3⟩ := row_openW Try.underlying22 cellsO (by decide) Ob.cl (fun o => ObOk W o ∧ o.Fits) (fun o ho => by simp [Ob.cl, Ob.hd, Ob.tl, ho.1.st]) (fun n cs x h hwx => by
    obtain ⟨o, ho, rfl⟩ := object_seg h
    exact ⟨o, ⟨ho, object_fit ho.st h hwx⟩, rfl⟩) hf hw
  refine ⟨p, cap, xs, hv', fun j hj => ?_, fun o ho => ?_, h1, h2, h3⟩
  · obtain ⟨b, off, hp, hb, hf', hok⟩ := hc j hj
    exact ⟨b, off, hp, hb, fun f u hu => hf' f u (by simpa [Ob.cs] using hu), hok.1⟩
  · obtain ⟨j, hj, rfl⟩ := List.getElem_of_mem ho
    obtain ⟨_, _, _, _, _, hok⟩ := hc j hj
    exact hok.2
end
end Go.Proofs.Ytonhdkldacghoaa
