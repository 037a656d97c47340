/- What Put of package dir answers. -/
import Derived.Test.YthifejdphflfpaaDoorPlace
import Derived.Test.YthifejdphflfpaaDoorMonoT
namespace Go.Proofs.YthifejdphflfpaaDoor
open Go.RowKit Go.Sort
/-- The list with an entry where its name stands. -/
def insL (l : List Nm) (n : Nm) : List Nm := l.takeWhile (fun m => ltB m.nm n.nm) ++ n :: l.dropWhile (fun m => ltB m.nm n.nm)
def inB (l : List Nm) (x : ByteArray) : Bool := l.any fun m => m.nm.toList == x.toList
def putE (l : List Nm) (n : Nm) : Int := if rightL l = false then 2 else if goodN n = false then 31 else if inB l n.nm = true then 21 else if rightL (insL l n) = false then 27 else 0
def putL (l : List Nm) (n : Nm) : List Nm := if putE l n = 0 then insL l n else []
theorem take_spot : ∀ (l : List Nm) (x : ByteArray) (i : Nat), Spot l x i → l.takeWhile (fun m => ltB m.nm x) = l.take i ∧ l.dropWhile (fun m => ltB m.nm x) = l.drop i
  | [], x, i, h => by simp
  | m :: l, x, 0, h => by
    have := h.2.2 0 (by simp) (Nat.le_refl _)
    simp only [List.getElem_cons_zero] at this
    simp [this]
  | m :: l, x, i + 1, h => by
    have h0 := h.2.1 0 (by simp) (by omega)
    simp only [List.getElem_cons_zero] at h0
    obtain ⟨h1, h2⟩ := take_spot l x i ⟨by have := h.1; simpa using this, fun a ha hai => by have := h.2.1 (a + 1) (by simpa using ha) (by omega); simpa using this, fun a ha hai => by have := h.2.2 (a + 1) (by simpa using ha) (by omega); simpa using this⟩
    simp [h0, h1, h2]
theorem there_in (l : List Nm) (x : ByteArray) (i : Nat) (hr : rightL l = true) (h : Spot l x i) : thereB l x i = inB l x := by
  unfold thereB inB
  by_cases hi : i < l.length
  · rw [List.getElem?_eq_getElem hi]
    show (l[i].nm.toList == x.toList) = _
    cases ht : (l[i].nm.toList == x.toList)
    · symm
      rw [List.any_eq_false]
      intro m hm
      obtain ⟨a, ha, rfl⟩ := List.getElem_of_mem hm
      intro he
      have he' : l[a].nm.toList = x.toList := by simpa using he
      rcases Nat.lt_trichotomy a i with h1 | h1 | h1
      · have := h.2.1 a ha h1; unfold ltB at this; rw [he', bl_irr] at this; cases this
      · subst h1; rw [he'] at ht; simp at ht
      · have h2 := (rk_rise l 0 ⟨#[]⟩ hr i hi).2.2 a ha h1
        have h3 := h.2.2 i hi (Nat.le_refl _)
        unfold ltB at h2 h3; rw [he'] at h2; rw [h2] at h3; cases h3
    · symm
      rw [List.any_eq_true]
      exact ⟨l[i], List.getElem_mem hi, ht⟩
  · rw [List.getElem?_eq_none (by omega)]
    symm
    rw [List.any_eq_false]
    intro m hm
    obtain ⟨a, ha, rfl⟩ := List.getElem_of_mem hm
    intro he
    have he' : l[a].nm.toList = x.toList := by simpa using he
    have := h.2.1 a ha (by omega)
    unfold ltB at this; rw [he', bl_irr] at this; cases this
theorem sum_ge (l : List Nm) : (l.length : Int) * 10 ≤ sizeL l := by
  unfold sizeL
  induction l with
  | nil => simp
  | cons m l ih => simp only [List.map_cons, List.sum_cons, List.length_cons]; omega
theorem right_len {l : List Nm} (h : rightL l = true) : l.length ≤ 409 := by
  unfold rightL at h
  rw [rk_eq l 0 _ (by omega)] at h
  simp only [Bool.and_eq_true, decide_eq_true_eq] at h
  have := sum_ge l
  omega
theorem yielded_of {l : List Oper} {a' : Act} {j d : Nat} {b : Bool} {n : Nat} (hs : a'.tmps.size = n) (hd : (l[j]?).bind (·.dst) = some d) (hn : d < n) (hv : a'.eval (.tmp d) = .bool b) : yielded l.toArray a'.tmps j = some b := by
  unfold yielded
  simp only [List.getElem?_toArray]
  rw [hd]
  simp only [Option.bind_some]
  have hlt : d < a'.tmps.size := by omega
  simp only [Act.eval, Array.getD_eq_getD_getElem?, Array.getElem?_eq_getElem hlt, Option.getD_some] at hv
  rw [Array.getElem?_eq_getElem hlt, hv]
theorem want_yes {l : List Oper} {o : Oper} {a' : Act} {j d : Nat} {b : Bool} {n : Nat} (ho : o.guard = some (j, b)) (hs : a'.tmps.size = n) (hn : d < n) (hd : (l[j]?).bind (·.dst) = some d) (hv : a'.eval (.tmp d) = .bool b) : Region.wanted o (yielded l.toArray a'.tmps) = true := by
  unfold Region.wanted
  rw [ho]
  simp only
  rw [yielded_of hs hd hn hv]
  simp
theorem exec_call1 {o : Oper} {ev : Operand → Value} {f : Nat} {x0 : Operand} {ts : Array TypeId} {v0 : Value} {w : World} (ho : o.op = .call { callee := .value (.func f), args := #[x0], argTypes := ts }) (hf : ev (.func f) = .func (.func f) #[] #[]) (h0 : ev x0 = v0) (eg : ∀ args w, (callFunc f args).run Tryd.prog w = .ok (.enter f args) w) : (execOp ev o).run Tryd.prog w = .ok (.enter f #[v0]) w := by
  unfold execOp
  simp [ho, resolve, invoke, hf, h0, eg, go_sem]
theorem exec_call2 {o : Oper} {ev : Operand → Value} {f : Nat} {x0 x1 : Operand} {ts : Array TypeId} {v0 v1 : Value} {w : World} (ho : o.op = .call { callee := .value (.func f), args := #[x0, x1], argTypes := ts }) (hf : ev (.func f) = .func (.func f) #[] #[]) (h0 : ev x0 = v0) (h1 : ev x1 = v1) (eg : ∀ args w, (callFunc f args).run Tryd.prog w = .ok (.enter f args) w) : (execOp ev o).run Tryd.prog w = .ok (.enter f #[v0, v1]) w := by
  unfold execOp
  simp [ho, resolve, invoke, hf, h0, h1, eg, go_sem]
theorem exec_call3 {o : Oper} {ev : Operand → Value} {f : Nat} {x0 x1 x2 : Operand} {ts : Array TypeId} {v0 v1 v2 : Value} {w : World} (ho : o.op = .call { callee := .value (.func f), args := #[x0, x1, x2], argTypes := ts }) (hf : ev (.func f) = .func (.func f) #[] #[]) (h0 : ev x0 = v0) (h1 : ev x1 = v1) (h2 : ev x2 = v2) (eg : ∀ args w, (callFunc f args).run Tryd.prog w = .ok (.enter f args) w) : (execOp ev o).run Tryd.prog w = .ok (.enter f #[v0, v1, v2]) w := by
  unfold execOp
  simp [ho, resolve, invoke, hf, h0, h1, h2, eg, go_sem]
theorem exec_call4 {o : Oper} {ev : Operand → Value} {f : Nat} {x0 x1 x2 x3 : Operand} {ts : Array TypeId} {v0 v1 v2 v3 : Value} {w : World} (ho : o.op = .call { callee := .value (.func f), args := #[x0, x1, x2, x3], argTypes := ts }) (hf : ev (.func f) = .func (.func f) #[] #[]) (h0 : ev x0 = v0) (h1 : ev x1 = v1) (h2 : ev x2 = v2) (h3 : ev x3 = v3) (eg : ∀ args w, (callFunc f args).run Tryd.prog w = .ok (.enter f args) w) : (execOp ev o).run Tryd.prog w = .ok (.enter f #[v0, v1, v2, v3]) w := by
  unfold execOp
  simp [ho, resolve, invoke, hf, h0, h1, h2, h3, eg, go_sem]
/-- A value that holds one entry; three slices in a row; a row of entries of one's own. -/
def OneP (m : Nm) (v : Value) (W : World) : Prop := Src W v [m]
def TriP (a c : Value) (m : Nm) (v : Value) (W : World) : Prop := ∃ b v2, v = .slice (some ⟨b, 0, none⟩) 3 3 ∧ b < W.heap.size ∧ W.cell? ⟨b, 0, none⟩ = some a ∧ W.cell? ⟨b, 1, none⟩ = some v2 ∧ W.cell? ⟨b, 2, none⟩ = some c ∧ Src W v2 [m]
def OwnP (B : Nat) (l : List Nm) (v : Value) (W : World) : Prop := W.ownsRow B 25 3 v l.length (flat l)
theorem TriP.mono {a c : Value} {m : Nm} {v : Value} {W W' : World} (h : TriP a c m v W) (hb : Below W.heap.size W W') : TriP a c m v W' := by
  obtain ⟨b, v2, h1, h2, h3, h4, h5, h6⟩ := h
  exact ⟨b, v2, h1, Nat.lt_of_lt_of_le h2 hb.size, (hb.cell (p := ⟨b, 0, none⟩) h2).trans h3, (hb.cell (p := ⟨b, 1, none⟩) h2).trans h4, (hb.cell (p := ⟨b, 2, none⟩) h2).trans h5, h6.below hb⟩
theorem OwnP.mono {B : Nat} {l : List Nm} {v : Value} {W W' : World} (h : OwnP B l v W) (hb : Below W.heap.size W W') : OwnP B l v W' :=
  row_same h fun k hk => hb.block k (World.ownsRow.lt h k hk).2
set_option maxRecDepth 100000 in
set_option maxHeartbeats 2000000 in
theorem Put_any (p : Option Addr) (cap : Nat) (l : List Nm) (m : Nm) (w : World) (hR : RAt w p cap l) :
    Calls Tryd.prog 10 #[.slice p l.length cap, nmV m] w fun e w' => ∃ v, e = .returned (.tuple #[v, .int .i64 (putE l m)]) ∧ w'.ownsRow w.heap.size 25 3 v (putL l m).length (flat (putL l m)) ∧ Below w.heap.size w w' := by
  unfold nmV
  have hlen : l.length ≤ maxLen := Nat.le_trans hR.len hR.top
  have hB1 : Below w.heap.size w (w.alloc (nmB m)) := (Below.refl _ _).alloc (Nat.le_refl _) _
  have HRT := Lib.hid (Right_any p cap l (w.alloc (nmB m)) hlen (hR.row.below hB1))
  cases hr : rightL l
  · rw [hr] at HRT
    have he : putE l m = 2 := by unfold putE; rw [if_pos hr]
    have hp : putL l m = [] := by unfold putL; rw [he]; rfl
    rw [he, hp]
    clear he hp
    go_enter Tryd.func10, Tryd.ntmps10
    go_wp2_with (go_at_call 12; refine HRT.out.mono ?_; rintro e w1 ⟨rfl, hb1⟩)
    go_ret2
    exact ⟨_, rfl, World.ownsRow_nil _ _ _ _, (NmAt.fresh hb1).2.2⟩
  · rw [hr] at HRT
    have hl4 := right_len hr
    cases hg : goodN m
    · have HE := Lib.hid (rightEntry_any m)
      rw [hg] at HE
      have he : putE l m = 31 := by unfold putE; rw [if_neg (by simp [hr]), if_pos hg]
      have hp : putL l m = [] := by unfold putL; rw [he]; rfl
      rw [he, hp]
      clear he hp
      go_enter Tryd.func10, Tryd.ntmps10
      go_wp2_with (first
        | (go_at_call 12; refine HRT.out.mono ?_; rintro e w1 ⟨rfl, hb1⟩; obtain ⟨⟨c0, c1, c2⟩, c3, hb2⟩ := NmAt.fresh hb1; have HB1 := Lib.hid hb2; clear hb1 hb2)
        | (go_at_call 28; refine (HE.out _).mono ?_; rintro e w2 ⟨rfl, hb2⟩; have HB2 := Lib.hid (HB1.out.trans (hb2.mono HB1.out.size)); clear hb2))
      go_ret2
      exact ⟨_, rfl, World.ownsRow_nil _ _ _ _, HB2.out⟩
    · have HE := Lib.hid (rightEntry_any m)
      rw [hg] at HE
      have HPl : Hid (∀ w1, Below w.heap.size w w1 → Calls Tryd.prog 29 #[.slice p l.length cap, .string m.nm] w1 fun e w' => (∃ i : Nat, Spot l m.nm i ∧ e = .returned (.tuple #[.int .i64 i, .bool (inB l m.nm)])) ∧ Below w1.heap.size w1 w') := fun w1 h1 =>
        (place_any p cap l m.nm w1 (by omega) (hR.row.below h1) hr).mono fun e w' ⟨⟨i, h2, h3⟩, h4⟩ => ⟨⟨i, h2, by rw [h3, there_in l m.nm i hr h2]⟩, h4⟩
      cases hin : inB l m.nm
      · rw [hin] at HPl
        go_enter Tryd.func10, Tryd.ntmps10
        go_wp2_with (first
          | (go_at_call 12; refine HRT.out.mono ?_; rintro e w1 ⟨rfl, hb1⟩; obtain ⟨⟨c0, c1, c2⟩, c3, hb2⟩ := NmAt.fresh hb1; have HB1 := Lib.hid hb2; clear hb1 hb2)
          | (go_at_call 28; refine (HE.out _).mono ?_; rintro e w2 ⟨rfl, hb2⟩; obtain ⟨d0, d1, d2⟩ := NmAt.below (B := w1.heap.size) (o := 0) ⟨c0, c1, c2⟩ hb2 c3; have d3 : w.heap.size < w2.heap.size := Nat.lt_of_lt_of_le c3 hb2.size; have HB2 := Lib.hid (HB1.out.trans (hb2.mono HB1.out.size)); clear hb2)
          | (go_at_call 29; refine (HPl.out _ HB2.out).mono ?_; rintro e w3 ⟨⟨ix, hi, rfl⟩, hb3⟩; have HS := Lib.hid hi; have HN := Lib.hid (NmAt.below (B := w2.heap.size) (o := 0) ⟨d0, d1, d2⟩ hb3 d3); have f3 : w.heap.size < w3.heap.size := Nat.lt_of_lt_of_le d3 hb3.size; have HB3 := Lib.hid (HB2.out.trans (hb3.mono HB2.out.size)); clear hb3 hi))
        have hi := HS.out.1
        have hsp := take_spot l m.nm ix HS.out
        have hins : l.take ix ++ m :: l.drop ix = insL l m := by unfold insL; rw [hsp.1, hsp.2]
        have hic : ix ≤ cap := Nat.le_trans hi hR.len
        have HCC : Hid (∀ X v, Below w3.heap.size w3 X → TriP (.slice p ix cap) (.slice (dropP p cap ix) (l.length - ix) (cap - ix)) m v X → Calls Tryd.prog 30 #[v] X fun e w' => ∃ v, e = .returned v ∧ Below X.heap.size X w' ∧ OwnP w.heap.size (insL l m) v w') := by
          intro X v hX ⟨b, v2, h1, h2, h3, h4, h5, h6⟩
          subst h1
          have hRX := hR.below (HB3.out.trans (hX.mono HB3.out.size))
          refine (Concat_any b 3 [(.slice p ix cap, l.take ix), (v2, [m]), (.slice (dropP p cap ix) (l.length - ix) (cap - ix), l.drop ix)] X ?_ (by simp) h2 ?_ ?_).mono ?_
          · show (l.take ix ++ ([m] ++ (l.drop ix ++ []))).length < 1000000
            simp; omega
          · intro k hk
            match k, hk with
            | 0, _ => exact h3
            | 1, _ => exact h4
            | 2, _ => exact h5
          · intro x hx
            simp only [List.mem_cons, List.not_mem_nil, or_false] at hx
            rcases hx with rfl | rfl | rfl
            · exact hRX.src_take hi
            · exact h6
            · exact hRX.src_drop hi
          · rintro e w' ⟨v, rfl, ho, hb⟩
            refine ⟨v, rfl, hb, ?_⟩
            have hcat : cat [(.slice p ix cap, l.take ix), (v2, [m]), (.slice (dropP p cap ix) (l.length - ix) (cap - ix), l.drop ix)] = insL l m := by
              rw [← hins]; simp [cat]
            rw [hcat] at ho
            exact row_mono ho (Nat.le_trans HB3.out.size hX.size)
        have HNm : Hid (∀ X, Below w3.heap.size w3 X → NmAt X w.heap.size 0 m ∧ w.heap.size < X.heap.size) := fun X hX => ⟨HN.out.below hX f3, Nat.lt_of_lt_of_le f3 hX.size⟩
        clear hsp hins
        refine wp_region_monoT 6 11 (fun kq uq Xq => match kq with | 23 => uq = .slice p l.length cap | 24 => uq = .int .i64 ix | 25 => uq = .slice p ix cap | 26 => uq = .agg #[.string m.nm, .int .i64 m.kd, .int .i64 m.id] | 27 => OneP m (uq) Xq | 28 => uq = .slice p l.length cap | 29 => uq = .int .i64 ix | 30 => uq = .slice (dropP p cap ix) (l.length - ix) (cap - ix) | 31 => TriP (.slice p ix cap) (.slice (dropP p cap ix) (l.length - ix) (cap - ix)) m (uq) Xq | 32 => OwnP w.heap.size (insL l m) (uq) Xq | 8 => OwnP w.heap.size (insL l m) (uq) Xq | _ => True) (by kernel_rfl) (by kernel_rfl) (by kernel_rfl) (by kernel_rfl) (by simp) (by kernel_rfl) ?_ ?_ ?_
        · intro kq v W W' h hb
          revert h
          try dsimp only
          split
          · intro h; exact h
          · intro h; exact h
          · intro h; exact h
          · intro h; exact h
          · intro h; exact Src.below h hb
          · intro h; exact h
          · intro h; exact h
          · intro h; exact h
          · intro h; exact TriP.mono h hb
          · intro h; exact OwnP.mono h hb
          · intro h; exact OwnP.mono h hb
          · intro h; trivial
        · intro a' X hB hs hk i o d ho hd hG
          match i, ho with
          | 0, ho =>
            obtain rfl : _ = o := Option.some.inj ho
            obtain rfl : 23 = d := Option.some.inj hd
            have g0 : a'.eval (.tmp 0) = .slice p l.length cap := hk 0 (by kernel_rfl)
            obtain ⟨ev, hev⟩ : ∃ ev, a'.eval = ev := ⟨_, rfl⟩
            rw [hev] at g0 ⊢
            clear hev hG hk
            exact .inr ⟨rfl, .inl ⟨.slice p l.length cap, X, by clear hs; go_simp, Below.refl _ _, rfl⟩⟩
          | 1, ho =>
            obtain rfl : _ = o := Option.some.inj ho
            obtain rfl : 24 = d := Option.some.inj hd
            have g6 : a'.eval (.tmp 6) = .int .i64 ix := hk 6 (by kernel_rfl)
            obtain ⟨ev, hev⟩ : ∃ ev, a'.eval = ev := ⟨_, rfl⟩
            rw [hev] at g6 ⊢
            clear hev hG hk
            exact .inr ⟨rfl, .inl ⟨.int .i64 ix, X, by clear hs; go_simp, Below.refl _ _, rfl⟩⟩
          | 2, ho =>
            obtain rfl : _ = o := Option.some.inj ho
            obtain rfl : 25 = d := Option.some.inj hd
            have g23 : a'.eval (.tmp 23) = .slice p l.length cap := hG ⟨0, .data⟩ (by simp) rfl 23 rfl
            have g24 : a'.eval (.tmp 24) = .int .i64 ix := hG ⟨1, .data⟩ (by simp) rfl 24 rfl
            obtain ⟨ev, hev⟩ : ∃ ev, a'.eval = ev := ⟨_, rfl⟩
            rw [hev] at g23 g24 ⊢
            clear hev hG hk
            exact .inr ⟨rfl, .inl ⟨_, X, exec_slice_hi rfl g23 g24 hic X, Below.refl _ _, rfl⟩⟩
          | 3, ho =>
            obtain rfl : _ = o := Option.some.inj ho
            obtain rfl : 26 = d := Option.some.inj hd
            have g3 : a'.eval (.tmp 3) = .pointer (some ⟨w.heap.size, 0, none⟩) := hk 3 (by kernel_rfl)
            obtain ⟨ev, hev⟩ : ∃ ev, a'.eval = ev := ⟨_, rfl⟩
            rw [hev] at g3 ⊢
            clear hev hG hk
            obtain ⟨⟨y0, y1, y2⟩, y3⟩ := HNm.out X hB
            exact .inr ⟨rfl, .inl ⟨.agg #[.string m.nm, .int .i64 m.kd, .int .i64 m.id], X, by clear hs; go_simp, Below.refl _ _, rfl⟩⟩
          | 4, ho =>
            obtain rfl : _ = o := Option.some.inj ho
            obtain rfl : 27 = d := Option.some.inj hd
            have g26 : a'.eval (.tmp 26) = .agg #[.string m.nm, .int .i64 m.kd, .int .i64 m.id] := hG ⟨3, .data⟩ (by simp) rfl 26 rfl
            obtain ⟨ev, hev⟩ : ∃ ev, a'.eval = ev := ⟨_, rfl⟩
            rw [hev] at g26 ⊢
            clear hev hG hk
            refine .inr ⟨rfl, .inl ⟨.slice (some ⟨X.heap.size, 0, none⟩) 1 1, X.alloc (nmB m), by clear hs; unfold nmB; go_simp, (Below.refl _ _).alloc (Nat.le_refl _) _, ?_⟩⟩
            exact .inr ⟨_, 1, rfl, fun j u hu => by rw [addr_plus]; exact (NmAt.new X m).nth j u (by simpa [flat] using hu)⟩
          | 5, ho =>
            obtain rfl : _ = o := Option.some.inj ho
            obtain rfl : 28 = d := Option.some.inj hd
            have g0 : a'.eval (.tmp 0) = .slice p l.length cap := hk 0 (by kernel_rfl)
            obtain ⟨ev, hev⟩ : ∃ ev, a'.eval = ev := ⟨_, rfl⟩
            rw [hev] at g0 ⊢
            clear hev hG hk
            exact .inr ⟨rfl, .inl ⟨.slice p l.length cap, X, by clear hs; go_simp, Below.refl _ _, rfl⟩⟩
          | 6, ho =>
            obtain rfl : _ = o := Option.some.inj ho
            obtain rfl : 29 = d := Option.some.inj hd
            have g6 : a'.eval (.tmp 6) = .int .i64 ix := hk 6 (by kernel_rfl)
            obtain ⟨ev, hev⟩ : ∃ ev, a'.eval = ev := ⟨_, rfl⟩
            rw [hev] at g6 ⊢
            clear hev hG hk
            exact .inr ⟨rfl, .inl ⟨.int .i64 ix, X, by clear hs; go_simp, Below.refl _ _, rfl⟩⟩
          | 7, ho =>
            obtain rfl : _ = o := Option.some.inj ho
            obtain rfl : 30 = d := Option.some.inj hd
            have g28 : a'.eval (.tmp 28) = .slice p l.length cap := hG ⟨5, .data⟩ (by simp) rfl 28 rfl
            have g29 : a'.eval (.tmp 29) = .int .i64 ix := hG ⟨6, .data⟩ (by simp) rfl 29 rfl
            obtain ⟨ev, hev⟩ : ∃ ev, a'.eval = ev := ⟨_, rfl⟩
            rw [hev] at g28 g29 ⊢
            clear hev hG hk
            exact .inr ⟨rfl, .inl ⟨_, X, exec_slice_lo rfl g28 g29 hi X, Below.refl _ _, rfl⟩⟩
          | 8, ho =>
            obtain rfl : _ = o := Option.some.inj ho
            obtain rfl : 31 = d := Option.some.inj hd
            have g25 : a'.eval (.tmp 25) = .slice p ix cap := hG ⟨2, .data⟩ (by simp) rfl 25 rfl
            have g27 : OneP m (a'.eval (.tmp 27)) X := hG ⟨4, .data⟩ (by simp) rfl 27 rfl
            have g30 : a'.eval (.tmp 30) = .slice (dropP p cap ix) (l.length - ix) (cap - ix) := hG ⟨7, .data⟩ (by simp) rfl 30 rfl
            obtain ⟨ev, hev⟩ : ∃ ev, a'.eval = ev := ⟨_, rfl⟩
            rw [hev] at g25 g27 g30 ⊢
            clear hev hG hk
            obtain ⟨v2, hv2⟩ : ∃ v2, ev (.tmp 27) = v2 := ⟨_, rfl⟩
            rw [hv2] at g27
            refine .inr ⟨rfl, .inl ⟨.slice (some ⟨X.heap.size, 0, none⟩) 3 3, X.alloc (.cells #[.slice p ix cap, v2, .slice (dropP p cap ix) (l.length - ix) (cap - ix)] 22), ?_, (Below.refl _ _).alloc (Nat.le_refl _) _, ?_⟩⟩
            · clear hs
              obtain ⟨q, k, c, rfl⟩ : ∃ q k c, v2 = .slice q k c := by have h := Src.len g27; obtain ⟨q, c, h⟩ := h; exact ⟨q, _, c, h⟩
              go_simp
            · have hn := heap_new X (.cells #[.slice p ix cap, v2, .slice (dropP p cap ix) (l.length - ix) (cap - ix)] 22)
              exact ⟨X.heap.size, v2, rfl, by simp, by simp only [World.cell?, hn]; rfl, by simp only [World.cell?, hn]; rfl, by simp only [World.cell?, hn]; rfl, Src.below g27 ((Below.refl _ _).alloc (Nat.le_refl _) _)⟩
          | 9, ho =>
            obtain rfl : _ = o := Option.some.inj ho
            obtain rfl : 32 = d := Option.some.inj hd
            have g31 : TriP (.slice p ix cap) (.slice (dropP p cap ix) (l.length - ix) (cap - ix)) m (a'.eval (.tmp 31)) X := hG ⟨8, .data⟩ (by simp) rfl 31 rfl
            refine .inr ⟨rfl, .inr ⟨30, #[a'.eval (.tmp 31)], ?_, ?_⟩⟩
            · have gF : a'.eval (.func 30) = .func (.func 30) #[] #[] := rfl
              obtain ⟨ev, hev⟩ : ∃ ev, a'.eval = ev := ⟨_, rfl⟩
              rw [hev] at gF g31 ⊢
              exact exec_call1 rfl gF rfl (enters_of Tryd.func30 (by kernel_rfl) rfl)
            · exact HCC.out X _ hB g31
          | 10, ho =>
            obtain rfl : _ = o := Option.some.inj ho
            obtain rfl : 8 = d := Option.some.inj hd
            have g32 : OwnP w.heap.size (insL l m) (a'.eval (.tmp 32)) X := hG ⟨9, .data⟩ (by simp) rfl 32 rfl
            obtain ⟨ev, hev⟩ : ∃ ev, a'.eval = ev := ⟨_, rfl⟩
            rw [hev] at g32 ⊢
            clear hev hG hk
            refine .inr ⟨rfl, .inl ⟨ev (.tmp 32), X, by clear hs; go_simp, Below.refl _ _, g32⟩⟩
          | j + 11, ho => simp at ho
        · intro a' X hB hs hdf hk hG
          obtain ⟨tm, df⟩ := a'
          obtain rfl : df = [] := hdf
          have e0 : tm.getD 0 undef = .slice p l.length cap := hk 0 (by kernel_rfl)
          have e1 : tm.getD 1 undef = .agg #[.string m.nm, .int .i64 m.kd, .int .i64 m.id] := hk 1 (by kernel_rfl)
          have e2 : tm.getD 2 undef = undef := hk 2 (by kernel_rfl)
          have e3 : tm.getD 3 undef = .pointer (some ⟨w.heap.size, 0, none⟩) := hk 3 (by kernel_rfl)
          have e4 : tm.getD 4 undef = .slice none 0 0 := hk 4 (by kernel_rfl)
          have e5 : tm.getD 5 undef = .int .i64 0 := hk 5 (by kernel_rfl)
          have e6 : tm.getD 6 undef = .int .i64 ix := hk 6 (by kernel_rfl)
          have e7 : tm.getD 7 undef = .bool false := hk 7 (by kernel_rfl)
          have e9 : tm.getD 9 undef = .slice p l.length cap := hk 9 (by kernel_rfl)
          have e10 : tm.getD 10 undef = .bool true := hk 10 (by kernel_rfl)
          have e11 : tm.getD 11 undef = .bool false := hk 11 (by kernel_rfl)
          have e12 : tm.getD 12 undef = .agg #[.string m.nm, .int .i64 m.kd, .int .i64 m.id] := hk 12 (by kernel_rfl)
          have e13 : tm.getD 13 undef = .bool true := hk 13 (by kernel_rfl)
          have e14 : tm.getD 14 undef = .bool false := hk 14 (by kernel_rfl)
          have e15 : tm.getD 15 undef = .tuple #[.int .i64 ix, .bool false] := hk 15 (by kernel_rfl)
          have e16 : tm.getD 16 undef = .slice p l.length cap := hk 16 (by kernel_rfl)
          have e17 : tm.getD 17 undef = .pointer (some ⟨w.heap.size, 0, none⟩) := hk 17 (by kernel_rfl)
          have e18 : tm.getD 18 undef = .string m.nm := hk 18 (by kernel_rfl)
          have e19 : tm.getD 19 undef = .tuple #[.int .i64 ix, .bool false] := hk 19 (by kernel_rfl)
          have e20 : tm.getD 20 undef = .int .i64 ix := hk 20 (by kernel_rfl)
          have e21 : tm.getD 21 undef = .bool false := hk 21 (by kernel_rfl)
          have e22 : tm.getD 22 undef = .bool false := hk 22 (by kernel_rfl)
          have e33 : tm.getD 33 undef = undef := hk 33 (by kernel_rfl)
          have e34 : tm.getD 34 undef = undef := hk 34 (by kernel_rfl)
          have e35 : tm.getD 35 undef = undef := hk 35 (by kernel_rfl)
          have e36 : tm.getD 36 undef = undef := hk 36 (by kernel_rfl)
          have g23 : (tm.getD 23 undef) = .slice p l.length cap := hG 0 23 (by decide) rfl
          have g24 : (tm.getD 24 undef) = .int .i64 ix := hG 1 24 (by decide) rfl
          have g25 : (tm.getD 25 undef) = .slice p ix cap := hG 2 25 (by decide) rfl
          have g26 : (tm.getD 26 undef) = .agg #[.string m.nm, .int .i64 m.kd, .int .i64 m.id] := hG 3 26 (by decide) rfl
          have g27 : OneP m ((tm.getD 27 undef)) X := hG 4 27 (by decide) rfl
          have g28 : (tm.getD 28 undef) = .slice p l.length cap := hG 5 28 (by decide) rfl
          have g29 : (tm.getD 29 undef) = .int .i64 ix := hG 6 29 (by decide) rfl
          have g30 : (tm.getD 30 undef) = .slice (dropP p cap ix) (l.length - ix) (cap - ix) := hG 7 30 (by decide) rfl
          have g31 : TriP (.slice p ix cap) (.slice (dropP p cap ix) (l.length - ix) (cap - ix)) m ((tm.getD 31 undef)) X := hG 8 31 (by decide) rfl
          have g32 : OwnP w.heap.size (insL l m) ((tm.getD 32 undef)) X := hG 9 32 (by decide) rfl
          have g8 : OwnP w.heap.size (insL l m) ((tm.getD 8 undef)) X := hG 10 8 (by decide) rfl
          have htm := arr_of tm ((.slice p l.length cap : Value) :: (.agg #[.string m.nm, .int .i64 m.kd, .int .i64 m.id] : Value) :: (undef : Value) :: (.pointer (some ⟨w.heap.size, 0, none⟩) : Value) :: (.slice none 0 0 : Value) :: (.int .i64 0 : Value) :: (.int .i64 ix : Value) :: (.bool false : Value) :: (tm.getD 8 undef : Value) :: (.slice p l.length cap : Value) :: (.bool true : Value) :: (.bool false : Value) :: (.agg #[.string m.nm, .int .i64 m.kd, .int .i64 m.id] : Value) :: (.bool true : Value) :: (.bool false : Value) :: (.tuple #[.int .i64 ix, .bool false] : Value) :: (.slice p l.length cap : Value) :: (.pointer (some ⟨w.heap.size, 0, none⟩) : Value) :: (.string m.nm : Value) :: (.tuple #[.int .i64 ix, .bool false] : Value) :: (.int .i64 ix : Value) :: (.bool false : Value) :: (.bool false : Value) :: (tm.getD 23 undef : Value) :: (tm.getD 24 undef : Value) :: (tm.getD 25 undef : Value) :: (tm.getD 26 undef : Value) :: (tm.getD 27 undef : Value) :: (tm.getD 28 undef : Value) :: (tm.getD 29 undef : Value) :: (tm.getD 30 undef : Value) :: (tm.getD 31 undef : Value) :: (tm.getD 32 undef : Value) :: (undef : Value) :: (undef : Value) :: (undef : Value) :: (undef : Value) :: []) hs (by show (tm.getD 0 undef :: tm.getD 1 undef :: tm.getD 2 undef :: tm.getD 3 undef :: tm.getD 4 undef :: tm.getD 5 undef :: tm.getD 6 undef :: tm.getD 7 undef :: tm.getD 8 undef :: tm.getD 9 undef :: tm.getD 10 undef :: tm.getD 11 undef :: tm.getD 12 undef :: tm.getD 13 undef :: tm.getD 14 undef :: tm.getD 15 undef :: tm.getD 16 undef :: tm.getD 17 undef :: tm.getD 18 undef :: tm.getD 19 undef :: tm.getD 20 undef :: tm.getD 21 undef :: tm.getD 22 undef :: tm.getD 23 undef :: tm.getD 24 undef :: tm.getD 25 undef :: tm.getD 26 undef :: tm.getD 27 undef :: tm.getD 28 undef :: tm.getD 29 undef :: tm.getD 30 undef :: tm.getD 31 undef :: tm.getD 32 undef :: tm.getD 33 undef :: tm.getD 34 undef :: tm.getD 35 undef :: tm.getD 36 undef :: []) = _; rw [e0, e1, e2, e3, e4, e5, e6, e7, e9, e10, e11, e12, e13, e14, e15, e16, e17, e18, e19, e20, e21, e22, e33, e34, e35, e36]; try rfl)
          clear hs hk hG e0 e1 e2 e3 e4 e5 e6 e7 e9 e10 e11 e12 e13 e14 e15 e16 e17 e18 e19 e20 e21 e22 e33 e34 e35 e36
          generalize tm.getD 23 undef = t23 at htm g23
          generalize tm.getD 24 undef = t24 at htm g24
          generalize tm.getD 25 undef = t25 at htm g25
          generalize tm.getD 26 undef = t26 at htm g26
          generalize tm.getD 27 undef = t27 at htm g27
          generalize tm.getD 28 undef = t28 at htm g28
          generalize tm.getD 29 undef = t29 at htm g29
          generalize tm.getD 30 undef = t30 at htm g30
          generalize tm.getD 31 undef = t31 at htm g31
          generalize tm.getD 32 undef = t32 at htm g32
          generalize tm.getD 8 undef = t8 at htm g8
          subst htm
          subst g23
          subst g24
          subst g25
          subst g26
          subst g28
          subst g29
          subst g30
          simp only [List.drop_succ_cons, List.drop_zero]
          have hb4 : Below w.heap.size w X := HB3.out.trans (hB.mono HB3.out.size)
          have HB4 := Lib.hid hb4
          obtain ⟨sp, cp, rfl⟩ : ∃ sp cp, t8 = .slice sp (insL l m).length cp := by obtain ⟨q, c, h, _⟩ := own_rat g8; exact ⟨q, c, h⟩
          have HO := Lib.hid g8
          have HR2 : Hid (Calls Tryd.prog 12 #[.slice sp (insL l m).length cp] X fun e w' => e = .returned (.bool (rightL (insL l m))) ∧ Below X.heap.size X w') := by
            obtain ⟨q, c, h, _, hra⟩ := own_rat g8
            obtain ⟨rfl, -, rfl⟩ := Value.slice.inj h
            exact Right_any _ _ _ X (Nat.le_trans hra.len hra.top) hra.row
          clear g8 g27 g31 g32
          have hbx := HB4.out.size
          clear hb4 hB HCC HNm HN HS
          cases hr2 : rightL (insL l m)
          · rw [hr2] at HR2
            have he : putE l m = 27 := by unfold putE; rw [if_neg (by simp [hr]), if_neg (by simp [hg]), if_neg (by simp [hin]), if_pos hr2]
            have hp : putL l m = [] := by unfold putL; rw [he]; rfl
            have HE2 := Lib.hid (And.intro he hp)
            clear he hp
            go_wp2_with (go_at_call 12; refine HR2.out.mono ?_; rintro e w5 ⟨rfl, hb5⟩)
            go_ret2
            exact ⟨_, by rw [HE2.out.1]; rfl, by rw [HE2.out.2]; exact World.ownsRow_nil _ _ _ _, HB4.out.trans (hb5.mono hbx)⟩
          · rw [hr2] at HR2
            have he : putE l m = 0 := by unfold putE; rw [if_neg (by simp [hr]), if_neg (by simp [hg]), if_neg (by simp [hin]), if_neg (by simp [hr2])]
            have hp : putL l m = insL l m := by unfold putL; rw [he]; rfl
            have HE2 := Lib.hid (And.intro he hp)
            clear he hp
            go_wp2_with (go_at_call 12; refine HR2.out.mono ?_; rintro e w5 ⟨rfl, hb5⟩)
            go_ret2
            exact ⟨_, by rw [HE2.out.1]; rfl, by rw [HE2.out.2]; exact OwnP.mono HO.out hb5, HB4.out.trans (hb5.mono hbx)⟩
      · rw [hin] at HPl
        have he : putE l m = 21 := by unfold putE; rw [if_neg (by simp [hr]), if_neg (by simp [hg]), if_pos hin]
        have hp : putL l m = [] := by unfold putL; rw [he]; rfl
        rw [he, hp]
        clear he hp
        go_enter Tryd.func10, Tryd.ntmps10
        go_wp2_with (first
          | (go_at_call 12; refine HRT.out.mono ?_; rintro e w1 ⟨rfl, hb1⟩; obtain ⟨⟨c0, c1, c2⟩, c3, hb2⟩ := NmAt.fresh hb1; have HB1 := Lib.hid hb2; clear hb1 hb2)
          | (go_at_call 28; refine (HE.out _).mono ?_; rintro e w2 ⟨rfl, hb2⟩; obtain ⟨d0, d1, d2⟩ := NmAt.below (B := w1.heap.size) (o := 0) ⟨c0, c1, c2⟩ hb2 c3; have d3 : w.heap.size < w2.heap.size := Nat.lt_of_lt_of_le c3 hb2.size; have HB2 := Lib.hid (HB1.out.trans (hb2.mono HB1.out.size)); clear hb2)
          | (go_at_call 29; refine (HPl.out _ HB2.out).mono ?_; rintro e w3 ⟨⟨i, hi, rfl⟩, hb3⟩; have HB3 := Lib.hid (HB2.out.trans (hb3.mono HB2.out.size)); clear hb3 hi))
        go_ret2
        exact ⟨_, rfl, World.ownsRow_nil _ _ _ _, HB3.out⟩
end Go.Proofs.YthifejdphflfpaaDoor
