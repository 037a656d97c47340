/- What (*program).bytes of package isa answers. -/
import Derived.Test.YtgldkmabhmlijaaDoorRead
namespace Go.Proofs.YtgldkmabhmlijaaDoor
open Go.RowKit Go.Sort Go.Shelf
attribute [local go_sem] Oper.semAt_some
def atI (D : DataW Unit) (s : ByteArray) : Int := match D.atKey (keyS s) (.lit (.int .i64 0)) with | .lit (.int _ v) => v | _ => 0
/-- Is the step's name a place's? -/
def okN (D : DataW Unit) (x : Ste) : Bool := x.name.toList.isEmpty || Maps.has D (keyS x.name)
def fixN (D : DataW Unit) (i : Nat) (x : Ste) : Cod := if x.name.toList.isEmpty = true then x.c else { x.c with n := wrap64 (atI D x.name - (i + 1)) }
def q4v (q : Q4) : List Value := [.int .u8 q.1, .int .u8 q.2.1, .int .u8 q.2.2.1, .int .u8 q.2.2.2]
def ste0 : Ste := ⟨c0, 0, ⟨#[]⟩⟩
/-- The bytes of the first k steps. -/
def bsK (p : Prg) (k : Nat) : List Value := (List.range k).flatMap fun i => q4v (bytesC (fixN p.D i (p.st.getD i ste0)))
theorem bsK_succ (p : Prg) (k : Nat) : bsK p (k + 1) = bsK p k ++ q4v (bytesC (fixN p.D k (p.st.getD k ste0))) := by
  unfold bsK; rw [List.range_succ, List.flatMap_append]; simp
theorem flat7_at : ∀ (l : List Ste) (k j : Nat), k < l.length → j < 7 → (flat7 l)[k * 7 + j]? = (v7 (l.getD k ste0).c (l.getD k ste0).line (l.getD k ste0).name)[j]?
  | [], _, _, h, _ => by simp at h
  | x :: l, 0, j, _, hj => by
    have : (v7 x.c x.line x.name).length = 7 := rfl
    simp only [flat7, List.flatMap_cons, Nat.zero_mul, Nat.zero_add, List.getD_cons_zero]
    rw [List.getElem?_append_left (by omega)]
  | x :: l, k + 1, j, h, hj => by
    have h7 : (v7 x.c x.line x.name).length = 7 := rfl
    have ih := flat7_at l k j (by simpa using h) hj
    simp only [flat7, List.flatMap_cons, List.getD_cons_succ] at ih ⊢
    rw [List.getElem?_append_right (by omega), h7, show (k + 1) * 7 + j - 7 = k * 7 + j by omega]
    exact ih
def bsU (p : Prg) (k : Nat) : List UInt8 := (List.range k).flatMap fun i => toU (q4l (bytesC (fixN p.D i (p.st.getD i ste0))))
theorem q4v_toU (q : Q4) (h : okQ q) : q4v q = (toU (q4l q)).map fun b => Value.int .u8 (b.toNat : Int) := by
  obtain ⟨h0, h1, h2, h3⟩ := h
  simp only [q4v, toU, q4l, List.map_cons, List.map_nil, toU_byte _ h0, toU_byte _ h1, toU_byte _ h2, toU_byte _ h3]
theorem bsK_bsU (p : Prg) (k : Nat) : bsK p k = (bsU p k).map fun b => Value.int .u8 (b.toNat : Int) := by
  unfold bsK bsU
  rw [List.map_flatMap]
  congr 1; funext i
  exact q4v_toU _ (bytesC_ok _)
theorem bsU_len (p : Prg) (k : Nat) : (bsU p k).length = k * 4 := by
  induction k with
  | zero => rfl
  | succ k ih => unfold bsU at ih ⊢; rw [List.range_succ, List.flatMap_append, List.length_append, ih]; simp [toU, q4l]; omega
theorem conv_own {w : World} {base n : Nat} {v : Value} {l : List UInt8} (h : w.ownsRow base 5 1 v n (l.map fun b => Value.int .u8 (b.toNat : Int))) (hn : l.length = n) : Sem.run Tryd.prog (convert 44 9 v) w = .ok (.string ⟨l.toArray⟩) w := by
  rcases hh : h.2 with ⟨rfl, rfl⟩ | ⟨g, cap, cur, rfl, _⟩
  · obtain rfl : l = [] := List.eq_nil_of_length_eq_zero hn
    rw [run_convert_bytes_string w 44 9 5 none 0 0 Tryd.underlying44 Tryd.underlying5 Tryd.underlying9]
    simp [Conv.bytesToString]
    rfl
  · subst hn
    refine run_convert_bytes_back (P := Tryd.prog) w 44 9 5 ⟨g, 0, none⟩ cap l Tryd.underlying44 Tryd.underlying5 Tryd.underlying9 (fun j hj => ?_)
    exact h.cells rfl j _ (by simp [hj])
/-- What bytes answers. -/
def bytesR (p : Prg) : Array Value := match p.st.find? (fun x => !okN p.D x) with
  | some x => #[.string ⟨#[]⟩, .int .i64 x.line, .int .i64 4]
  | none => #[.string ⟨(bsU p p.st.length).toArray⟩, .int .i64 0, .int .i64 0]
theorem find_at (f : Ste → Bool) : ∀ (l : List Ste) (k : Nat), k < l.length → (∀ i, i < k → f (l.getD i ste0) = false) → f (l.getD k ste0) = true → l.find? f = some (l.getD k ste0)
  | [], _, h, _, _ => by simp at h
  | x :: l, 0, _, _, h => by simp only [List.getD_cons_zero] at h ⊢; rw [List.find?_cons, h]
  | x :: l, k + 1, hk, h, h' => by
    have h0 := h 0 (by omega)
    simp only [List.getD_cons_zero, List.getD_cons_succ] at h0 h' ⊢
    rw [List.find?_cons, h0]
    exact find_at f l k (by simpa using hk) (fun i hi => by have := h (i + 1) (by omega); simpa using this) h'
theorem bytesR_bad {p : Prg} {k : Nat} (hk : k < p.st.length) (h : ∀ i, i < k → okN p.D (p.st.getD i ste0) = true) (h' : okN p.D (p.st.getD k ste0) = false) : bytesR p = #[.string ⟨#[]⟩, .int .i64 (p.st.getD k ste0).line, .int .i64 4] := by
  unfold bytesR; rw [find_at _ p.st k hk (fun i hi => by rw [h i hi]; rfl) (by rw [h']; rfl)]
theorem bytesR_good {p : Prg} (h : ∀ i, i < p.st.length → okN p.D (p.st.getD i ste0) = true) : bytesR p = #[.string ⟨(bsU p p.st.length).toArray⟩, .int .i64 0, .int .i64 0] := by
  have : p.st.find? (fun x => !okN p.D x) = none := by
    rw [List.find?_eq_none]
    intro x hx
    obtain ⟨i, hi, rfl⟩ := List.mem_iff_getElem.1 hx
    have := h i hi
    rw [List.getD_eq_getElem?_getD, List.getElem?_eq_getElem hi, Option.getD_some] at this
    rw [this]; decide
  unfold bytesR; rw [this]
theorem grown_row' {w w' : World} {base n e size : Nat} {v : Value} {xs : List Value} {Y : World} (hg : w.grownBy w' v.ownBlock) (hr : Y.ownsRow base e size v n xs) (hb : base ≤ w.heap.size) : Below base w w' :=
  ⟨hg.os, hg.tape, hg.output, hg.size, fun k hk => hg.block k (by omega) (fun e => by have := (hr.lt k e.symm).1; omega)⟩
theorem u8Info : (Tryd.prog.info? 5).map (fun i => (i.zero, i.size, i.bytes)) = some (some (.int .u8 0), 1, 1) := by kernel_rfl
set_option maxRecDepth 100000 in
set_option maxHeartbeats 1000000 in
theorem bytes_any (base Bp mb m : Nat) (p : Prg) (w : World) (hP : PAt w base Bp mb m p) (hst : p.st.length < 1000000) (hnm : ∀ i, (p.st.getD i ste0).name.size ≤ maxLen) :
    Calls Tryd.prog 19 #[.pointer (some ⟨Bp, 0, none⟩)] w fun e w' => e = .returned (.tuple (bytesR p)) ∧ Below w.heap.size w w' := by
  have HP := Lib.hid hP
  obtain ⟨⟨v, hv, hr⟩, hm, h1, h2⟩ := hP
  obtain ⟨sp, cap, rfl⟩ := row_form hr
  have hl := (Array.getElem?_eq_some_iff.1 hv).1
  have c0 : w.cell? ⟨Bp, 0, none⟩ = some (.slice sp p.st.length cap) := by simp [World.cell?, hv]
  have c1 : w.cell? ⟨Bp, 1, none⟩ = some (.map (some mb)) := by simp [World.cell?, hv]
  have HV := Lib.hid hv
  obtain ⟨i0, hi, hz0, hz1, hz2⟩ := info_parts u8Info
  clear hv hr hm
  go_enter Tryd.func19, Tryd.ntmps19
  go_wp2_with fail
  go_loopw [5, 16] (fun a b wr => ∃ k : Nat, b = .int .i64 k ∧ k ≤ p.st.length ∧ wr.ownsRow w.heap.size 5 1 a (k * 4) (bsK p k) ∧ RowKit.Below w.heap.size w wr ∧ ∀ i, i < k → okN p.D (p.st.getD i ste0) = true) (fun _ b _ => (p.st.length - intOf b).toNat)
  case atStart => exact ⟨0, rfl, Nat.zero_le _, World.ownsRow_nil _ _ _ _, Below.refl _ _, fun i hi => by omega⟩
  case round =>
    obtain ⟨k, rfl, hk, hrow, hB, hok⟩ := hrel
    by_cases hkl : k < p.st.length
    · obtain ⟨⟨v1, hv1, hr1⟩, hm1, _, _⟩ := HP.out.below hB
      have hB1 := Lib.hid hB
      obtain ⟨g, cap1, rfl⟩ : ∃ g cap1, v1 = .slice (some ⟨g, 0, none⟩) p.st.length cap1 := by
        rcases hr1.2 with ⟨_, h⟩ | ⟨g, cap, _, h, _⟩
        · omega
        · exact ⟨g, cap, h⟩
      have hcl : ∀ j, j < 7 → wr.cell? ⟨g, k * 7 + j, none⟩ = (v7 (p.st.getD k ste0).c (p.st.getD k ste0).line (p.st.getD k ste0).name)[j]? := fun j hj => by
        rw [hr1.cellAt (k * 7 + j) (by omega)]; exact flat7_at p.st k j hkl hj
      have hvw : w.heap[Bp]? = some (.cells #[.slice sp p.st.length cap, .map (some mb)] 55 (0, 0)) := HV.out
      have hsp : sp = some ⟨g, 0, none⟩ ∧ cap = cap1 := by
        have := (hB.block Bp hl).symm.trans hv1
        rw [hvw] at this; injection this with this; injection this with this; simp at this; exact ⟨this.1, this.2⟩
      obtain ⟨rfl, rfl⟩ := hsp
      have HK : Hid (bsK p (k + 1) = bsK p k ++ q4v (bytesC (fixN p.D k (p.st.getD k ste0)))) := bsK_succ p k
      have HF : Hid (fixN p.D k (p.st.getD k ste0) = if (p.st.getD k ste0).name.toList.isEmpty = true then (p.st.getD k ste0).c else { (p.st.getD k ste0).c with n := wrap64 (atI p.D (p.st.getD k ste0).name - (k + 1)) }) := rfl
      have HO : Hid (okN p.D (p.st.getD k ste0) = ((p.st.getD k ste0).name.toList.isEmpty || Maps.has p.D (keyS (p.st.getD k ste0).name))) := rfl
      have HOk : Hid (okN p.D (p.st.getD k ste0) = true → ∀ i, i < k + 1 → okN p.D (p.st.getD i ste0) = true) := fun h i hi => by
        rcases Nat.lt_or_ge i k with h' | h'
        · exact hok i h'
        · obtain rfl : i = k := by omega
          exact h
      have hxz := hnm k
      have HBad : Hid (okN p.D (p.st.getD k ste0) = false → bytesR p = #[.string ⟨#[]⟩, .int .i64 (p.st.getD k ste0).line, .int .i64 4]) := bytesR_bad hkl hok
      generalize p.st.getD k ste0 = x at hcl HK HF HO HOk hxz HBad
      obtain ⟨xc, xl, xn⟩ := x
      have r0 : wr.cell? ⟨g, k * 7, none⟩ = some (.int .i64 xc.op) := hcl 0 (by omega)
      have r1 : wr.cell? ⟨g, k * 7 + 1, none⟩ = some (.int .i64 xc.a) := hcl 1 (by omega)
      have r2 : wr.cell? ⟨g, k * 7 + 2, none⟩ = some (.int .i64 xc.b) := hcl 2 (by omega)
      have r3 : wr.cell? ⟨g, k * 7 + 3, none⟩ = some (.int .i64 xc.c) := hcl 3 (by omega)
      have r4 : wr.cell? ⟨g, k * 7 + 4, none⟩ = some (.int .i64 xc.n) := hcl 4 (by omega)
      have r5 : wr.cell? ⟨g, k * 7 + 5, none⟩ = some (.int .i64 xl) := hcl 5 (by omega)
      have r6 : wr.cell? ⟨g, k * 7 + 6, none⟩ = some (.string xn) := hcl 6 (by omega)
      have HM1 := Lib.hid hm1
      have hki : (k : Int) < (p.st.length : Int) := by omega
      have hgl : g < wr.heap.size := (hr1.lt g rfl).2
      clear hcl hm1 hv1 hvw
      by_cases he : xn.toList.isEmpty = true
      · have HF' : Hid (fixN p.D k ⟨xc, xl, xn⟩ = xc) := by rw [HF.out]; exact if_pos he
        have HO' : Hid (okN p.D ⟨xc, xl, xn⟩ = true) := by rw [HO.out]; simp only [he]; exact rfl
        rw [HF'.out] at HK
        clear HF HF' HO
        go_upto_region 10 with fail
        have hA2 : AtV (wr.alloc (.cells #[.int .i64 xc.op, .int .i64 xc.a, .int .i64 xc.b, .int .i64 xc.c, .int .i64 xc.n, .int .i64 xl, .string xn] 77)) wr.heap.size (v7 xc xl xn) := AtV.new wr _ _
        have hB2 : RowKit.Below wr.heap.size wr (wr.alloc (.cells #[.int .i64 xc.op, .int .i64 xc.a, .int .i64 xc.b, .int .i64 xc.c, .int .i64 xc.n, .int .i64 xl, .string xn] 77)) := by go_grown
        generalize wr.alloc (.cells #[.int .i64 xc.op, .int .i64 xc.a, .int .i64 xc.b, .int .i64 xc.c, .int .i64 xc.n, .int .i64 xl, .string xn] 77) = W2 at hA2 hB2 ⊢
        have j0 : W2.cell? ⟨wr.heap.size, 0, none⟩ = some (.int .i64 xc.op) := hA2.2.1 0 (by simp [v7])
        have j1 : W2.cell? ⟨wr.heap.size, 1, none⟩ = some (.int .i64 xc.a) := hA2.2.1 1 (by simp [v7])
        have j2 : W2.cell? ⟨wr.heap.size, 2, none⟩ = some (.int .i64 xc.b) := hA2.2.1 2 (by simp [v7])
        have j3 : W2.cell? ⟨wr.heap.size, 3, none⟩ = some (.int .i64 xc.c) := hA2.2.1 3 (by simp [v7])
        have j4 : W2.cell? ⟨wr.heap.size, 4, none⟩ = some (.int .i64 xc.n) := hA2.2.1 4 (by simp [v7])
        have HPk := Lib.hid (pack_any xc)
        have hcv : xc.v = .agg #[.int .i64 xc.op, .int .i64 xc.a, .int .i64 xc.b, .int .i64 xc.c, .int .i64 xc.n] := rfl
        rw [hcv] at HPk
        generalize bytesC xc = q at HPk HK
        unfold qv at HPk
        have HB2 := Lib.hid hB2
        have hrow2 := hrow.kept (grown_below hB2 none) (by cases hq : Value.ownBlock u5 <;> simp)
        have hz2' := hB2.size
        clear hcv hA2 hB2 r0 r1 r2 r3 r4 r5 r6 hrow
        go_wp2_with (go_at_call 13; refine (HPk.out _).mono ?_; rintro e w3 ⟨rfl, hb3⟩; refine Hid.out ?_)
        refine Lib.hid ?_
        have HB3 := Lib.hid hb3
        have hz3 := hb3.size
        have hrow3 := hrow2.kept (grown_below hb3 none) (by cases hq : Value.ownBlock u5 <;> simp)
        have hrow4 := Lib.hid (hrow3.alloc (.cells #[.int .u8 q.1, .int .u8 q.2.1, .int .u8 q.2.2.1, .int .u8 q.2.2.2] 42))
        have hAA : AtV (w3.alloc (.cells #[.int .u8 q.1, .int .u8 q.2.1, .int .u8 q.2.2.1, .int .u8 q.2.2.2] 42)) w3.heap.size (q4v q) := AtV.new w3 _ _
        have HN : Hid (∀ j u, (q4v q)[j]? = some u → (w3.alloc (.cells #[.int .u8 q.1, .int .u8 q.2.1, .int .u8 q.2.2.1, .int .u8 q.2.2.2] 42)).cell? ((⟨w3.heap.size, 0, none⟩ : Addr).add j) = some u) := fun j u hu => by
          obtain ⟨hj, rfl⟩ := List.getElem?_eq_some_iff.1 hu
          rw [show (⟨w3.heap.size, 0, none⟩ : Addr).add j = ⟨w3.heap.size, j, none⟩ from by cases j <;> simp [Addr.add]]
          exact hAA.2.1 j hj
        have HOn : Hid (∀ u ∈ q4v q, u.oneCell' = true) := fun u hu => by simp [q4v] at hu; rcases hu with rfl | rfl | rfl | rfl <;> rfl
        have hzw := hB1.out.size
        clear hb3 hrow2 hrow3 hAA j0 j1 j2 j3 j4
        go_wp2_with (at_builtin; refine wpList_append_own _ rfl _ _ 44 rfl w.heap.size 5 i0 (.int .u8 0) 1 1 (by kernel_rfl) hi hz0 hz1 hz2 rfl (by decide) _ _ _ rfl hrow4.out ⟨w3.heap.size, 0, none⟩ 4 4 (q4v q) rfl rfl HN.out HOn.out (by show _ ≤ 2 ^ 63 - 1; omega) (by omega) (by simp; omega) ?_; intro v' w4 hown4 hgrow4 hnil4; have HW4 := Lib.hid hown4; have HG4 := Lib.hid hgrow4; clear hown4 hgrow4 hnil4)
        refine ⟨⟨k + 1, by simp, by omega, by rw [HK.out, Nat.add_mul, Nat.one_mul]; exact HW4.out, ?_, HOk.out HO'.out⟩, by simp [intOf]; omega⟩
        exact ((hB1.out.trans ((HB2.out.trans (HB3.out.mono HB2.out.size)).mono hB1.out.size)).alloc (by omega) _).trans (grown_row' HG4.out hrow4.out (by simp; omega))
      · have he' : xn.toList.isEmpty = false := by simpa using he
        have HF' : Hid (fixN p.D k ⟨xc, xl, xn⟩ = { xc with n := wrap64 (atI p.D xn - (k + 1)) }) := by rw [HF.out]; exact if_neg he
        have HO' : Hid (okN p.D ⟨xc, xl, xn⟩ = Maps.has p.D (keyS xn)) := by rw [HO.out]; simp only [he']; exact rfl
        rw [HF'.out] at HK
        clear HF HF' HO
        go_upto_region 5 with fail
        have hA2 : AtV (wr.alloc (.cells #[.int .i64 xc.op, .int .i64 xc.a, .int .i64 xc.b, .int .i64 xc.c, .int .i64 xc.n, .int .i64 xl, .string xn] 77)) wr.heap.size (v7 xc xl xn) := AtV.new wr _ _
        have hB2 : RowKit.Below wr.heap.size wr (wr.alloc (.cells #[.int .i64 xc.op, .int .i64 xc.a, .int .i64 xc.b, .int .i64 xc.c, .int .i64 xc.n, .int .i64 xl, .string xn] 77)) := by go_grown
        generalize wr.alloc (.cells #[.int .i64 xc.op, .int .i64 xc.a, .int .i64 xc.b, .int .i64 xc.c, .int .i64 xc.n, .int .i64 xl, .string xn] 77) = W2 at hA2 hB2 ⊢
        have hrow2 := hrow.kept (grown_below hB2 none) (by cases hq : Value.ownBlock u5 <;> simp)
        have j6 : W2.cell? ⟨wr.heap.size, 6, none⟩ = some (.string xn) := hA2.2.1 6 (by simp [v7])
        have hbW : RowKit.Below w.heap.size w W2 := hB1.out.trans (hB2.mono hB1.out.size)
        have HA2 := Lib.hid hA2
        have HB2 := Lib.hid hB2
        have HBW := Lib.hid hbW
        have hM2 : MapAt W2 mb m p.D := World.ownsMap.kept HM1.out (grown_below hB2 none) (by simp)
        have hc1 : W2.cell? ⟨Bp, 1, none⟩ = some (.map (some mb)) := (hbW.cell (p := ⟨Bp, 1, none⟩) hl).trans c1
        replace hrow := Lib.hid hrow
        clear hA2 hB2 hbW r0 r1 r2 r3 r4 r5 r6 hrow2
        go_upto_region 6 with fail
        obtain ⟨V, hV⟩ : ∃ V, W2.drew = V := ⟨_, rfl⟩
        have hsV : W2.heap.size = V.heap.size := by rw [← hV]; rfl
        obtain ⟨vi, hrun, hat⟩ := look_any (show MapAt V mb m p.D by rw [← hV]; exact hM2) xn hxz
        have d6 : V.cell? ⟨wr.heap.size, 6, none⟩ = some (.string xn) := by rw [← hV]; exact j6
        have d1 : V.cell? ⟨Bp, 1, none⟩ = some (.map (some mb)) := by rw [← hV]; exact hc1
        clear j6 hc1 hM2
        generalize Maps.has p.D (keyS xn) = hs at hrun HO'
        go_region
        cases hs
        · have d5 : V.cell? ⟨wr.heap.size, 5, none⟩ = some (.int .i64 xl) := by rw [← hV]; exact HA2.out.2.1 5 (by simp [v7])
          go_upto_region 8 with fail
          go_region
          go_wp2
          go_ret3
          refine ⟨by rw [HBad.out HO'.out]; rfl, ?_⟩
          have hbV : RowKit.Below w.heap.size w V := by rw [← hV]; exact ⟨HBW.out.os, HBW.out.tape, HBW.out.output, HBW.out.size, HBW.out.block⟩
          exact ⟨hbV.os, hbV.tape, hbV.output, hbV.size, hbV.block⟩
        · have e0 : V.cell? ⟨wr.heap.size, 0, none⟩ = some (.int .i64 xc.op) := by rw [← hV]; exact HA2.out.2.1 0 (by simp [v7])
          have e1 : V.cell? ⟨wr.heap.size, 1, none⟩ = some (.int .i64 xc.a) := by rw [← hV]; exact HA2.out.2.1 1 (by simp [v7])
          have e2 : V.cell? ⟨wr.heap.size, 2, none⟩ = some (.int .i64 xc.b) := by rw [← hV]; exact HA2.out.2.1 2 (by simp [v7])
          have e3 : V.cell? ⟨wr.heap.size, 3, none⟩ = some (.int .i64 xc.c) := by rw [← hV]; exact HA2.out.2.1 3 (by simp [v7])
          have e4 : V.cell? ⟨wr.heap.size, 4, none⟩ = some (.int .i64 xc.n) := by rw [← hV]; exact HA2.out.2.1 4 (by simp [v7])
          have ef : V.frozen? ⟨wr.heap.size, 4, none⟩ = false := by rw [← hV]; exact HA2.out.2.2 4
          have hlV : wr.heap.size < V.heap.size := by rw [← hsV]; exact HA2.out.1
          have HAT : Hid (atI p.D xn = vi) := by unfold atI; rw [hat]; exact rfl
          rw [HAT.out] at HK
          go_upto_region 10 with fail
          obtain ⟨NN, hNN⟩ : ∃ NN, NN = wrap64 (vi - ((k : Int) + 1)) := ⟨_, rfl⟩
          rw [← hNN] at HK ⊢
          clear hNN
          have hB5 : RowKit.Below wr.heap.size wr (V.setCell ⟨wr.heap.size, 4, none⟩ (.int .i64 NN)) := by
            have hb : RowKit.Below wr.heap.size wr V := by rw [← hV]; exact ⟨HB2.out.os, HB2.out.tape, HB2.out.output, HB2.out.size, HB2.out.block⟩
            exact hb.setCell (p := ⟨wr.heap.size, 4, none⟩) (Nat.le_refl _) _
          have y0 : (V.setCell ⟨wr.heap.size, 4, none⟩ (.int .i64 NN)).cell? ⟨wr.heap.size, 0, none⟩ = some (.int .i64 xc.op) := by simp [go_sem, e0]
          have y1 : (V.setCell ⟨wr.heap.size, 4, none⟩ (.int .i64 NN)).cell? ⟨wr.heap.size, 1, none⟩ = some (.int .i64 xc.a) := by simp [go_sem, e1]
          have y2 : (V.setCell ⟨wr.heap.size, 4, none⟩ (.int .i64 NN)).cell? ⟨wr.heap.size, 2, none⟩ = some (.int .i64 xc.b) := by simp [go_sem, e2]
          have y3 : (V.setCell ⟨wr.heap.size, 4, none⟩ (.int .i64 NN)).cell? ⟨wr.heap.size, 3, none⟩ = some (.int .i64 xc.c) := by simp [go_sem, e3]
          have y4 : (V.setCell ⟨wr.heap.size, 4, none⟩ (.int .i64 NN)).cell? ⟨wr.heap.size, 4, none⟩ = some (.int .i64 NN) := by simp [go_sem, e4]
          generalize V.setCell ⟨wr.heap.size, 4, none⟩ (.int .i64 NN) = W5 at hB5 y0 y1 y2 y3 y4 ⊢
          clear e0 e1 e2 e3 e4 ef hrun d6 d1 hV hsV hlV
          have HPk := Lib.hid (pack_any { xc with n := NN })
          have hcv : ({ xc with n := NN } : Cod).v = .agg #[.int .i64 xc.op, .int .i64 xc.a, .int .i64 xc.b, .int .i64 xc.c, .int .i64 NN] := rfl
          rw [hcv] at HPk
          generalize bytesC { xc with n := NN } = q at HPk HK
          unfold qv at HPk
          have HB5 := Lib.hid hB5
          have hrow2 := hrow.out.kept (grown_below hB5 none) (by cases hq : Value.ownBlock u5 <;> simp)
          have hz2' := hB5.size
          clear hcv hB5 hrow
          go_wp2_with (go_at_call 13; refine (HPk.out _).mono ?_; rintro e w3 ⟨rfl, hb3⟩; refine Hid.out ?_)
          refine Lib.hid ?_
          have HB3 := Lib.hid hb3
          have hz3 := hb3.size
          have hrow3 := hrow2.kept (grown_below hb3 none) (by cases hq : Value.ownBlock u5 <;> simp)
          have hrow4 := Lib.hid (hrow3.alloc (.cells #[.int .u8 q.1, .int .u8 q.2.1, .int .u8 q.2.2.1, .int .u8 q.2.2.2] 42))
          have hAA : AtV (w3.alloc (.cells #[.int .u8 q.1, .int .u8 q.2.1, .int .u8 q.2.2.1, .int .u8 q.2.2.2] 42)) w3.heap.size (q4v q) := AtV.new w3 _ _
          have HN : Hid (∀ j u, (q4v q)[j]? = some u → (w3.alloc (.cells #[.int .u8 q.1, .int .u8 q.2.1, .int .u8 q.2.2.1, .int .u8 q.2.2.2] 42)).cell? ((⟨w3.heap.size, 0, none⟩ : Addr).add j) = some u) := fun j u hu => by
            obtain ⟨hj, rfl⟩ := List.getElem?_eq_some_iff.1 hu
            rw [show (⟨w3.heap.size, 0, none⟩ : Addr).add j = ⟨w3.heap.size, j, none⟩ from by cases j <;> simp [Addr.add]]
            exact hAA.2.1 j hj
          have HOn : Hid (∀ u ∈ q4v q, u.oneCell' = true) := fun u hu => by simp [q4v] at hu; rcases hu with rfl | rfl | rfl | rfl <;> rfl
          have hzw := hB1.out.size
          clear hb3 hrow2 hrow3 hAA y0 y1 y2 y3 y4
          go_wp2_with (at_builtin; refine wpList_append_own _ rfl _ _ 44 rfl w.heap.size 5 i0 (.int .u8 0) 1 1 (by kernel_rfl) hi hz0 hz1 hz2 rfl (by decide) _ _ _ rfl hrow4.out ⟨w3.heap.size, 0, none⟩ 4 4 (q4v q) rfl rfl HN.out HOn.out (by show _ ≤ 2 ^ 63 - 1; omega) (by omega) (by simp; omega) ?_; intro v' w4 hown4 hgrow4 hnil4; have HW4 := Lib.hid hown4; have HG4 := Lib.hid hgrow4; clear hown4 hgrow4 hnil4)
          refine ⟨⟨k + 1, by simp, by omega, by rw [HK.out, Nat.add_mul, Nat.one_mul]; exact HW4.out, ?_, HOk.out HO'.out⟩, by simp [intOf]; omega⟩
          exact ((hB1.out.trans ((HB5.out.trans (HB3.out.mono HB5.out.size)).mono hB1.out.size)).alloc (by omega) _).trans (grown_row' HG4.out hrow4.out (by simp; omega))
    · obtain rfl : k = p.st.length := by omega
      have HG : Hid (bytesR p = _) := bytesR_good hok
      rw [bsK_bsU] at hrow
      have hcv := conv_own hrow (bsU_len p _)
      have HB := Lib.hid hB
      clear hrow hok hB
      generalize bsU p p.st.length = l at hcv HG
      go_wp2
      go_ret3
      exact ⟨by rw [HG.out]; rfl, HB.out⟩
end Go.Proofs.YtgldkmabhmlijaaDoor
