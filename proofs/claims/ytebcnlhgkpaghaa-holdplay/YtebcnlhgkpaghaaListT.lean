/- List and Relabel of package hold. -/
import Derived.Test.YtebcnlhgkpaghaaInfo
import Derived.Test.YtebcnlhgkpaghaaLoose
namespace Go.Proofs.Ytebcnlhgkpaghaa
open Go.RowKit Go.Sort
theorem ivs_oneL (L : List Int) : ∀ u ∈ ivs L, u.oneCell' = true := fun u hu => by
  obtain ⟨n, _, rfl⟩ := List.mem_map.1 hu; rfl
theorem addr_plusL (b o j : Nat) : (⟨b, o, none⟩ : Addr).add j = ⟨b, o + j, none⟩ := by unfold Addr.add; split <;> simp_all
set_option maxRecDepth 100000 in
set_option maxHeartbeats 1000000 in
theorem CloneI_any (base : Nat) (v : Value) (l : List Int) (w : World) (hn : l.length < 1000000) (hr : w.ownsRow base 3 1 v l.length (ivs l)) :
    Calls Try.prog 68 #[v] w fun e w' => ∃ v', e = .returned v' ∧ w'.ownsRow w.heap.size 3 1 v' l.length (ivs l) ∧ (v' = .slice none 0 0 ↔ v = .slice none 0 0) ∧ Below w.heap.size w w' := by
  obtain ⟨i0, hi, hz0, hz1, hz2⟩ := info_parts intInfo
  have hr2 := hr.2
  rcases hr2 with ⟨rfl, h0⟩ | ⟨g, cap, cur, rfl, _⟩
  · have := List.length_eq_zero_iff.1 h0
    subst this
    have hnil := fun (w : World) => Lib.run_eql_slice_nil (P := Try.prog) w 41 3 none 0 0 0 0 Try.underlying41
    clear hr
    go_enter Try.func68, Try.ntmps68
    go_wp2
    go_ret
    exact ⟨_, rfl, World.ownsRow_nil _ _ _ _, by simp, Below.refl _ _⟩
  · have hgl : 0 < l.length → g < w.heap.size := fun _ => (hr.lt g rfl).2
    have hnil := fun (w : World) => Lib.run_eql_slice_nil (P := Try.prog) w 41 3 (some ⟨g, 0, none⟩) l.length cap 0 0 Try.underlying41
    have hown : (w.alloc (.cells #[] 3)).ownsRow w.heap.size 3 1 (.slice (some ⟨w.heap.size, 0, none⟩) 0 0) 0 [] := World.ownsRow_lit (base := w.heap.size) (e := 3) (size := 1) w #[] 0 (Nat.le_refl _) (by decide) rfl
    have hW : Below w.heap.size w (w.alloc (.cells #[] 3)) := by go_grown
    have HN : Hid (∀ j u, (ivs l)[j]? = some u → (w.alloc (.cells #[] 3)).cell? ((⟨g, 0, none⟩ : Addr).add j) = some u) := fun j u hu => by
      have hj : j < l.length := by
        have := (List.getElem?_eq_some_iff.1 hu).1
        simpa [ivs] using this
      rw [addr_plusL, Nat.zero_add, hW.cell (p := ⟨g, j, none⟩) (hgl (by omega)), hr.cellAt j (by omega)]
      exact hu
    have h63 : 0 + l.length ≤ maxLen := by unfold maxLen; omega
    have hby : (0 + l.length) * 8 ≤ 140737488355328 := by omega
    clear hr hgl
    go_enter Try.func68, Try.ntmps68
    go_wp2_with (at_builtin; refine wpList_append_own _ rfl _ _ 41 rfl w.heap.size 3 i0 (.int .i64 0) 1 8 Try.underlying41 hi hz0 hz1 hz2 rfl (by decide) _ _ _ rfl hown ⟨g, 0, none⟩ l.length cap (ivs l) rfl (by simp [ivs]) HN.out (ivs_oneL l) h63 hby (by simp) ?_; intro v' w3 hown' hgrow3 hnil3)
    go_ret
    rw [Nat.zero_add, List.nil_append] at hown'
    refine ⟨v', rfl, hown', ⟨fun e => ?_, fun e => by cases e⟩, Below.grown hW hgrow3 (by simp) (fun k hk => Nat.le_of_eq (Option.some.inj (show some w.heap.size = some k from hk)))⟩
    have h2 : Value.slice (some ⟨w.heap.size, 0, none⟩) 0 0 = .slice none 0 0 := (hnil3.1 e).1
    cases h2
theorem list_any {w : World} {base : Nat} {r : Rc} (h : RAt w base r) (hn : r.ob.ents.length < 1000000) :
    Calls Try.prog 57 #[.pointer (some ⟨r.B, 7, none⟩)] w fun e w' => ∃ v', e = .returned v' ∧ w'.ownsRow w.heap.size 3 1 v' r.ob.ents.length (ivs r.ob.ents) ∧ (v' = .slice none 0 0 ↔ r.iv = .slice none 0 0) ∧ Below w.heap.size w w' := by
  have c7 : w.cell? ⟨r.B, 7, none⟩ = some r.iv := by simp [World.cell?, h.blk, cellsR]
  have HC := Lib.hid (CloneI_any base r.iv r.ob.ents w hn h.row)
  obtain ⟨sp, cp, hiv⟩ := row_form h.row
  rw [hiv] at c7 HC ⊢
  clear h
  go_enter Try.func57, Try.ntmps57
  go_wp2_with (first
    | (go_at_call 68; refine HC.out.mono ?_; rintro e w1 ⟨v', rfl, h1, h2, h3⟩; have H1 := Lib.hid h1; have H2 := Lib.hid h2; clear h1 h2))
  go_ret
  exact ⟨v', rfl, H1.out, H2.out, h3⟩
theorem List_no {w : World} {base tb mb : Nat} {D : DataW Unit} {T : Tab} (h : TAt w base tb mb D T) (i : Int) (hi : i64 i) (he : contE T i ≠ 0) :
    Calls Try.prog 35 #[.pointer (some ⟨tb, 0, none⟩), .int .i64 i] w fun e w' => e = .returned (.tuple #[.slice none 0 0, .int .i64 (contE T i)]) ∧ w' = w := by
  have HCo := container_any h i hi
  rw [show contP T i = .pointer none from by unfold contP; rw [if_neg he]] at HCo
  obtain ⟨c, hcc⟩ : ∃ c, contE T i = c := ⟨_, rfl⟩
  rw [hcc] at HCo he ⊢
  have HC := Lib.hid HCo
  have hcb : (c != 0) = true := by simpa using he
  clear HCo h hcc
  go_enter Try.func35, Try.ntmps35
  go_wp2_with (first
    | (go_at_call 37; refine HC.out.mono ?_; rintro e w1 ⟨rfl, hw1⟩; rw [hw1]; clear hw1 w1))
  go_ret2
  exact ⟨rfl, rfl⟩
theorem List_ok {w : World} {base tb mb : Nat} {D : DataW Unit} {T : Tab} (h : TAt w base tb mb D T) (i : Int) (hi : i64 i) (r : Rc) (hT : T i = some r) (hk : r.ob.kind = 1) (hn : r.ob.ents.length < 1000000) :
    Calls Try.prog 35 #[.pointer (some ⟨tb, 0, none⟩), .int .i64 i] w fun e w' => ∃ v', e = .returned (.tuple #[v', .int .i64 0]) ∧ w'.ownsRow w.heap.size 3 1 v' r.ob.ents.length (ivs r.ob.ents) ∧ Below w.heap.size w w' := by
  have HCo := container_any h i hi
  rw [show contP T i = .pointer (some ⟨r.B, 0, none⟩) from by unfold contP contE fnd; rw [hT]; simp [hk], show contE T i = 0 from by unfold contE; rw [hT]; simp [hk]] at HCo
  have HC := Lib.hid HCo
  have HL := Lib.hid (list_any (h.obj i r hT).1 hn)
  clear HCo h
  go_enter Try.func35, Try.ntmps35
  go_wp2_with (first
    | (go_at_call 37; refine HC.out.mono ?_; rintro e w1 ⟨rfl, hw1⟩; rw [hw1]; clear hw1 w1)
    | (go_at_call 57; refine HL.out.mono ?_; rintro e w2 ⟨v', rfl, h1, _, h3⟩; obtain ⟨sp, cp, hv⟩ := row_form h1; subst hv; have H1 := Lib.hid h1; clear h1))
  go_ret2
  exact ⟨_, rfl, H1.out, h3⟩
/-- An object with another label. -/
def labR (r : Rc) (cv : Value) (d : Int) (xs : List (Int × Int)) : Rc := { r with cv := cv, ob := { r.ob with df := d, cats := xs } }
theorem Relabel_none {w : World} {base tb mb : Nat} {D : DataW Unit} {T : Tab} (h : TAt w base tb mb D T) (id d : Int) (p : Option Addr) (cap : Nat) (xs : List (Int × Int)) (hi : i64 id) (hT : T id = none) :
    Calls Try.prog 25 #[.pointer (some ⟨tb, 0, none⟩), .int .i64 id, .agg #[.int .i64 d, .slice p xs.length cap]] w fun e w' => e = .returned (.int .i64 4) ∧ Below w.heap.size w w' := by
  have hW1 : Below w.heap.size w (w.alloc (.cells #[.int .i64 d, .slice p xs.length cap] 24)) := by go_grown
  have HFi := find_any (h.below hW1) id hi
  rw [show fnd T id = .pointer none from by unfold fnd; rw [hT]; rfl] at HFi
  have HF := Lib.hid HFi
  clear h HFi
  go_enter Try.func25, Try.ntmps25
  go_wp2_with (first
    | (go_at_call 39; refine HF.out.mono ?_; rintro e w1 ⟨rfl, hw1⟩; rw [hw1]; clear hw1 w1))
  go_ret
  exact ⟨rfl, hW1⟩
theorem Relabel_kind {w : World} {base tb mb : Nat} {D : DataW Unit} {T : Tab} (h : TAt w base tb mb D T) (id d : Int) (p : Option Addr) (cap : Nat) (xs : List (Int × Int)) (hi : i64 id) (r : Rc) (hT : T id = some r) (hk : r.ob.kind ≠ 4) :
    Calls Try.prog 25 #[.pointer (some ⟨tb, 0, none⟩), .int .i64 id, .agg #[.int .i64 d, .slice p xs.length cap]] w fun e w' => e = .returned (.int .i64 5) ∧ Below w.heap.size w w' := by
  have hW1 : Below w.heap.size w (w.alloc (.cells #[.int .i64 d, .slice p xs.length cap] 24)) := by go_grown
  have HFi := find_any (h.below hW1) id hi
  rw [show fnd T id = .pointer (some ⟨r.B, 0, none⟩) from by unfold fnd; rw [hT]; rfl] at HFi
  have HF := Lib.hid HFi
  obtain ⟨W1, hWe⟩ : ∃ W1, w.alloc (.cells #[.int .i64 d, .slice p xs.length cap] 24) = W1 := ⟨_, rfl⟩
  rw [hWe] at HF hW1
  have c1 : W1.cell? ⟨r.B, 1, none⟩ = some (.int .i64 r.ob.kind) := by rw [← hWe] at hW1 ⊢; simp only [World.cell?, ((h.below hW1).obj id r hT).1.blk]; rfl
  have hkb : (r.ob.kind != 4) = true := by simpa using hk
  clear h HFi
  go_enter Try.func25, Try.ntmps25
  go_wp2_with (first
    | (go_at_call 39; refine HF.out.mono ?_; rintro e w1 ⟨rfl, hw1⟩; rw [hw1]; clear hw1 w1))
  go_ret
  exact ⟨rfl, hW1⟩
set_option maxRecDepth 100000 in
set_option maxHeartbeats 1000000 in
theorem Relabel_four {w : World} {base tb mb : Nat} {D : DataW Unit} {T : Tab} (h : TAt w base tb mb D T) (id d : Int) (p : Option Addr) (cap : Nat) (xs : List (Int × Int)) (hm : xs.length ≤ maxLen) (hc : CatsAt w p xs) (hi : i64 id) (r : Rc) (hT : T id = some r) (hk : r.ob.kind = 4) :
    Calls Try.prog 25 #[.pointer (some ⟨tb, 0, none⟩), .int .i64 id, .agg #[.int .i64 d, .slice p xs.length cap]] w fun e w' =>
      if fitsS d (low 4) xs = true then e = .returned (.int .i64 0) ∧ ∃ cv, TAt w' base tb mb D (upd T id (labR r cv d xs)) ∧ Fm w w' (tfoot tb mb T) (tfoot tb mb (upd T id (labR r cv d xs)))
      else e = .returned (.int .i64 1) ∧ Below w.heap.size w w' := by
  have HFa := Lib.hid (fun (W : World) (hW : CatsAt W p xs) => fits_any d (low 4) p cap xs W hm hW)
  have HLa := Lib.hid (fun (W : World) => lowest_any 4 W)
  obtain ⟨fb, hfb⟩ : ∃ fb, fitsS d (low 4) xs = fb := ⟨_, rfl⟩
  have H16 : Hid (fb = true → xs.length ≤ 16) := fun e => by rw [← hfb] at e; unfold fitsS at e; simp at e; omega
  rw [hfb] at HFa ⊢
  obtain ⟨lo4, hlo4⟩ : ∃ lo4, low 4 = lo4 := ⟨_, rfl⟩
  rw [hlo4] at HFa HLa
  clear hfb hlo4
  have hW1 : Below w.heap.size w (w.alloc (.cells #[.int .i64 d, .slice p xs.length cap] 24)) := by go_grown
  have k0 : (w.alloc (.cells #[.int .i64 d, .slice p xs.length cap] 24)).cell? ⟨w.heap.size, 0, none⟩ = some (.int .i64 d) := by simp [go_sem]
  have k1 : (w.alloc (.cells #[.int .i64 d, .slice p xs.length cap] 24)).cell? ⟨w.heap.size, 1, none⟩ = some (.slice p xs.length cap) := by simp [go_sem]
  have z1 : (w.alloc (.cells #[.int .i64 d, .slice p xs.length cap] 24)).heap.size = w.heap.size + 1 := by simp
  have HFi := find_any (h.below hW1) id hi
  rw [show fnd T id = .pointer (some ⟨r.B, 0, none⟩) from by unfold fnd; rw [hT]; rfl] at HFi
  have HF := Lib.hid HFi
  have ro := ((h.below hW1).obj id r hT).1
  obtain ⟨W1, hWe⟩ : ∃ W1, w.alloc (.cells #[.int .i64 d, .slice p xs.length cap] 24) = W1 := ⟨_, rfl⟩
  have hc1 := hc.below hW1
  rw [hWe] at HF hW1 ro hc1 k0 k1 z1
  have c1 : W1.cell? ⟨r.B, 1, none⟩ = some (.int .i64 4) := by rw [← hk]; simp [World.cell?, ro.blk, cellsR]
  have HCt := Lib.hid hc1
  have HRo := Lib.hid ro
  have HH := Lib.hid h
  clear h HFi hc hc1 ro
  go_enter Try.func25, Try.ntmps25
  go_wp2_with (first
    | (go_at_call 39; refine HF.out.mono ?_; rintro e w1 ⟨rfl, hw1⟩; rw [hw1]; clear hw1 w1))
  have hs1 : w.heap.size < W1.heap.size := by omega
  have K0 := cell_gx (a := ⟨w.heap.size, 0, none⟩) hs1 k0
  have K1 := cell_gx (a := ⟨w.heap.size, 1, none⟩) hs1 k1
  have HFg : Hid (∀ n os, Calls Try.prog 15 #[.agg #[.int .i64 d, .slice p xs.length cap], .int .i64 lo4] (gx W1 n os) fun e w' => e = .returned (.bool fb) ∧ RowKit.Below (gx W1 n os).heap.size (gx W1 n os) w') := fun n os =>
    HFa.out (gx W1 n os) (HCt.out.below (gx_below _ _ _))
  have HLo : Hid (∀ n os, Calls Try.prog 38 #[.int .i64 4] (gx W1 n os) fun e w' => e = .returned (.int .i64 lo4) ∧ RowKit.Below (gx W1 n os).heap.size (gx W1 n os) w') := fun n os => (HLa.out _).mono fun e w' ⟨h1, h2⟩ => ⟨h1, by rw [h2]; exact Below.refl _ _⟩
  clear HLa HFa
  refine wp_region_quiet_gx (by kernel_rfl) (by kernel_rfl) ?_
  repeat (quiet_step (first
    | (go_at_call 15; exact calls_gx (HFg.out _ _))
    | (go_at_call 38; exact calls_gx (HLo.out _ _))))
  refine wpQuiet_nil ?_
  intro _ hw'
  obtain ⟨⟨nq, osq⟩, hw''⟩ := hw'
  subst hw''
  have hb2 : RowKit.Below W1.heap.size W1 (gx W1 nq osq) := gx_below _ _ _
  simp only
  generalize gx W1 nq osq = W2 at hb2 ⊢
  clear K0 K1 HFg HLo
  have hB2 : Below w.heap.size w W2 := hW1.trans (hb2.mono (by omega))
  cases fb with
  | false =>
    go_wp2_with fail
    go_ret
    exact ⟨rfl, hB2⟩
  | true =>
    have k20 := (hb2.cell (p := ⟨w.heap.size, 0, none⟩) hs1).trans k0
    have k21 := (hb2.cell (p := ⟨w.heap.size, 1, none⟩) hs1).trans k1
    have HCp := Lib.hid (copied_any d p cap xs W2 (by have := H16.out rfl; omega) (HCt.out.below hb2))
    go_wp2_with (first
      | (go_at_call 47; refine HCp.out.mono ?_; rintro e w3 ⟨sp3, cp3, rfl, hr3, hb3⟩; refine Hid.out ?_))
    refine Lib.hid ?_
    have hB3 : Below w.heap.size w w3 := hB2.trans (hb3.mono hB2.size)
    have ro3 : RAt w3 base r := HRo.out.same (fun k hk => ((hb3.block k (Nat.lt_of_lt_of_le (HRo.out.lt hk).2 hb2.size)).trans (hb2.block k (HRo.out.lt hk).2)))
    have e5 : w3.cell? ⟨r.B, 5, none⟩ = some (.int .i64 r.ob.df) := by simp [World.cell?, ro3.blk, cellsR]
    have e6 : w3.cell? ⟨r.B, 6, none⟩ = some r.cv := by simp [World.cell?, ro3.blk, cellsR]
    have ef : ∀ o, w3.frozen? ⟨r.B, o, none⟩ = false := fun o => by simp [World.frozen?, ro3.blk]
    have HR3 := Lib.hid hr3
    have HB3 := Lib.hid hB3
    have HRo3 := Lib.hid ro3
    have hz3 := hb3.size
    have hz2 := hB2.size
    clear hr3 hb3 hB3 ro3 hb2 hB2
    go_wp2_with fail
    go_ret
    obtain ⟨W4, hW4⟩ : ∃ W4, (w3.setCell ⟨r.B, 5, none⟩ (.int .i64 d)).setCell ⟨r.B, 6, none⟩ (.slice sp3 xs.length cp3) = W4 := ⟨_, rfl⟩
    have h4s : ∀ k, k ≠ r.B → W4.heap[k]? = w3.heap[k]? := fun k hk => by rw [← hW4, heap_ne _ _ _ hk, heap_ne _ _ _ hk]
    have hrl := (HH.out.obj id r hT).1.lt (k := r.B) (.inl rfl)
    have hcvn : ∀ k, (Value.slice sp3 xs.length cp3).ownBlock = some k → W2.heap.size ≤ k := fun k hk => (HR3.out.lt k hk).1
    have h4r : RAt W4 base (labR r (.slice sp3 xs.length cp3) d xs) := by
      refine ⟨?_, row_mono (row_same HR3.out (fun k hk => h4s k (fun e => ?_))) ?_, row_same HRo3.out.row (fun k hk => h4s k (fun e => by subst e; exact HRo3.out.rowB hk)), HRo3.out.low⟩
      · have hb := HRo3.out.blk
        rw [← hW4, show (labR r (.slice sp3 xs.length cp3) d xs).B = r.B from rfl, heap_setCell_same _ _ _ _ _ _ (heap_setCell_same _ _ _ _ _ _ hb)]; rfl
      · have := hcvn k hk; omega
      · have := HRo3.out.low; omega
    have h4F : Fm w W4 (foot r) (fun _ => False) := by
      refine ⟨?_, ?_, ?_, by rw [← hW4]; simp; omega, fun k hk hf => ?_, fun k hk => hk.elim⟩
      · rw [← hW4]; exact HB3.out.os
      · rw [← hW4]; exact HB3.out.tape
      · rw [← hW4]; exact HB3.out.output
      · rw [h4s k (fun e => hf (.inl e))]; exact HB3.out.block k hk
    have hone := HH.out.one hT (labR r (.slice sp3 xs.length cp3) d xs) h4r rfl rfl (fun k hk => by
      rcases hk with e | e | e
      · exact .inl (.inl e)
      · exact .inr (by have := hcvn k e; omega)
      · exact .inl (.inr (.inr e))) h4F
    refine ⟨rfl, .slice sp3 xs.length cp3, ?_⟩
    rw [hW4]; exact hone
end Go.Proofs.Ytebcnlhgkpaghaa
