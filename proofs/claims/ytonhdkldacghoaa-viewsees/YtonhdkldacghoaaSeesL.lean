/- ViewSees: the law's walk. -/
import Derived.Test.YtonhdkldacghoaaPartsL
import Derived.Test.YtonhdkldacghoaaAllL
import Derived.Test.YtonhdkldacghoaaSeesM
import Derived.Great.BuildSlice
import Derived.Deep.DeepCutAuto
namespace Go.Proofs.Ytonhdkldacghoaa
open Go.RowKit Go.Sort Go.Shelf

/-- The dump's copy, with one object behind it, is made. -/
structure Own (d : List Ob) (w2 X : World) (g cap : Nat) : Prop where
  obs : ObsAt X (some ⟨g, 0, none⟩) (d ++ [sp0])
  cap : d.length + 1 ≤ cap
  lt : g < X.heap.size
  bel : Below w2.heap.size w2 X
theorem Own.below {d : List Ob} {w2 X Y : World} {g cap : Nat} (h : Own d w2 X g cap) (hb : Below X.heap.size X Y) : Own d w2 Y g cap :=
  ⟨h.obs.below hb, h.cap, Nat.lt_of_lt_of_le h.lt hb.size, h.bel.trans (hb.mono h.bel.size)⟩
/-- What was written since W lies at B or behind, and not in v's row. -/
structure WrI (B : Nat) (v : Value) (W X : World) : Prop where
  size : W.heap.size ≤ X.heap.size
  keep : ∀ j, j < W.heap.size → v.ownBlock = some j → X.heap[j]? = W.heap[j]?
  shape : ∀ (j : Nat) (c : Array Value) (t : TypeId), W.heap[j]? = some (Obj.cells c t (0, 0)) → ∃ c' : Array Value, X.heap[j]? = some (Obj.cells c' t (0, 0)) ∧ c'.size = c.size
  bel : Below B W X
theorem WrI.refl (B : Nat) (v : Value) (W : World) : WrI B v W W := ⟨Nat.le_refl _, fun _ _ _ => rfl, fun _ c _ h => ⟨c, h, rfl⟩, Below.refl _ _⟩
theorem WrI.set {B : Nat} {v : Value} {W X : World} (h : WrI B v W X) {j f : Nat} (hj : B ≤ j) (hne : v.ownBlock ≠ some j) (u : Value) : WrI B v W (X.setCell ⟨j, f, none⟩ u) := by
  refine ⟨by rw [size_setCell]; exact h.size, fun k hk hv => ?_, fun k c t hc => ?_, h.bel.setCell (p := ⟨j, f, none⟩) hj _⟩
  · rw [heap_setCell_ne _ _ _ _ (fun e => hne (by rw [← e]; exact hv))]; exact h.keep k hk hv
  · obtain ⟨c', h1, h2⟩ := h.shape k c t hc
    by_cases e : k = j
    · subst e; exact ⟨_, heap_setCell h1, by simp [h2]⟩
    · exact ⟨c', by rw [heap_setCell_ne _ _ _ _ e]; exact h1, h2⟩
theorem WrI.cell {B : Nat} {v : Value} {W X : World} (h : WrI B v W X) {t m : Nat} {b off : Nat} (hw : Wrt t m W (some ⟨b, off, none⟩)) {i : Nat} (hi : i < m) : (∃ u, X.cell? ⟨b, off + i, none⟩ = some u) ∧ X.frozen? ⟨b, off + i, none⟩ = false ∧ b < X.heap.size := by
  obtain ⟨c, h1, h2, _⟩ := hw _ rfl
  obtain ⟨c', h3, h4⟩ := h.shape b c t h1
  simp only at h2
  refine ⟨⟨c'[off + i]'(by omega), ?_⟩, frozen_of_row _ _ _ _ _ h3, (Array.getElem?_eq_some_iff.1 h3).1⟩
  exact heap_cells h3 (Array.getElem?_eq_getElem (by omega))
/-- What is seen, in new memory. -/
structure SB (d : List Ob) (l : Lab) (root : Int) (W X : World) (v : Value) (os : List Ob) : Prop where
  eq : ∀ vs, VisOk d l root vs → allB os (vs.map (oU d)) = true
  len : os.length ≤ 1000
  row : X.ownsRow W.heap.size 42 38 v os.length (obsC os)
  new : ∀ o ∈ os, ObNew W.heap.size X o
  ap : ∀ o ∈ os, ObAp v.ownBlock o
  bel : Below W.heap.size W X
theorem SB.below {d : List Ob} {l : Lab} {root : Int} {W X Y : World} {v : Value} {os : List Ob} (h : SB d l root W X v os) (hb : Below X.heap.size X Y) : SB d l root W Y v os :=
  ⟨h.eq, h.len, row_keep h.row (fun j hj => hb.block j (h.row.lt j hj).2), fun o ho => (h.new o ho).below hb, h.ap, h.bel.trans (hb.mono h.bel.size)⟩
set_option maxRecDepth 100000 in
set_option maxHeartbeats 4000000 in
theorem ViewSees_any (d : List Ob) (p : Option Addr) (cap : Nat) (root : Int) (l : Lab) (w : World) (h : ObsAt w p d) (hm : d.length ≤ maxLen) (hpn : p = none → cap = 0) (hF : ∀ o ∈ d, o.Fits) (hl : CatsAt w l.p l.xs) (hlm : l.xs.length ≤ maxLen) (hr : i64 root) :
    Calls Try.prog 4 #[.slice p d.length cap, .int .i64 root, l.val] w fun e w' => e = .returned (.bool true) ∧ Below w.heap.size w w' := by
  obtain ⟨i0, hi, hz0, hz1, hz2⟩ := info_parts obInfo
  obtain ⟨W0, hW0⟩ : ∃ W0, w.alloc (.cells #[.int .i64 l.d, .slice l.p l.xs.length l.cap] 25) = W0 := ⟨_, rfl⟩
  have hB0 : Below w.heap.size w W0 := by rw [← hW0]; go_grown
  have hz : W0.heap.size = w.heap.size + 1 := by rw [← hW0]; simp
  have hX0 : Bl l w.heap.size W0 W0 := ⟨Below.refl _ _, by rw [← hW0]; simp [go_sem], by rw [← hW0]; simp [go_sem]⟩
  have hn0 : w.heap.size < W0.heap.size := by omega
  have HN : Hid (∀ X Y, Bl l w.heap.size W0 X → Below X.heap.size X Y → Bl l w.heap.size W0 Y) := Lib.hid (fun X Y h hb => h.next hb hn0)
  have HZ : Hid (∀ X, Bl l w.heap.size W0 X → w.heap.size < X.heap.size) := Lib.hid (fun X h => by have := h.bel.size; omega)
  have HC : Hid (∀ X, Bl l w.heap.size W0 X → CatsAt X l.p l.xs ∧ ObsAt X p d) := Lib.hid (fun X h' => ⟨(hl.below hB0).below h'.bel, (h.below hB0).below h'.bel⟩)
  have HL0 := Lib.hid (lives_any W0)
  have HBe : Hid (∀ X, Bl l w.heap.size W0 X → Below w.heap.size w X) := Lib.hid (fun X h' => hB0.trans (h'.bel.mono hB0.size))
  have HLm := Lib.hid hlm
  have HM := Lib.hid hm
  have HFt := Lib.hid hF
  clear hl h hz hB0 hlm hm hF
  unfold Lab.val
  go_enter Try.func4, Try.ntmps4
  go_wp2_with (go_at_call 8; refine HL0.out.mono ?_; rintro e w1 ⟨rfl, hb1⟩; refine Hid.out ?_)
  refine Lib.hid ?_
  have hX1 := HN.out _ _ hX0 hb1
  have HFw := Lib.hid (few_any w1 p cap d (HC.out _ hX1).2 HM.out)
  clear hW0 HL0 hb1 hX0
  by_cases hfw : fewB d = true
  · rw [hfw] at HFw
    go_wp2_with (go_at_call 9; refine HFw.out.mono ?_; rintro e w2 ⟨rfl, hb2⟩; refine Hid.out ?_)
    refine Lib.hid ?_
    have hX2 := HN.out _ _ hX1 hb2
    obtain ⟨hfe, hd100, _, _⟩ := few_of hfw
    have HFew := Lib.hid hfe
    have HX2 := Lib.hid hX2
    have hrow0 : (w2.alloc (.cells #[] 42)).ownsRow w2.heap.size 42 38 (.slice (some ⟨w2.heap.size, 0, none⟩) 0 0) 0 [] := World.ownsRow_lit (base := w2.heap.size) (e := 42) (size := 38) w2 #[] 0 (Nat.le_refl _) (by decide) rfl
    have hbA : Below w2.heap.size w2 (w2.alloc (.cells #[] 42)) := by go_grown
    have hobs2 := (HC.out _ hX2).2
    obtain ⟨spc, hspc⟩ : ∃ c, sp0.cs = c := ⟨_, rfl⟩
    have hspz : spc.size = 38 := by rw [← hspc]; exact Ob.size (sp0_ok w2).st
    have HSB : Hid (Try.prog.built 42 [(2, .string ⟨#[115, 112, 97, 114, 101]⟩)] = some spc) := Lib.hid (by rw [← hspc]; exact sp0_built)
    have HSL : Hid (Try.prog.builtSlice 42 1 [(0, .agg spc)] = some spc) := Lib.hid (built_ob hspz)
    have HSC : Hid (spc = sp0.cl.toArray) := Lib.hid (by rw [← hspc]; rfl)
    have HSl : Hid (sp0.cl.length = 1 * 38) := Lib.hid (Ob.clen (sp0_ok w2).st)
    have HSo : Hid (∀ u ∈ sp0.cl, u.oneCell' = true) := Lib.hid (fun u hu => obs_one (d := [sp0]) u (by simpa [obsC] using hu))
    clear HFw hX1 hb2 hfw hfe hX2 hspc hspz
    have hE : ∀ X, Own d w2 X 0 0 → True := fun _ _ => trivial
    clear hE
    go_upto_region 5 with fail
    go_cut [7] (fun v wx => ∃ g4 cap4, v = .slice (some ⟨g4, 0, none⟩) (d.length + 1) cap4 ∧ Own d w2 wx g4 cap4)
    case first =>
      cases p with
      | none =>
        have hd0 := obs_nil hobs2
        have hc0 := hpn rfl
        subst hd0
        subst hc0
        simp only [List.length_nil]
        go_wp2_with (first
          | (refine wpList_buildTo rfl 42 _ rfl _ rfl spc (by simp only [List.map_toArray, List.map_cons, List.map_nil]; exact HSB.out) ?_; refine Hid.out ?_)
          | (at_builtin; refine wpList_append_own_none rfl _ _ 22 rfl w2.heap.size 42 i0 38 Try.underlying22 hi (.slice (some ⟨w2.heap.size, 0, none⟩) 0 0) _ _ rfl hrow0 rfl ?_))
        refine Lib.hid ?_
        obtain ⟨w3, hw3⟩ : ∃ w3, w2.alloc (.cells #[] 42) = w3 := ⟨_, rfl⟩
        rw [hw3] at hrow0 hbA ⊢
        clear hw3
        have hownL := hrow0.alloc (.cells spc 42)
        have HO : Hid (∀ i u, sp0.cl[i]? = some u → (w3.alloc (.cells spc 42)).cell? ((⟨w3.heap.size, 0, none⟩ : Addr).add i) = some u) := Lib.hid (fun i u hu => by
          rw [addr_plus, Nat.zero_add]
          exact heap_cells (heap_new w3 _) (by rw [HSC.out]; simpa using hu))
        have hbs : w2.heap.size ≤ (w3.alloc (.cells spc 42)).heap.size := by have := hbA.size; simp; omega
        go_wp2_with (first
          | (refine Great.wpList_buildSliceTo rfl 22 42 1 _ rfl w3.heap.size rfl _ rfl Try.underlying22 spc (by simp only [List.map_toArray, List.map_cons, List.map_nil]; exact HSL.out) ?_)
          | (at_builtin; refine wpList_append_own _ rfl _ _ 22 rfl w2.heap.size 42 i0 (.agg #[.int .i64 0, .int .i64 0, .int .i64 0, .int .i64 0, .int .i64 0, .int .i64 0, .slice none 0 0, .slice none 0 0, .string ⟨#[]⟩, .slice none 0 0, .int .i64 0, .slice none 0 0, .int .i64 0, .int .i64 0, .int .u64 0, .int .u64 0, .int .u64 0, .int .u64 0, .int .u64 0, .int .u64 0, .int .u64 0, .int .u64 0, .int .u64 0, .int .u64 0, .int .u64 0, .int .u64 0, .int .u64 0, .int .u64 0, .int .u64 0, .int .u64 0, .int .u64 0, .int .u64 0, .int .i64 0, .int .i64 0, .int .i64 0, .slice none 0 0, .string ⟨#[]⟩, .string ⟨#[]⟩]) 38 408 Try.underlying22 hi hz0 hz1 hz2 rfl (by decide) (.slice (some ⟨w2.heap.size, 0, none⟩) 0 0) _ _ rfl hownL ⟨w3.heap.size, 0, none⟩ 1 1 sp0.cl rfl HSl.out HO.out HSo.out (by unfold maxLen; simp) (by simp) hbs ?_; intro v4 w4 hown4 hgrow4 hnil4; refine Hid.out ?_))
        refine Lib.hid ?_
        have hB4 : Below w2.heap.size w2 w4 := Below.grown (hbA.alloc hbA.size _) hgrow4 hbs (fun j hj => (hownL.lt j hj).1)
        obtain ⟨g4, cap4, hv4, hc4⟩ : ∃ g4 cap4, v4 = .slice (some ⟨g4, 0, none⟩) (0 + 1) cap4 ∧ 0 + 1 ≤ cap4 := by
          rcases hown4.2 with ⟨_, h0⟩ | ⟨g, c, _, h1, _, _, h4, _⟩
          · omega
          · exact ⟨g, c, h1, h4⟩
        subst hv4
        have hlt4 := (hown4.lt g4 rfl).2
        have HOwn : Hid (Own [] w2 w4 g4 cap4) := Lib.hid ⟨by
          refine obs_row (B := w2.heap.size) (c := cap4) ?_ (fun o ho => ?_)
          · rw [List.length_append, obsC_append]; simpa [obsC] using hown4
          · rcases List.mem_append.1 ho with ho | ho
            · obtain ⟨j, hj, rfl⟩ := List.getElem_of_mem ho
              obtain ⟨_, _, _, _, _, hk⟩ := (hobs2.below hB4) j hj
              exact hk
            · simp at ho; subst ho; exact sp0_ok w4, hc4, hlt4, hB4⟩
        clear hown4 hgrow4 hnil4 hownL
        go_wp2
        go_meet
        exact ⟨g4, cap4, rfl, HOwn.out⟩
      | some ad =>
        have HNw : Hid (∀ j u, (obsC d)[j]? = some u → (w2.alloc (.cells #[] 42)).cell? (ad.add j) = some u) := Lib.hid (fun j u hu => by
          cases hd : d with
          | nil => rw [hd] at hu; simp [obsC] at hu
          | cons o d' =>
            obtain ⟨b, off, e, _⟩ := hobs2 0 (by rw [hd]; simp)
            cases e
            exact obs_cells (hobs2.below hbA) j u hu)
        have HLn : Hid ((obsC d).length = d.length * 38) := Lib.hid (obsC_len (fun o ho => by
          obtain ⟨k, hk, rfl⟩ := List.getElem_of_mem ho
          obtain ⟨_, _, _, _, _, hok⟩ := hobs2 k hk
          exact hok.st))
        have h63 : 0 + d.length ≤ maxLen := by unfold maxLen; omega
        have hby : (0 + d.length) * 408 ≤ 140737488355328 := by omega
        have hbs0 : w2.heap.size ≤ (w2.alloc (.cells #[] 42)).heap.size := by simp
        have HSt := Lib.hid hrow0
        go_wp2_with (first
          | (refine wpList_buildTo rfl 42 _ rfl _ rfl spc (by simp only [List.map_toArray, List.map_cons, List.map_nil]; exact HSB.out) ?_; refine Hid.out ?_)
          | (at_builtin; refine wpList_append_own _ rfl _ _ 22 rfl w2.heap.size 42 i0 (.agg #[.int .i64 0, .int .i64 0, .int .i64 0, .int .i64 0, .int .i64 0, .int .i64 0, .slice none 0 0, .slice none 0 0, .string ⟨#[]⟩, .slice none 0 0, .int .i64 0, .slice none 0 0, .int .i64 0, .int .i64 0, .int .u64 0, .int .u64 0, .int .u64 0, .int .u64 0, .int .u64 0, .int .u64 0, .int .u64 0, .int .u64 0, .int .u64 0, .int .u64 0, .int .u64 0, .int .u64 0, .int .u64 0, .int .u64 0, .int .u64 0, .int .u64 0, .int .u64 0, .int .u64 0, .int .i64 0, .int .i64 0, .int .i64 0, .slice none 0 0, .string ⟨#[]⟩, .string ⟨#[]⟩]) 38 408 Try.underlying22 hi hz0 hz1 hz2 rfl (by decide) (.slice (some ⟨w2.heap.size, 0, none⟩) 0 0) _ _ rfl hrow0 ad d.length cap (obsC d) rfl HLn.out HNw.out obs_one h63 hby hbs0 ?_; intro v3 w3 hown3 hgrow3 hnil3))
        refine Lib.hid ?_
        have hb3 : Below w2.heap.size w2 w3 := Below.grown hbA hgrow3 hbs0 (fun j hj => (HSt.out.lt j hj).1)
        have hrow3 : w3.ownsRow w2.heap.size 42 38 v3 d.length (obsC d) := by
          have := hown3
          rw [Nat.zero_add, List.nil_append] at this; exact this
        have h63' : d.length + 1 ≤ maxLen := by unfold maxLen; omega
        have hby' : (d.length + 1) * 408 ≤ 140737488355328 := by omega
        clear hbA hrow0 hown3 hgrow3 hnil3 HNw HLn h63 hby hbs0 HSt
        have hbA := hb3
        have hrow0 := hrow3
        clear hb3 hrow3
        have hownL := hrow0.alloc (.cells spc 42)
        have HO : Hid (∀ i u, sp0.cl[i]? = some u → (w3.alloc (.cells spc 42)).cell? ((⟨w3.heap.size, 0, none⟩ : Addr).add i) = some u) := Lib.hid (fun i u hu => by
          rw [addr_plus, Nat.zero_add]
          exact heap_cells (heap_new w3 _) (by rw [HSC.out]; simpa using hu))
        have hbs : w2.heap.size ≤ (w3.alloc (.cells spc 42)).heap.size := by have := hbA.size; simp; omega
        go_wp2_with (first
          | (refine Great.wpList_buildSliceTo rfl 22 42 1 _ rfl w3.heap.size rfl _ rfl Try.underlying22 spc (by simp only [List.map_toArray, List.map_cons, List.map_nil]; exact HSL.out) ?_)
          | (at_builtin; refine wpList_append_own _ rfl _ _ 22 rfl w2.heap.size 42 i0 (.agg #[.int .i64 0, .int .i64 0, .int .i64 0, .int .i64 0, .int .i64 0, .int .i64 0, .slice none 0 0, .slice none 0 0, .string ⟨#[]⟩, .slice none 0 0, .int .i64 0, .slice none 0 0, .int .i64 0, .int .i64 0, .int .u64 0, .int .u64 0, .int .u64 0, .int .u64 0, .int .u64 0, .int .u64 0, .int .u64 0, .int .u64 0, .int .u64 0, .int .u64 0, .int .u64 0, .int .u64 0, .int .u64 0, .int .u64 0, .int .u64 0, .int .u64 0, .int .u64 0, .int .u64 0, .int .i64 0, .int .i64 0, .int .i64 0, .slice none 0 0, .string ⟨#[]⟩, .string ⟨#[]⟩]) 38 408 Try.underlying22 hi hz0 hz1 hz2 rfl (by decide) v3 _ _ rfl hownL ⟨w3.heap.size, 0, none⟩ 1 1 sp0.cl rfl HSl.out HO.out HSo.out h63' hby' hbs ?_; intro v4 w4 hown4 hgrow4 hnil4; refine Hid.out ?_))
        refine Lib.hid ?_
        have hB4 : Below w2.heap.size w2 w4 := Below.grown (hbA.alloc hbA.size _) hgrow4 hbs (fun j hj => (hownL.lt j hj).1)
        obtain ⟨g4, cap4, hv4, hc4⟩ : ∃ g4 cap4, v4 = .slice (some ⟨g4, 0, none⟩) (d.length + 1) cap4 ∧ d.length + 1 ≤ cap4 := by
          rcases hown4.2 with ⟨_, h0⟩ | ⟨g, c, _, h1, _, _, h4, _⟩
          · omega
          · exact ⟨g, c, h1, h4⟩
        subst hv4
        have hlt4 := (hown4.lt g4 rfl).2
        have HOwn : Hid (Own d w2 w4 g4 cap4) := Lib.hid ⟨by
          refine obs_row (B := w2.heap.size) (c := cap4) ?_ (fun o ho => ?_)
          · rw [List.length_append, obsC_append]; simpa [obsC] using hown4
          · rcases List.mem_append.1 ho with ho | ho
            · obtain ⟨j, hj, rfl⟩ := List.getElem_of_mem ho
              obtain ⟨_, _, _, _, _, hk⟩ := (hobs2.below hB4) j hj
              exact hk
            · simp at ho; subst ho; exact sp0_ok w4, hc4, hlt4, hB4⟩
        clear hown4 hgrow4 hnil4 hownL
        go_wp2
        go_meet
        exact ⟨g4, cap4, rfl, HOwn.out⟩
    case rest =>
      obtain ⟨g4, cap4, rfl, hOw⟩ := hcut
      obtain ⟨W4, hW4⟩ : ∃ W4, wc = W4 := ⟨_, rfl⟩
      rw [hW4] at hOw ⊢
      have hX4 := HN.out _ _ HX2.out hOw.bel
      have hcap4 := hOw.cap
      have hlt4 := hOw.lt
      have c0 := hX4.c0
      have c1 := hX4.c1
      have hn4 := HZ.out _ hX4
      have HOw := Lib.hid hOw
      have HX4 := Lib.hid hX4
      have HVs : Hid (∀ X, Below W4.heap.size W4 X → Calls Try.prog 10 #[.slice (some ⟨g4, 0, none⟩) d.length cap4, .int .i64 root, .agg #[.int .i64 l.d, .slice l.p l.xs.length l.cap]] X fun e X' => ∃ (sa : Option Addr) (ca : Nat) (va : List Int), e = .returned (.slice sa va.length ca) ∧ VisOk d l root va ∧ va.length ≤ 1000 ∧ IntsAt X' sa va ∧ Below W4.heap.size W4 X') := Lib.hid (fun X hX => by
        have hY := HN.out _ _ HX4.out hX
        refine (Visible_any d (some ⟨g4, 0, none⟩) cap4 root l X HFew.out (obs_take (HOw.out.below hX).obs) (HC.out _ hY).1 HLm.out hr).mono ?_
        rintro e X' ⟨v, vs, rfl, hvl, hvis, hrow, hb⟩
        obtain ⟨sp, c, rfl⟩ := row_form hrow
        exact ⟨sp, c, vs, rfl, hvis, hvl, row_ints hrow, hX.trans (hb.mono hX.size)⟩)
      have hdi : (d.length : Int) ≤ (cap4 : Int) := by omega
      have hd0 : (0 : Int) ≤ (d.length : Int) := by omega
      clear hW4 hOw hX4 HX2 hobs2 hrow0 hbA HSB HSL HSC HSl HSo
      go_upto_region 6 with fail
      go_cut [8] (fun v wx => ∃ (sa : Option Addr) (ca : Nat) (va : List Int), v = .slice sa va.length ca ∧ VisOk d l root va ∧ va.length ≤ 1000 ∧ IntsAt wx sa va ∧ Below W4.heap.size W4 wx)
      case first =>
        go_region_law (go_simp; go_at_call 10; with_reducible refine Calls.mono (HVs.out _ (by first | exact Below.refl _ _ | exact (Below.refl W4.heap.size W4).drew)) ?_; rintro e X5 ⟨sa, ca, va, rfl, hva, hvl, hia, hb5⟩; have Hva := Lib.hid hva; have Hia := Lib.hid hia; have Hb5 := Lib.hid hb5; have Hvl := Lib.hid hvl; clear hva hia hb5 hvl)
        all_goals (go_wp2_with fail; go_meet; exact ⟨sa, ca, va, rfl, Hva.out, Hvl.out, Hia.out, Hb5.out⟩)
      case rest =>
        obtain ⟨sa, ca, va, rfl, hva, hvl, hia, hb5⟩ := hcut
        rename World => wq
        obtain ⟨W5, hW5⟩ : ∃ W5, wq = W5 := ⟨_, rfl⟩
        rw [hW5] at hia hb5 ⊢
        have hX5 := HN.out _ _ HX4.out hb5
        have hO5 := HOw.out.below hb5
        have HOw5 := Lib.hid hO5
        have HX5 := Lib.hid hX5
        have HVa := Lib.hid hva
        have HIa := Lib.hid hia
        clear c0 c1 hn4 hlt4 hW5 hva hia HVs HOw HX4
        have c0 := hX5.c0
        have c1 := hX5.c1
        have hn5 := HZ.out _ hX5
        have hlt5 := hO5.lt
        have HSe : Hid (∀ X, Below W5.heap.size W5 X → Calls Try.prog 16 #[.slice (some ⟨g4, 0, none⟩) d.length cap4, .int .i64 root, .agg #[.int .i64 l.d, .slice l.p l.xs.length l.cap]] X fun e X' => ∃ (sb : Option Addr) (cb : Nat) (ob : List Ob), e = .returned (.slice sb ob.length cb) ∧ SB d l root W5 X' (.slice sb ob.length cb) ob) := Lib.hid (fun X hX => by
          have hY := HN.out _ _ HX5.out hX
          refine (See_any d (some ⟨g4, 0, none⟩) cap4 root l X HFew.out HFt.out (obs_take (HOw5.out.below hX).obs) (HC.out _ hY).1 HLm.out hr).mono ?_
          rintro e X' ⟨v, os, zs, rfl, hS⟩
          obtain ⟨sp, c, rfl⟩ := row_form hS.row
          exact ⟨sp, c, os, rfl, ⟨fun vs hv => see_eq hS hv, by have := len_con hS.con; have := hS.len; omega, row_mono hS.row hX.size, fun o ho => ⟨(hS.new o ho).ok, (hS.new o ho).over.mono hX.size, (hS.new o ho).wL, (hS.new o ho).wl⟩, hS.ap, hX.trans (hS.bel.mono hX.size)⟩⟩)
        clear hX5 hO5 hb5
        go_upto_region 7 with fail
        go_cut [9] (fun v wx => ∃ (sb : Option Addr) (cb : Nat) (ob : List Ob), v = .slice sb ob.length cb ∧ SB d l root W5 wx (.slice sb ob.length cb) ob)
        case first =>
          go_region_law (go_simp; go_at_call 16; with_reducible refine Calls.mono (HSe.out _ (by first | exact Below.refl _ _ | exact (Below.refl W5.heap.size W5).drew)) ?_; rintro e X6 ⟨sb, cb, ob, rfl, hsb⟩; have Hsb := Lib.hid hsb; clear hsb)
          all_goals (go_wp2_with fail; go_meet; exact ⟨sb, cb, ob, rfl, Hsb.out⟩)
        case rest =>
          obtain ⟨sb, cb, ob, rfl, hsb⟩ := hcut
          rename World => wq2
          obtain ⟨W6, hW6⟩ : ∃ W6, wq2 = W6 := ⟨_, rfl⟩
          rw [hW6] at hsb ⊢
          have hX6 := HN.out _ _ HX5.out hsb.bel
          have hdm : d.length ≤ 100 := hd100
          have HRV := Lib.hid (RVis_any d p cap root l W6 hdm (HC.out _ hX6).2 (HC.out _ hX6).1 HLm.out)
          unfold Lab.val at HRV
          have HSB6 := Lib.hid hsb
          have HX6 := Lib.hid hX6
          clear c0 c1 hn5 hlt5 hW6 HSe
          have c0 := hX6.c0
          have c1 := hX6.c1
          have hn6 := HZ.out _ hX6
          clear hX6 hsb
          go_wp2_with (go_at_call 18; refine HRV.out.mono ?_; rintro e w7 ⟨sr, cr, vr, rfl, hvr, hir, _, hb7⟩; refine Hid.out ?_)
          refine Lib.hid ?_
          have heq := HVa.out.eq hvr
          subst heq
          have hX7 := HN.out _ _ HX6.out hb7
          have hS7 := HSB6.out.below hb7
          have hb57 : Below W5.heap.size W5 w7 := hS7.bel
          have HSI := Lib.hid (SameInts_any w7 sa sr ca cr va va (HIa.out.below hb57) hir (by unfold maxLen; omega))
          rw [show (va == va) = true from by simp] at HSI
          clear HRV c0 c1 hn6 hb7 hir hvr
          go_wp2_with (go_at_call 17; refine HSI.out.mono ?_; rintro e w8 ⟨rfl, hb8⟩; refine Hid.out ?_)
          refine Lib.hid ?_
          have hX8 := HN.out _ _ hX7 hb8
          have hS8 := hS7.below hb8
          have HRS : Hid (Calls Try.prog 20 #[.slice p d.length cap, .int .i64 root, .agg #[.int .i64 l.d, .slice l.p l.xs.length l.cap]] w8 fun e w' => ∃ (st : Option Addr) (ct : Nat) (ot : List Ob), e = .returned (.slice st ot.length ct) ∧ (∃ vt, VisOk d l root vt ∧ ot = vt.map (oU d)) ∧ ObsAt w' st ot ∧ Below w8.heap.size w8 w') := Lib.hid ((RSee_any d p cap root l w8 hdm (HC.out _ hX8).2 (HC.out _ hX8).1 HLm.out).mono fun e w' ⟨st, ct, vt, h1, h2, h3, h4⟩ => ⟨st, ct, vt.map (oU d), h1, ⟨vt, h2, rfl⟩, h3, h4⟩)
          have c0 := hX8.c0
          have c1 := hX8.c1
          have hn8 := HZ.out _ hX8
          clear HSI hb8 hX7 hS7 hb57
          go_wp2_with (go_at_call 20; refine HRS.out.mono ?_; rintro e w9 ⟨st, ct, ot, rfl, hvt, hot, hb9⟩; refine Hid.out ?_)
          refine Lib.hid ?_
          have hX9 := HN.out _ _ hX8 hb9
          have hS9 := hS8.below hb9
          have HAl := Lib.hid (all_any sb st cb ct ob ot w9 (by have := hS9.len; unfold maxLen; omega) (obs_row hS9.row (fun o ho => (hS9.new o ho).ok)) hot)
          rw [show allB ob ot = true from by obtain ⟨vt, h1, rfl⟩ := hvt; exact hS9.eq vt h1] at HAl
          clear HRS c0 c1 hn8 hb9 hX8 hS8 hot hvt
          go_wp2_with (go_at_call 19; refine HAl.out.mono ?_; rintro e w10 ⟨rfl, hb10⟩; refine Hid.out ?_)
          refine Lib.hid ?_
          have hX10 := HN.out _ _ hX9 hb10
          have hS10 := hS9.below hb10
          have hO10 := HOw5.out.below hS10.bel
          have hbl := hO10.obs d.length (by simp)
          obtain ⟨bg, fg, hgeq, hbg, hatg, _⟩ := hbl
          cases hgeq
          have k8 : w10.cell? ⟨g4, d.length * 38 + 8, none⟩ = some (.string ⟨#[115, 112, 97, 114, 101]⟩) := by
            have := hatg 8 (.string ⟨#[115, 112, 97, 114, 101]⟩) (by rw [List.getElem_append_right (Nat.le_refl _)]; simp [Ob.head, Ob.hd, sp0])
            simpa using this
          have hdl : (d.length : Int) < ((d.length + 1 : Nat) : Int) := by omega
          have HS10 := Lib.hid hS10
          have HX10 := Lib.hid hX10
          have HO10 := Lib.hid hO10
          clear HAl hb10 hX9 hS9 hS10 hX10 hO10 hatg HSB6 HX6
          go_upto_region 10 with fail
          have hbsz := HS10.out.len
          go_wp2_with fail
          go_loopw [65] (fun iv wr => ∃ i : Nat, iv = .int .i64 i ∧ i ≤ ob.length ∧ WrI W5.heap.size (.slice sb ob.length cb) w10 wr) (fun iv _ => ob.length - (intOf iv).toNat)
          case atStart => exact ⟨0, rfl, Nat.zero_le _, WrI.refl _ _ _⟩
          case round =>
            obtain ⟨i, rfl, hi', hI⟩ := hrel
            by_cases hlt : i < ob.length
            · have hii : (i : Int) < (ob.length : Int) := by omega
              obtain ⟨gb, fb, hsbe, hgb, hatb, hokb⟩ := (obs_row HS10.out.row (fun o ho => (HS10.out.new o ho).ok)) i hlt
              have hnew := HS10.out.new ob[i] (List.getElem_mem hlt)
              have hap := HS10.out.ap ob[i] (List.getElem_mem hlt)
              subst hsbe
              obtain ⟨o, ho⟩ : ∃ o, ob[i] = o := ⟨_, rfl⟩
              rw [ho] at hatb hokb hnew hap
              have HK7 : Hid (∀ X, WrI W5.heap.size (.slice (some ⟨gb, fb, none⟩) ob.length cb) w10 X → X.cell? ⟨gb, fb + i * 38 + 7, none⟩ = some (.slice o.lp o.ls.length o.lc) ∧ X.cell? ⟨gb, fb + i * 38 + 6, none⟩ = some (.slice o.L.p o.L.xs.length o.L.cap) ∧ gb < X.heap.size) := Lib.hid (fun X hX => by
                have hk := hX.keep gb hgb rfl
                refine ⟨(World.cell?_of_block (a := ⟨gb, fb + i * 38 + 7, none⟩) hk).trans (hatb 7 _ (by rw [Ob.head _ _ (by decide)]; rfl)), (World.cell?_of_block (a := ⟨gb, fb + i * 38 + 6, none⟩) hk).trans (hatb 6 _ (by rw [Ob.head _ _ (by decide)]; rfl)), Nat.lt_of_lt_of_le hgb hX.size⟩)
              have HNew := Lib.hid hnew
              have HAp := Lib.hid hap
              have HOkb := Lib.hid hokb
              have hlm7 := hokb.lm
              have hLm7 := hokb.Lm
              unfold maxLen at hlm7 hLm7
              obtain ⟨q7, q6, hg7⟩ := HK7.out _ hI
              have HI := Lib.hid hI
              obtain ⟨wo, hwo⟩ : ∃ wo, wo = wr := ⟨_, rfl⟩
              rw [← hwo] at q7 q6 hg7 HI ⊢
              clear hatb hokb hnew hap hwo hI ho
              go_wp2_with fail
              go_loopw [74] (fun jv wr => ∃ j : Nat, jv = .int .i64 j ∧ j ≤ o.ls.length ∧ WrI W5.heap.size (.slice (some ⟨gb, fb, none⟩) ob.length cb) w10 wr) (fun jv _ => o.ls.length - (intOf jv).toNat)
              case atStart => exact ⟨0, rfl, Nat.zero_le _, HI.out⟩
              case round =>
                clear q7 q6 hg7 HI
                obtain ⟨j, rfl, hj, hI⟩ := hrel
                obtain ⟨q7, q6, hg7⟩ := HK7.out _ hI
                by_cases hltj : j < o.ls.length
                · have hjj : (j : Int) < (o.ls.length : Int) := by omega
                  obtain ⟨bl, ol, hlp, _, _⟩ := HNew.out.ok.ls j hltj
                  obtain ⟨⟨u, hu⟩, hfz, hbl⟩ := hI.cell (by rw [← hlp]; exact HNew.out.wl) hltj
                  have HI2 := Lib.hid (hI.set (f := ol + j) (HNew.out.over.ls _ hlp).1 (HAp.out.ls _ hlp) (.int .i64 (-1)))
                  rw [hlp] at q7 ⊢
                  clear hI q6 hlp
                  go_wp2_with fail
                  go_roundw
                  case rel => exact ⟨j + 1, by go_num, by omega, HI2.out⟩
                  case measure => simp [intOf]; omega
                · have hjj : ¬ (j : Int) < (o.ls.length : Int) := by omega
                  have HI := Lib.hid hI
                  obtain ⟨wp', hwp⟩ : ∃ wp', wp' = wr := ⟨_, rfl⟩
                  rw [← hwp] at q7 q6 hg7 HI ⊢
                  clear hI hwp q7
                  go_wp2_with fail
                  go_loopw [93] (fun jv wr => ∃ j : Nat, jv = .int .i64 j ∧ j ≤ o.L.xs.length ∧ WrI W5.heap.size (.slice (some ⟨gb, fb, none⟩) ob.length cb) w10 wr) (fun jv _ => o.L.xs.length - (intOf jv).toNat)
                  case atStart => exact ⟨0, rfl, Nat.zero_le _, HI.out⟩
                  case round =>
                    clear q6 hg7 HI
                    obtain ⟨m, rfl, hm', hI⟩ := hrel
                    obtain ⟨q7, q6, hg7⟩ := HK7.out _ hI
                    by_cases hltm : m < o.L.xs.length
                    · have hmm : (m : Int) < (o.L.xs.length : Int) := by omega
                      obtain ⟨bl, ol, hlp, _, _, _⟩ := HNew.out.ok.L m hltm
                      obtain ⟨⟨u, hu⟩, hfz, hbl⟩ := hI.cell (i := m * 2 + 1) (by rw [← hlp]; exact HNew.out.wL) (by omega)
                      have HI2 := Lib.hid (hI.set (f := ol + (m * 2 + 1)) (HNew.out.over.L _ hlp).1 (HAp.out.L _ hlp) (.int .i64 9))
                      rw [← Nat.add_assoc] at hu hfz HI2
                      rw [hlp] at q6 ⊢
                      clear hI q7 hlp
                      go_wp2_with fail
                      go_roundw
                      case rel => exact ⟨m + 1, by go_num, by omega, HI2.out⟩
                      case measure => simp [intOf]; omega
                    · have hmm : ¬ (m : Int) < (o.L.xs.length : Int) := by omega
                      have HI := Lib.hid hI
                      clear hI q7 q6 hg7
                      go_wp2_with fail
                      go_roundw
                      case rel => exact ⟨i + 1, by go_num, by omega, HI.out⟩
                      case measure => simp [intOf]; omega
            · have hii : ¬ (i : Int) < (ob.length : Int) := by omega
              have hb5 : Below W5.heap.size W5 wr := HS10.out.bel.trans hI.bel
              have hXr := HN.out _ _ HX5.out hb5
              have HAl := Lib.hid (all_any (some ⟨g4, 0, none⟩) p cap4 cap d d wr HM.out (obs_take (HOw5.out.below hb5).obs) (HC.out _ hXr).2)
              rw [allB_refl] at HAl
              have HXr := Lib.hid (fun Y hb => HBe.out _ (HN.out _ Y hXr hb))
              clear hI hb5 hXr
              go_wp2_with (go_at_call 19; refine HAl.out.mono ?_; rintro e w11 ⟨rfl, hb11⟩)
              go_ret
              exact ⟨rfl, HXr.out _ hb11⟩
  · have hfw' : fewB d = false := by simpa using hfw
    rw [hfw'] at HFw
    go_wp2_with (go_at_call 9; refine HFw.out.mono ?_; rintro e w2 ⟨rfl, hb2⟩)
    go_ret
    exact ⟨rfl, HBe.out _ (HN.out _ _ hX1 hb2)⟩
end Go.Proofs.Ytonhdkldacghoaa
