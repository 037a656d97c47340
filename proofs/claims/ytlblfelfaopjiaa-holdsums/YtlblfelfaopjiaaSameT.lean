/- Two tables of the same objects tell the same. -/
import Derived.Test.YtlblfelfaopjiaaSame4
namespace Go.Proofs.Ytlblfelfaopjiaa
open Go.RowKit Go.Sort
theorem ids_same {w w' : World} {b b' t t' m m' : Nat} {D D' : DataW Unit} {T T' : Tab} {S : Abs} (h : TAt w b t m D T) (h' : TAt w' b' t' m' D' T') (hv : V T S) (hv' : V T' S) : idsD D = idsD D' := by
  obtain ⟨a1, a2, _⟩ := keysD h
  obtain ⟨b1, b2, _⟩ := keysD h'
  exact mergeSort_of_perm_i ((List.perm_ext_iff_of_nodup a1 b1).2 (fun k => by rw [a2, b2, hv.isSome, hv'.isSome]))
theorem ids_mem {w : World} {b t m : Nat} {D : DataW Unit} {T : Tab} (h : TAt w b t m D T) {x : Int} (hx : x ∈ idsD D) : ∃ r, T x = some r := by
  unfold idsD at hx
  rw [List.mem_mergeSort] at hx
  exact Option.isSome_iff_exists.1 (((keysD h).2.1 x).1 hx)
theorem ids_len {w : World} {b t m : Nat} {D : DataW Unit} {T : Tab} (h : TAt w b t m D T) : (idsD D).length = Maps.size D := by
  unfold idsD; rw [List.length_mergeSort]; exact (keysD h).2.2
set_option maxRecDepth 100000 in
set_option maxHeartbeats 8000000 in
theorem same_hi {w : World} {ba ta ma bb tb mb : Nat} {Fa Fb : Nat → Prop} {S : Abs} (ha : HI w ba ta ma Fa S) (hb : HI w bb tb mb Fb S) :
    Calls Try.prog 25 #[.pointer (some ⟨ta, 0, none⟩), .pointer (some ⟨tb, 0, none⟩)] w fun e w' => e = .returned (.bool true) ∧ Below w.heap.size w w' := by
  obtain ⟨Ka, Da, Ta, ha1, ha2, _, ha4⟩ := ha
  obtain ⟨Kb, Db, Tb, hb1, hb2, _, hb4⟩ := hb
  have hza := size_len ha1 ha2 ha4
  have hzb := size_len hb1 hb2 hb4
  have hlen := ha4.len
  have hlen2 := hb4.len
  have hLn := ids_len ha1
  have hLs := ids_same hb1 ha1 hb2 ha2
  have hLm : ∀ x ∈ idsD Da, ∃ r s, Ta x = some r ∧ Tb x = some s ∧ r.ob = s.ob ∧ i64 x ∧ r.ob.ents.length < 1000000 ∧ r.ob.cats.length < 1000000 := fun x hx => by
    obtain ⟨r, hr⟩ := ids_mem ha1 hx
    have hS : S x = some r.ob := by rw [← ha2 x, hr]; rfl
    obtain ⟨s, hs, e⟩ := hb2.some hS
    have g := ha4.ok x r.ob hS
    have := ha4.elen hS
    exact ⟨r, s, hr, hs, e.symm, ct_i64 g.ct, by omega, g.cat⟩
  have HIa := Lib.hid (fun (X : World) (hX : Below w.heap.size w X) => Ids_any (ha1.below hX) (by omega))
  have HIb := Lib.hid (fun (X : World) (hX : Below w.heap.size w X) => Ids_any (hb1.below hX) (by omega))
  rw [hLs] at HIb
  generalize idsD Da = L at *
  have hL4 : L.length ≤ 4096 := by omega
  have HLm := Lib.hid hLm
  have HA := Lib.hid ha1
  have HB := Lib.hid hb1
  clear ha1 ha2 ha4 hb1 hb2 hb4 hza hzb hLn hLs hLm hlen hlen2
  go_enter Try.func25, Try.ntmps25
  go_wp2_with (first
    | (go_at_call 14; refine (HIa.out _ (Below.refl _ _)).mono ?_; rintro e w1 ⟨v1, rfl, hr1, hb1⟩; obtain ⟨sp1, cp1, hv1⟩ := row_form hr1; subst hv1; refine Hid.out ?_))
  refine Lib.hid ?_
  have HR1 := Lib.hid (row_ints hr1)
  clear hr1 HIa
  go_wp2_with (first
    | (go_at_call 14; refine (HIb.out _ hb1).mono ?_; rintro e w2 ⟨v2, rfl, hr2, hb2⟩; obtain ⟨sp2, cp2, hv2⟩ := row_form hr2; subst hv2; refine Hid.out ?_))
  refine Lib.hid ?_
  have B2 : Below w.heap.size w w2 := hb1.trans (hb2.mono hb1.size)
  have hi1 : IntsAt w2 sp1 L := HR1.out.below hb2
  have hSI := SameInts_any w2 sp1 sp2 cp1 cp2 L L hi1 (row_ints hr2) (by omega)
  rw [show (L == L) = true from by simp] at hSI
  have HSI := Lib.hid hSI
  have HI1 := Lib.hid hi1
  clear hr2 hb2 hb1 hSI hi1 HIb HR1
  go_wp2_with (first
    | (go_at_call 38; refine HSI.out.mono ?_; rintro e w3 ⟨rfl, hb3⟩; refine Hid.out ?_))
  refine Lib.hid ?_
  have B3 : Below w.heap.size w w3 := B2.trans (hb3.mono B2.size)
  have HI3 := Lib.hid (HI1.out.below hb3)
  clear hb3 B2 HSI HI1
  go_wp2_with fail
  go_loopw [25] (fun y wr => ∃ k : Nat, y = .int .i64 k ∧ k ≤ L.length ∧ Below w3.heap.size w3 wr) (fun y _ => L.length - (intOf y).toNat)
  case atStart => exact ⟨0, rfl, Nat.zero_le _, Below.refl _ _⟩
  case round =>
    obtain ⟨k, rfl, hk, hB⟩ := hrel
    have Bw : Below w.heap.size w wr := B3.trans (hB.mono B3.size)
    by_cases hlt : k < L.length
    · have hki : (k : Int) < (L.length : Int) := by omega
      obtain ⟨gb, go, rfl, hgl, hgc⟩ := (HI3.out.below hB) k hlt
      obtain ⟨r, s, hr, hs, hrs, hx64, hel, hcl⟩ := HLm.out L[k] (List.getElem_mem hlt)
      obtain ⟨x, hx⟩ : ∃ x, L[k] = x := ⟨_, rfl⟩
      rw [hx] at hgc hr hs hx64
      obtain ⟨o, ho⟩ : ∃ o, r.ob = o := ⟨_, rfl⟩
      have hso : s.ob = o := by rw [← hrs]; exact ho
      have HNa := Lib.hid (fun (X : World) (hX : Below w.heap.size w X) => Info_any (HA.out.below hX) x hx64 r hr (by omega))
      have HNb := Lib.hid (fun (X : World) (hX : Below w.heap.size w X) => Info_any (HB.out.below hX) x hx64 s hs (by rw [← hrs]; omega))
      simp only [infoV] at HNa HNb
      rw [ho] at HNa hel hcl
      rw [hso] at HNb
      have HBw := Lib.hid Bw
      have HBr := Lib.hid hB
      go_wp2_with (first
        | (go_at_call 16; refine (HNa.out _ Bw).mono ?_; rintro e x1 ⟨u1, rfl, ⟨sa, ca, rfl, hra⟩, hc1⟩; refine Hid.out ?_))
      refine Lib.hid ?_
      have B1 : Below w.heap.size w x1 := Bw.trans (hc1.mono Bw.size)
      have hCa : CatsAt x1 sa o.cats := by obtain ⟨p', cap', e, h⟩ := cats_row hra; cases e; exact h
      have HCa := Lib.hid hCa
      have HX1 := Lib.hid hc1
      clear hra hc1 hCa
      go_wp2_with (first
        | (go_at_call 16; refine (HNb.out _ (B1.alloc B1.size _)).mono ?_; rintro e x2 ⟨u2, rfl, ⟨sb, cb, rfl, hrb⟩, hc2⟩; refine Hid.out ?_))
      refine Lib.hid ?_
      have B2 : Below w.heap.size w x2 := (B1.alloc B1.size _).trans (hc2.mono (B1.alloc B1.size _).size)
      have hCb : CatsAt x2 sb o.cats := by obtain ⟨p', cap', e, h⟩ := cats_row hrb; cases e; exact h
      have HCb := Lib.hid hCb
      have HCa2 := Lib.hid ((HCa.out.below ((Below.refl _ _).alloc (Nat.le_refl _) (.cells #[.int .i64 o.id, .int .i64 o.kind, .int .i64 o.quota, .int .i64 o.used, .int .i64 o.links, .int .i64 o.df, .slice sa o.cats.length ca] 44))).below hc2)
      have k2 : x2.heap[x1.heap.size]? = some (.cells #[.int .i64 o.id, .int .i64 o.kind, .int .i64 o.quota, .int .i64 o.used, .int .i64 o.links, .int .i64 o.df, .slice sa o.cats.length ca] 44 (0, 0)) := (hc2.block _ (by simp)).trans (heap_new _ _)
      have hlt1 : x1.heap.size < x2.heap.size := (Array.getElem?_eq_some_iff.1 k2).1
      have HX2 : Hid (Below wr.heap.size wr x2) := HX1.out.trans ((((Below.refl _ _).alloc (Nat.le_refl _) _).trans (hc2.mono (by simp))).mono HX1.out.size)
      clear hrb hc2 hCb HCa HX1 HNa HNb
      by_cases hk1 : o.kind = 1
      · skip
        have HLa := Lib.hid (fun (X : World) (hX : Below w.heap.size w X) => List_ok (HA.out.below hX) x hx64 r hr (by rw [ho]; exact hk1) (by rw [ho]; exact hel))
        have HLb := Lib.hid (fun (X : World) (hX : Below w.heap.size w X) => List_ok (HB.out.below hX) x hx64 s hs (by rw [hso]; exact hk1) (by rw [hso]; exact hel))
        rw [ho] at HLa
        rw [hso] at HLb
        clear hk1
        go_wp2_with (first
          | (go_at_call 15; refine (HLa.out _ (B2.alloc B2.size _)).mono ?_; rintro e x3 ⟨v3, rfl, hr3, hc3⟩; obtain ⟨sp3, cp3, hv3⟩ := row_form hr3; subst hv3; refine Hid.out ?_))
        refine Lib.hid ?_
        have B3' : Below w.heap.size w x3 := (B2.alloc B2.size _).trans (hc3.mono (B2.alloc B2.size _).size)
        have HR3 := Lib.hid (row_ints hr3)
        have HC3 := Lib.hid hc3
        clear hr3 hc3
        go_wp2_with (first
          | (go_at_call 15; refine (HLb.out _ B3').mono ?_; rintro e x4 ⟨v4, rfl, hr4, hc4⟩; obtain ⟨sp4, cp4, hv4⟩ := row_form hr4; subst hv4; refine Hid.out ?_))
        refine Lib.hid ?_
        have B4 : Below w.heap.size w x4 := B3'.trans (hc4.mono B3'.size)
        have hI3 : IntsAt x4 sp3 o.ents := HR3.out.below hc4
        have hI4 : IntsAt x4 sp4 o.ents := row_ints hr4
        have hx34 := HC3.out.trans (hc4.mono HC3.out.size)
        have e1 : x4.heap[x1.heap.size]? = some (.cells #[.int .i64 o.id, .int .i64 o.kind, .int .i64 o.quota, .int .i64 o.used, .int .i64 o.links, .int .i64 o.df, .slice sa o.cats.length ca] 44 (0, 0)) := (hx34.block _ (by simp; omega)).trans ((Below.heap_alloc _ _ _ hlt1).trans k2)
        have e2 : x4.heap[x2.heap.size]? = some (.cells #[.int .i64 o.id, .int .i64 o.kind, .int .i64 o.quota, .int .i64 o.used, .int .i64 o.links, .int .i64 o.df, .slice sb o.cats.length cb] 44 (0, 0)) := (hx34.block _ (by simp)).trans (heap_new _ _)
        have hCa4 : CatsAt x4 sa o.cats := (HCa2.out.below ((Below.refl _ _).alloc (Nat.le_refl _) _)).below hx34
        have hCb4 : CatsAt x4 sb o.cats := (HCb.out.below ((Below.refl _ _).alloc (Nat.le_refl _) _)).below hx34
        have HSf := Lib.hid (SameInfo_eq o sa sb ca cb x4 hcl hCa4 hCb4)
        have HSn := Lib.hid (fun (X : World) (hX : Below x4.heap.size x4 X) => SameInts_any X sp3 sp4 cp3 cp4 o.ents o.ents (hI3.below hX) (hI4.below hX) hel)
        rw [show (o.ents == o.ents) = true from by simp] at HSn
        have HB4 := Lib.hid B4
        have hz4 := hx34.size
        have HX4 : Hid (Below wr.heap.size wr x4) := HX2.out.trans ((((Below.refl _ _).alloc (Nat.le_refl _) _).trans (hx34.mono (by simp))).mono HX2.out.size)
        clear hCa4 hCb4 hI3 hI4 B4 hx34
        go_wp2_with (first
          | (refine wpList_load_row rfl 44 _ rfl x1.heap.size rfl 44 _ (0, 0) _ e1 Try.underlying44 rfl (by kernel_rfl) ?_)
          | (refine wpList_load_row rfl 44 _ rfl x2.heap.size rfl 44 _ (0, 0) _ e2 Try.underlying44 rfl (by kernel_rfl) ?_)
          | (go_at_call 42; refine HSf.out.mono ?_; rintro e x5 ⟨rfl, hc5⟩; refine Hid.out ?_))
        refine Lib.hid ?_
        go_wp2_with (first
          | (go_at_call 38; refine (HSn.out _ hc5).mono ?_; rintro e x6 ⟨rfl, hc6⟩))
        go_roundw
        case rel => exact ⟨k + 1, by go_num, by omega, HBr.out.trans ((HX4.out.trans ((hc5.trans (hc6.mono hc5.size)).mono HX4.out.size)).mono HBr.out.size)⟩
        case measure => simp [intOf]; omega
      · skip
        have hce : contE Ta x ≠ 0 := by unfold contE; rw [hr]; simp only [ho, if_neg hk1]; decide
        have hce5 : contE Ta x = 5 := by unfold contE; rw [hr]; simp only [ho, if_neg hk1]
        have hcf : contE Tb x ≠ 0 := by unfold contE; rw [hs]; simp only [hso, if_neg hk1]; decide
        have hcf5 : contE Tb x = 5 := by unfold contE; rw [hs]; simp only [hso, if_neg hk1]
        have HLa := Lib.hid (fun (X : World) (hX : Below w.heap.size w X) => List_no (HA.out.below hX) x hx64 hce)
        have HLb := Lib.hid (fun (X : World) (hX : Below w.heap.size w X) => List_no (HB.out.below hX) x hx64 hcf)
        rw [hce5] at HLa
        rw [hcf5] at HLb
        clear hce hce5 hcf hcf5 hk1
        go_wp2_with (first
          | (go_at_call 15; refine (HLa.out _ (B2.alloc B2.size _)).mono ?_; rintro e x3 ⟨rfl, hw3⟩; refine Hid.out ?_))
        refine Lib.hid ?_
        subst hw3
        go_wp2_with (first
          | (go_at_call 15; refine (HLb.out _ (B2.alloc B2.size _)).mono ?_; rintro e x4 ⟨rfl, hw4⟩; refine Hid.out ?_))
        refine Lib.hid ?_
        rw [← hw4]
        have B4 : Below w.heap.size w x4 := by rw [hw4]; exact B2.alloc B2.size _
        have hI3 : IntsAt x4 none ([] : List Int) := fun k hk => by simp at hk
        have hI4 := hI3
        have hx34 : Below (x2.alloc (.cells #[.int .i64 o.id, .int .i64 o.kind, .int .i64 o.quota, .int .i64 o.used, .int .i64 o.links, .int .i64 o.df, .slice sb o.cats.length cb] 44)).heap.size (x2.alloc (.cells #[.int .i64 o.id, .int .i64 o.kind, .int .i64 o.quota, .int .i64 o.used, .int .i64 o.links, .int .i64 o.df, .slice sb o.cats.length cb] 44)) x4 := by rw [hw4]; exact Below.refl _ _
        clear hw4
        have e1 : x4.heap[x1.heap.size]? = some (.cells #[.int .i64 o.id, .int .i64 o.kind, .int .i64 o.quota, .int .i64 o.used, .int .i64 o.links, .int .i64 o.df, .slice sa o.cats.length ca] 44 (0, 0)) := (hx34.block _ (by simp; omega)).trans ((Below.heap_alloc _ _ _ hlt1).trans k2)
        have e2 : x4.heap[x2.heap.size]? = some (.cells #[.int .i64 o.id, .int .i64 o.kind, .int .i64 o.quota, .int .i64 o.used, .int .i64 o.links, .int .i64 o.df, .slice sb o.cats.length cb] 44 (0, 0)) := (hx34.block _ (by simp)).trans (heap_new _ _)
        have hCa4 : CatsAt x4 sa o.cats := (HCa2.out.below ((Below.refl _ _).alloc (Nat.le_refl _) _)).below hx34
        have hCb4 : CatsAt x4 sb o.cats := (HCb.out.below ((Below.refl _ _).alloc (Nat.le_refl _) _)).below hx34
        have HSf := Lib.hid (SameInfo_eq o sa sb ca cb x4 hcl hCa4 hCb4)
        have HSn := Lib.hid (fun (X : World) (hX : Below x4.heap.size x4 X) => SameInts_any X none none 0 0 ([] : List Int) ([] : List Int) (hI3.below hX) (hI4.below hX) (by simp))
        rw [show (([] : List Int) == ([] : List Int)) = true from by simp] at HSn
        have HB4 := Lib.hid B4
        have hz4 := hx34.size
        have HX4 : Hid (Below wr.heap.size wr x4) := HX2.out.trans ((((Below.refl _ _).alloc (Nat.le_refl _) _).trans (hx34.mono (by simp))).mono HX2.out.size)
        clear hCa4 hCb4 hI3 hI4 B4 hx34
        go_wp2_with (first
          | (refine wpList_load_row rfl 44 _ rfl x1.heap.size rfl 44 _ (0, 0) _ e1 Try.underlying44 rfl (by kernel_rfl) ?_)
          | (refine wpList_load_row rfl 44 _ rfl x2.heap.size rfl 44 _ (0, 0) _ e2 Try.underlying44 rfl (by kernel_rfl) ?_)
          | (go_at_call 42; refine HSf.out.mono ?_; rintro e x5 ⟨rfl, hc5⟩; refine Hid.out ?_))
        refine Lib.hid ?_
        go_wp2_with (first
          | (go_at_call 38; refine (HSn.out _ hc5).mono ?_; rintro e x6 ⟨rfl, hc6⟩))
        go_roundw
        case rel => exact ⟨k + 1, by go_num, by omega, HBr.out.trans ((HX4.out.trans ((hc5.trans (hc6.mono hc5.size)).mono HX4.out.size)).mono HBr.out.size)⟩
        case measure => simp [intOf]; omega
    · obtain rfl : k = L.length := by omega
      go_wp2_with fail
      go_ret
      exact ⟨rfl, Bw⟩
end Go.Proofs.Ytlblfelfaopjiaa
