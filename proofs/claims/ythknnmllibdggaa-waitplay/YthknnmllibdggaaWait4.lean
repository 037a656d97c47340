/- What leave, release, Wake and Close of package wait do. -/
import Derived.Test.YthknnmllibdggaaWait3
namespace Go.Proofs.Ythknnmllibdggaa
open Go.RowKit Go.Sort
/-- Without a thread; without some. -/
def dropT (t : Int) (all : List Who) : List Who := all.filter fun x => !(x.1 == t)
def dropL (ts : List Int) (all : List Who) : List Who := all.filter fun x => !(ts.contains x.1)
theorem dropL_nil (all : List Who) : dropL [] all = all := by unfold dropL; simp
theorem dropL_snoc (ts : List Int) (t : Int) (all : List Who) : dropL (ts ++ [t]) all = dropT t (dropL ts all) := by
  unfold dropL dropT
  rw [List.filter_filter]
  apply List.filter_congr
  intro x _
  rw [Bool.eq_iff_iff]
  simp [and_comm]
theorem dropT_no {t : Int} {all : List Who} (h : ∀ x ∈ all, x.1 ≠ t) : dropT t all = all := by
  unfold dropT
  rw [List.filter_eq_self]
  intro x hx
  simpa using h x hx
theorem leave_ra (w : World) (rb : Nat) (F : Nat → Prop) (all : List Who) (al : Int → List Int) (N : Nat) (t : Int) (ht : i64 t) (h : RA w rb F all al N) (hN : N < 900000) :
    Calls Try.prog 43 #[pv rb, .int .i64 t] w fun e w' => e = .returned (.bool (waitsA all t)) ∧ RA w' rb F (dropT t all) al N ∧ Fm w w' F := by
  obtain ⟨R, hR, hrb, hal, hA, hRN, hF⟩ := id h
  by_cases hw : ∃ x ∈ R.all, x.th = t
  · have hwa : waitsA all t = true := by rw [← hal]; exact waits_iff.2 hw
    obtain ⟨x, hx, rfl⟩ := hw
    obtain ⟨a, b, hab⟩ := List.append_of_mem hx
    have := leave_yes w R a b x hR hab (by omega)
    rw [hrb] at this
    refine this.mono ?_
    rintro e w' ⟨rfl, R', g1, g2, g3, g4, g5, g6, g7⟩
    refine ⟨by rw [hwa], ⟨R', g1, g2, ?_, fun t' => by rw [g4]; exact hA t', by omega, fun k hk => hF k (by rw [g6] at hk; exact hk)⟩, g7.mono (fun k _ hk => hF k hk)⟩
    rw [g3, ← hal, hab]
    have hnd : ((a ++ x :: b).map (·.th)).Nodup := hab ▸ hR.nd
    rw [List.map_append, List.map_cons, List.nodup_append] at hnd
    unfold dropT
    rw [List.map_append, List.map_append, List.map_cons, List.filter_append, List.filter_cons, if_neg (by simp [ab])]
    rw [List.filter_eq_self.2, List.filter_eq_self.2]
    · intro y hy
      obtain ⟨z, hz, rfl⟩ := List.mem_map.1 hy
      have : z.th ≠ x.th := fun e => (List.nodup_cons.1 hnd.2.1).1 (by show x.th ∈ _; rw [← e]; exact List.mem_map_of_mem (f := (·.th)) hz)
      simpa [ab] using this
    · intro y hy
      obtain ⟨z, hz, rfl⟩ := List.mem_map.1 hy
      have : z.th ≠ x.th := fun e => hnd.2.2 z.th (List.mem_map_of_mem (f := (·.th)) hz) x.th (by simp) e
      simpa [ab] using this
  · have hno : ∀ x ∈ R.all, x.th ≠ t := fun x hx e => hw ⟨x, hx, e⟩
    have hwa : waitsA all t = false := by
      cases hh : waitsA all t with
      | false => rfl
      | true => rw [← hal] at hh; exact absurd (waits_iff.1 hh) hw
    have := leave_no w R t hR ht hno
    rw [hrb] at this
    refine this.mono ?_
    rintro e w' ⟨rfl, rfl⟩
    refine ⟨by rw [hwa], ?_, Fm.refl _ _⟩
    rw [dropT_no (fun x hx => ?_)]
    · exact h
    · rw [← hal] at hx
      obtain ⟨z, hz, rfl⟩ := List.mem_map.1 hx
      exact hno z hz
set_option maxRecDepth 100000 in
set_option maxHeartbeats 1000000 in
theorem release_any (w : World) (rb : Nat) (F : Nat → Prop) (all : List Who) (al : Int → List Int) (N : Nat) (q : Option Addr) (ts : List Int) (hts : ∀ t ∈ ts, i64 t) (h : RA w rb F all al N) (hN : N < 900000) (hl : ts.length < 900000) (hFl : ∀ k, F k → k < w.heap.size)
    (hT : Calls Try.prog 45 #[.pointer q] w fun e w' => ∃ v, e = .returned v ∧ NewRow w w' v ts ∧ Below w.heap.size w w') :
    Calls Try.prog 42 #[pv rb, .pointer q] w fun e w' => ∃ v, e = .returned v ∧ NewRow w w' v ts ∧ RA w' rb F (dropL ts all) al N ∧ Fm w w' F := by
  have HT := Lib.hid hT
  have HR := Lib.hid h
  clear hT h
  go_enter Try.func42, Try.ntmps42
  go_wp2_with (go_at_call 45; refine HT.out.mono ?_; rintro e W1 ⟨v, rfl, hr1, hb1⟩; obtain ⟨sp, cap, rfl⟩ := row_form hr1; have HR1 := Lib.hid hr1; have HB1 := Lib.hid hb1; clear hr1 hb1)
  have hra1 : RA W1 rb F all al N := HR.out.below HB1.out
  go_loopw [12] (fun y wr => ∃ k : Nat, y = .int .i64 k ∧ k ≤ ts.length ∧ RA wr rb F (dropL (ts.take k) all) al N ∧ Fm W1 wr F) (fun y _ => (ts.length - (RowKit.intOf y).toNat))
  case atStart => exact ⟨0, rfl, Nat.zero_le _, by rw [List.take_zero, dropL_nil]; exact hra1, Fm.refl _ _⟩
  case round =>
    obtain ⟨k, rfl, hk, hra, hFm⟩ := hrel
    have hrow : wr.ownsRow w.heap.size 3 1 (.slice sp ts.length cap) ts.length (ivs ts) := row_same HR1.out (fun j hj => hFm.same j (HR1.out.lt j hj).2 (fun e => by have := hFl j e; have := (HR1.out.lt j hj).1; omega))
    by_cases hlt : k < ts.length
    · have hki : (k : Int) < (ts.length : Int) := by omega
      obtain ⟨g, rfl⟩ : ∃ g, sp = some ⟨g, 0, none⟩ := by
        rcases hrow.2 with ⟨hv, h0⟩ | ⟨g, cap', cur, hv, _⟩
        · omega
        · simp at hv; exact ⟨g, hv.1⟩
      have c0 : wr.cell? ⟨g, k, none⟩ = some (.int .i64 ts[k]) := (hrow.cellAt k (by omega)).trans (by unfold ivs; simp [hlt])
      have HL := Lib.hid (leave_ra wr rb F _ al N ts[k] (hts _ (List.getElem_mem hlt)) hra hN)
      have HFm := Lib.hid hFm
      clear hra hFm hrow hra1
      go_wp2_with (go_at_call 43; refine HL.out.mono ?_; rintro e w2 ⟨rfl, hra2, hF2⟩; have HRA2 := Lib.hid hra2; have HF2 := Lib.hid hF2; clear hra2 hF2)
      go_roundw
      case rel =>
        refine ⟨k + 1, by go_num, by omega, ?_, HFm.out.trans HF2.out (fun _ _ h => h) (fun _ _ h => h)⟩
        rw [List.take_succ_eq_append_getElem hlt, dropL_snoc]
        exact HRA2.out
      case measure => simp [RowKit.intOf]; omega
    · obtain rfl : k = ts.length := by omega
      have hkk : ¬ (ts.length : Int) < (ts.length : Int) := by omega
      rw [List.take_length] at hra
      have HRA := Lib.hid hra
      have HFm := Lib.hid hFm
      have HRW := Lib.hid hrow
      clear hra hFm hrow hra1
      go_wp2_with fail
      go_ret
      exact ⟨_, rfl, HRW.out, HRA.out, (Fm.of_below HB1.out F).trans HFm.out (fun _ _ h => h) (fun _ _ h => h)⟩
theorem RA.i64s {w : World} {rb : Nat} {F : Nat → Prop} {all : List Who} {al : Int → List Int} {N : Nat} (h : RA w rb F all al N) : ∀ x ∈ all, i64 x.1 ∧ i64 x.2.1 ∧ i64 x.2.2 := by
  obtain ⟨R, hR, hrb, hal, hA, hRN, hF⟩ := h
  intro x hx
  rw [← hal] at hx
  obtain ⟨z, hz, rfl⟩ := List.mem_map.1 hx
  exact hR.good z hz
theorem mem_listA {all : List Who} {s o t : Int} : t ∈ listA all s o ↔ (t, s, o) ∈ all := by
  unfold listA
  simp only [List.mem_map, List.mem_filter, Bool.and_eq_true, beq_iff_eq]
  constructor
  · rintro ⟨⟨a, b, c⟩, ⟨h1, h2, h3⟩, h4⟩
    simp at h2 h3 h4
    subst h2 h3 h4
    exact h1
  · intro h
    exact ⟨_, ⟨h, rfl, rfl⟩, rfl⟩
theorem mem_segA {all : List Who} {s t : Int} : t ∈ segA all s ↔ ∃ o, (t, s, o) ∈ all := by
  unfold segA
  simp only [List.mem_map, List.mem_filter, beq_iff_eq]
  constructor
  · rintro ⟨⟨a, b, c⟩, ⟨h1, h2⟩, h4⟩
    simp at h2 h4
    subst h2 h4
    exact ⟨c, h1⟩
  · rintro ⟨o, h⟩
    exact ⟨_, ⟨h, rfl⟩, rfl⟩
theorem listA_len (all : List Who) (s o : Int) : (listA all s o).length ≤ all.length := by unfold listA; rw [List.length_map]; exact List.length_filter_le _ _
theorem segA_len (all : List Who) (s : Int) : (segA all s).length ≤ all.length := by unfold segA; rw [List.length_map]; exact List.length_filter_le _ _
set_option maxRecDepth 100000 in
set_option maxHeartbeats 1000000 in
theorem Wake_any (w : World) (rb : Nat) (F : Nat → Prop) (all : List Who) (al : Int → List Int) (N : Nat) (s o : Int) (hs : i64 s) (ho : i64 o) (h : RA w rb F all al N) (hN : N < 900000) (hFl : ∀ k, F k → k < w.heap.size) :
    Calls Try.prog 16 #[pv rb, .int .i64 s, .int .i64 o] w fun e w' => ∃ v, e = .returned v ∧ NewRow w w' v (listA all s o) ∧ RA w' rb F (dropL (listA all s o) all) al N ∧ Fm w w' F := by
  obtain ⟨R, hR, hrb, hal, hA, hRN, hF⟩ := id h
  have c0 := hR.cell.2.1
  rw [hrb] at c0
  have hla : listA all s o = (atP s o R.all).map (·.th) := by rw [← hal, listA_map]
  have hll := listA_len all s o
  have hln := h.len
  have hts : ∀ t ∈ listA all s o, i64 t := fun t ht => (h.i64s _ (mem_listA.1 ht)).1
  by_cases hne : atP s o R.all = []
  · have hl := hR.lookP_no hs ho hne
    have hT : Calls Try.prog 45 #[.pointer none] w fun e w' => ∃ v, e = .returned v ∧ NewRow w w' v (listA all s o) ∧ Below w.heap.size w w' := by
      rw [hla, hne]; exact threads_nil w
    have HRL := Lib.hid (release_any w rb F all al N none (listA all s o) hts h hN (by omega) hFl hT)
    clear h hR hF hA hal hrb hRN hne hT hla hll hln hts
    go_enter Try.func16, Try.ntmps16
    go_wp2_with (go_at_call 42; refine HRL.out.mono ?_; rintro e w2 ⟨v, rfl, hr, hra, hf⟩)
    go_ret
    exact ⟨v, rfl, hr, hra, hf⟩
  · have hl := hR.lookP_yes hs ho hne
    have hT : Calls Try.prog 45 #[pv (R.pq s o)] w fun e w' => ∃ v, e = .returned v ∧ NewRow w w' v (listA all s o) ∧ Below w.heap.size w w' := by
      rw [hla]; unfold NewRow; rw [List.length_map]; exact thrP hR (by omega) hne
    have HRL := Lib.hid (release_any w rb F all al N _ (listA all s o) hts h hN (by omega) hFl hT)
    clear h hR hF hA hal hrb hRN hne hT hla hll hln hts
    go_enter Try.func16, Try.ntmps16
    go_wp2_with (go_at_call 42; refine HRL.out.mono ?_; rintro e w2 ⟨v, rfl, hr, hra, hf⟩)
    go_ret
    exact ⟨v, rfl, hr, hra, hf⟩
set_option maxRecDepth 100000 in
set_option maxHeartbeats 1000000 in
theorem Close_any (w : World) (rb : Nat) (F : Nat → Prop) (all : List Who) (al : Int → List Int) (N : Nat) (s : Int) (hs : i64 s) (h : RA w rb F all al N) (hN : N < 900000) (hFl : ∀ k, F k → k < w.heap.size) :
    Calls Try.prog 19 #[pv rb, .int .i64 s] w fun e w' => ∃ v, e = .returned v ∧ NewRow w w' v (segA all s) ∧ RA w' rb F (dropL (segA all s) all) al N ∧ Fm w w' F := by
  obtain ⟨R, hR, hrb, hal, hA, hRN, hF⟩ := id h
  have c0 := hR.cell.2.2.1
  rw [hrb] at c0
  have hla : segA all s = (inS s R.all).map (·.th) := by rw [← hal, segA_map]
  have hll := segA_len all s
  have hln := h.len
  have hts : ∀ t ∈ segA all s, i64 t := fun t ht => by obtain ⟨o, ho⟩ := mem_segA.1 ht; exact (h.i64s _ ho).1
  by_cases hne : inS s R.all = []
  · have hl := hR.lookS_no hs hne
    have hT : Calls Try.prog 45 #[.pointer none] w fun e w' => ∃ v, e = .returned v ∧ NewRow w w' v (segA all s) ∧ Below w.heap.size w w' := by
      rw [hla, hne]; exact threads_nil w
    have HRL := Lib.hid (release_any w rb F all al N none (segA all s) hts h hN (by omega) hFl hT)
    clear h hR hF hA hal hrb hRN hne hT hla hll hln hts
    go_enter Try.func19, Try.ntmps19
    go_wp2_with (go_at_call 42; refine HRL.out.mono ?_; rintro e w2 ⟨v, rfl, hr, hra, hf⟩)
    go_ret
    exact ⟨v, rfl, hr, hra, hf⟩
  · have hl := hR.lookS_yes hs hne
    have hT : Calls Try.prog 45 #[pv (R.sq s)] w fun e w' => ∃ v, e = .returned v ∧ NewRow w w' v (segA all s) ∧ Below w.heap.size w w' := by
      rw [hla]; unfold NewRow; rw [List.length_map]; exact thrS hR (by omega) hne
    have HRL := Lib.hid (release_any w rb F all al N _ (segA all s) hts h hN (by omega) hFl hT)
    clear h hR hF hA hal hrb hRN hne hT hla hll hln hts
    go_enter Try.func19, Try.ntmps19
    go_wp2_with (go_at_call 42; refine HRL.out.mono ?_; rintro e w2 ⟨v, rfl, hr, hra, hf⟩)
    go_ret
    exact ⟨v, rfl, hr, hra, hf⟩
end Go.Proofs.Ythknnmllibdggaa
