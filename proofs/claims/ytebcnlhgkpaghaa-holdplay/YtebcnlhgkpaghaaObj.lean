/- What newObject of package hold makes. -/
import Derived.Test.YtebcnlhgkpaghaaFits
import Derived.Laws.AppendOwn
import Derived.Laws.OwnMore
import Derived.Deep.QuietTactic
import Derived.Deep.RegionLaw
namespace Go.Proofs.Ytebcnlhgkpaghaa
open Go.RowKit Go.Sort
theorem entryInfo : (Try.prog.info? 84).map (fun i => (i.zero, i.size, i.bytes)) = some (some (.agg #[.int .i64 0, .int .i64 0]), 2, 16) := by kernel_rfl
theorem intInfo : (Try.prog.info? 3).map (fun i => (i.zero, i.size, i.bytes)) = some (some (.int .i64 0), 1, 8) := by kernel_rfl
def flat (xs : List (Int × Int)) : List Value := xs.flatMap fun x => [.int .i64 x.1, .int .i64 x.2]
theorem flat_length (xs : List (Int × Int)) : (flat xs).length = xs.length * 2 := by
  unfold flat; induction xs with
  | nil => rfl
  | cons x l ih => simp only [List.flatMap_cons, List.length_append, ih, List.length_cons, List.length_nil]; omega
theorem flat_at : ∀ (l : List (Int × Int)) (i : Nat) (h : i < l.length), (flat l)[i * 2]? = some (.int .i64 l[i].1) ∧ (flat l)[i * 2 + 1]? = some (.int .i64 l[i].2)
  | [], i, h => by simp at h
  | y :: l, 0, h => ⟨rfl, rfl⟩
  | y :: l, i + 1, h => by
    have := flat_at l i (by simpa using h)
    rw [show (i + 1) * 2 = i * 2 + 1 + 1 from by omega]
    exact this
theorem flat_one (xs : List (Int × Int)) : ∀ u ∈ flat xs, u.oneCell' = true := by
  intro u hu
  unfold flat at hu
  obtain ⟨x, _, hx⟩ := List.mem_flatMap.1 hu
  simp at hx
  rcases hx with rfl | rfl <;> rfl
theorem CatsAt.flat {w : World} {b off : Nat} {xs : List (Int × Int)} (h : CatsAt w (some ⟨b, off, none⟩) xs) : ∀ j u, (flat xs)[j]? = some u → w.cell? ((⟨b, off, none⟩ : Addr).add j) = some u := by
  intro j u hu
  have hj : j < xs.length * 2 := by rw [← flat_length]; exact (List.getElem?_eq_some_iff.1 hu).1
  obtain ⟨b', off', he, _, c0, c1⟩ := h (j / 2) (by omega)
  simp only [Option.some.injEq, Addr.mk.injEq, and_true] at he
  obtain ⟨rfl, rfl⟩ := he
  have e := flat_at xs (j / 2) (by omega)
  rw [show (⟨b, off, none⟩ : Addr).add j = ⟨b, off + j, none⟩ from by unfold Addr.add; split <;> simp_all]
  by_cases h2 : j % 2 = 0
  · rw [show j = j / 2 * 2 from by omega] at hu ⊢
    rw [e.1] at hu
    exact c0.trans hu
  · rw [show j = j / 2 * 2 + 1 from by omega] at hu ⊢
    rw [e.2] at hu
    exact c1.trans hu
theorem CatsAt.nil {w : World} {xs : List (Int × Int)} (h : CatsAt w none xs) : xs = [] := by
  cases xs with
  | nil => rfl
  | cons x l => obtain ⟨b, off, he, _⟩ := h 0 (by simp); cases he
theorem row_form {w : World} {base e size n : Nat} {v : Value} {xs : List Value} (h : w.ownsRow base e size v n xs) : ∃ sp cap, v = .slice sp n cap := by
  rcases h.2 with ⟨rfl, h0⟩ | ⟨g, cap, _, rfl, _⟩
  · exact ⟨none, 0, by rw [h0]⟩
  · exact ⟨_, _, rfl⟩
theorem row_mono {w : World} {b b' e size n : Nat} {v : Value} {xs : List Value} (h : w.ownsRow b e size v n xs) (hb : b' ≤ b) : w.ownsRow b' e size v n xs := by
  refine ⟨h.1, ?_⟩
  rcases h.2 with h | ⟨g, cap, cur, h1, h2, h3⟩
  · exact .inl h
  · exact .inr ⟨g, cap, cur, h1, Nat.le_trans hb h2, h3⟩
theorem row_same {w w' : World} {b e size n : Nat} {v : Value} {xs : List Value} (h : w.ownsRow b e size v n xs) (hs : ∀ k, v.ownBlock = some k → w'.heap[k]? = w.heap[k]?) : w'.ownsRow b e size v n xs := by
  refine ⟨h.1, ?_⟩
  rcases h.2 with h | ⟨g, cap, cur, h1, h2, h3, h4⟩
  · exact .inl h
  · subst h1
    exact .inr ⟨g, cap, cur, rfl, h2, (hs g rfl).trans h3, h4⟩
theorem heap_ne (w : World) (a : Addr) (v : Value) {k : Nat} (h : k ≠ a.block) : (w.setCell a v).heap[k]? = w.heap[k]? := by
  show (w.heap.modify a.block _)[k]? = _
  rw [Array.getElem?_modify, if_neg (Ne.symm h)]
theorem heap_new (w : World) (o : Obj) : (w.alloc o).heap[w.heap.size]? = some o := by show (w.heap.push o)[w.heap.size]? = _; simp
set_option maxRecDepth 100000 in
set_option maxHeartbeats 1000000 in
theorem CloneE_any (p : Option Addr) (cap : Nat) (xs : List (Int × Int)) (w : World) (hm : xs.length * 16 ≤ 140737488355328) (hc : CatsAt w p xs) :
    Calls Try.prog 66 #[.slice p xs.length cap] w fun e w' => ∃ v, e = .returned v ∧ w'.ownsRow w.heap.size 84 2 v xs.length (flat xs) ∧ Below w.heap.size w w' := by
  obtain ⟨i0, hi, hz0, hz1, hz2⟩ := info_parts entryInfo
  cases p with
  | none =>
    have := hc.nil
    subst this
    have hnil := fun (w : World) => Lib.run_eql_slice_nil (P := Try.prog) w 22 84 none 0 cap 0 0 Try.underlying22
    clear hc
    go_enter Try.func66, Try.ntmps66
    go_wp2
    go_ret
    exact ⟨_, rfl, World.ownsRow_nil _ _ _ _, Below.refl _ _⟩
  | some a =>
    by_cases hx0 : xs.length = 0
    · have : xs = [] := List.length_eq_zero_iff.1 hx0
      subst this
      have hnil := fun (w : World) => Lib.run_eql_slice_nil (P := Try.prog) w 22 84 (some a) 0 cap 0 0 Try.underlying22
      have hown : (w.alloc (.cells #[] 84)).ownsRow w.heap.size 84 2 (.slice (some ⟨w.heap.size, 0, none⟩) 0 0) 0 [] := World.ownsRow_lit (base := w.heap.size) (e := 84) (size := 2) w #[] 0 (Nat.le_refl _) (by decide) rfl
      have hW : Below w.heap.size w (w.alloc (.cells #[] 84)) := by go_grown
      clear hc
      go_enter Try.func66, Try.ntmps66
      go_wp2_with (at_builtin; refine wpList_append_own _ rfl _ _ 22 rfl w.heap.size 84 i0 (.agg #[.int .i64 0, .int .i64 0]) 2 16 Try.underlying22 hi hz0 hz1 hz2 rfl (by decide) _ _ _ rfl hown a 0 cap [] rfl rfl (fun j u hu => by simp at hu) (fun u hu => by simp at hu) (by unfold maxLen; omega) (by omega) (by simp) ?_; intro v' w3 hown' hgrow3 hnil3)
      go_ret
      exact ⟨v', rfl, hown', Below.grown hW hgrow3 (by simp) (fun k hk => Nat.le_of_eq (Option.some.inj (show some w.heap.size = some k from hk)))⟩
    · obtain ⟨b, off, he, _⟩ := hc 0 (by omega)
      obtain rfl : a = ⟨b, off, none⟩ := Option.some.inj he
      have hnil := fun (w : World) => Lib.run_eql_slice_nil (P := Try.prog) w 22 84 (some ⟨b, off, none⟩) xs.length cap 0 0 Try.underlying22
      have hown : (w.alloc (.cells #[] 84)).ownsRow w.heap.size 84 2 (.slice (some ⟨w.heap.size, 0, none⟩) 0 0) 0 [] := World.ownsRow_lit (base := w.heap.size) (e := 84) (size := 2) w #[] 0 (Nat.le_refl _) (by decide) rfl
      have hW : Below w.heap.size w (w.alloc (.cells #[] 84)) := by go_grown
      have HN : Hid (∀ j u, (flat xs)[j]? = some u → (w.alloc (.cells #[] 84)).cell? ((⟨b, off, none⟩ : Addr).add j) = some u) := (hc.below hW).flat
      have h63 : 0 + xs.length ≤ maxLen := by unfold maxLen; omega
      have hby : (0 + xs.length) * 16 ≤ 140737488355328 := by omega
      clear hc
      go_enter Try.func66, Try.ntmps66
      go_wp2_with (at_builtin; refine wpList_append_own _ rfl _ _ 22 rfl w.heap.size 84 i0 (.agg #[.int .i64 0, .int .i64 0]) 2 16 Try.underlying22 hi hz0 hz1 hz2 rfl (by decide) _ _ _ rfl hown ⟨b, off, none⟩ xs.length cap (flat xs) rfl (flat_length xs) HN.out (flat_one xs) h63 hby (by simp) ?_; intro v' w3 hown' hgrow3 hnil3)
      go_ret
      rw [Nat.zero_add, List.nil_append] at hown'
      exact ⟨v', rfl, hown', Below.grown hW hgrow3 (by simp) (fun k hk => Nat.le_of_eq (Option.some.inj (show some w.heap.size = some k from hk)))⟩
set_option maxRecDepth 100000 in
set_option maxHeartbeats 1000000 in
theorem copied_any (d : Int) (p : Option Addr) (cap : Nat) (xs : List (Int × Int)) (w : World) (hm : xs.length * 16 ≤ 140737488355328) (hc : CatsAt w p xs) :
    Calls Try.prog 47 #[.agg #[.int .i64 d, .slice p xs.length cap]] w fun e w' => ∃ sp c, e = .returned (.agg #[.int .i64 d, .slice sp xs.length c]) ∧ w'.ownsRow w.heap.size 84 2 (.slice sp xs.length c) xs.length (flat xs) ∧ Below w.heap.size w w' := by
  have hW1 : Below w.heap.size w ((w.alloc (.cells #[.int .i64 d, .slice p xs.length cap] 24)).alloc (.cells #[.int .i64 0, .slice none 0 0] 24)) := by go_grown
  obtain ⟨W1, hW⟩ : ∃ W1, ((w.alloc (.cells #[.int .i64 d, .slice p xs.length cap] 24)).alloc (.cells #[.int .i64 0, .slice none 0 0] 24)) = W1 := ⟨_, rfl⟩
  have b0 : W1.drew.cell? ⟨w.heap.size, 0, none⟩ = some (.int .i64 d) := by rw [← hW]; simp [go_sem]
  have b1 : W1.drew.cell? ⟨w.heap.size, 1, none⟩ = some (.slice p xs.length cap) := by rw [← hW]; simp [go_sem]
  have b2 : ∃ u, W1.drew.cell? ⟨w.heap.size + 1, 0, none⟩ = some u := by rw [← hW]; exact ⟨.int .i64 0, by simp [go_sem]⟩
  have b3 : ∃ u, W1.drew.cell? ⟨w.heap.size + 1, 1, none⟩ = some u := by rw [← hW]; exact ⟨.slice none 0 0, by simp [go_sem]⟩
  have b4 : ∀ o, W1.drew.frozen? ⟨w.heap.size + 1, o, none⟩ = false := fun o => by rw [← hW]; simp [go_sem]
  have hs1 : W1.heap.size = w.heap.size + 2 := by rw [← hW]; simp
  have hsd : W1.drew.heap.size = w.heap.size + 2 := hs1
  obtain ⟨r0, b2⟩ := b2
  obtain ⟨r1, b3⟩ := b3
  have hB1 : Below w.heap.size w W1 := by rw [← hW]; exact hW1
  have hbd : Below W1.heap.size W1 W1.drew := ⟨rfl, rfl, rfl, Nat.le_refl _, fun _ _ => rfl⟩
  have HC := Lib.hid (CloneE_any p cap xs W1.drew hm (hc.below (hB1.trans (hbd.mono hB1.size))))
  clear hW1 hc
  go_enter Try.func47, Try.ntmps47
  go_wp2_with fail
  clear hW
  go_region_law (go_simp; go_at_call 66; refine Calls.mono HC.out ?_; rintro e w4 ⟨v4, rfl, hR4, hb4⟩; obtain ⟨sp4, cap4, rfl⟩ := row_form hR4; have y0 := (hb4.cell (p := ⟨w.heap.size, 0, none⟩) (by simp; omega)).trans b0; have y2 := (hb4.cell (p := ⟨w.heap.size + 1, 0, none⟩) (by simp; omega)).trans b2; have y3 := (hb4.cell (p := ⟨w.heap.size + 1, 1, none⟩) (by simp; omega)).trans b3; have yf : (∀ o, w4.frozen? ⟨w.heap.size + 1, o, none⟩ = false) := (fun o => (hb4.frozen (p := ⟨w.heap.size + 1, o, none⟩) (by simp; omega)).trans (b4 o)); have HR4 := Lib.hid hR4; have HB4 := Lib.hid hb4; clear hR4 hb4)
  all_goals go_wp2
  all_goals
    have hb4 : RowKit.Below w.heap.size w w4 := (hB1.trans (hbd.mono hB1.size)).trans (HB4.out.mono (by omega))
    refine bodyPost_ret (by simp [results, Try.results47, go_sem, y2, y3]) rfl ⟨sp4, cap4, rfl, ?_, ?_⟩
    · refine row_mono (row_same HR4.out (fun k hk => ?_)) (by omega)
      have := (HR4.out.lt k hk).1
      rw [heap_ne _ _ _ (by show k ≠ w.heap.size + 1; omega), heap_ne _ _ _ (by show k ≠ w.heap.size + 1; omega)]
    · exact (hb4.setCell (p := ⟨w.heap.size + 1, 0, none⟩) (by simp) _).setCell (p := ⟨w.heap.size + 1, 1, none⟩) (by simp) _
set_option maxRecDepth 100000 in
set_option maxHeartbeats 1000000 in
theorem newObject_any (id kind quota d : Int) (p : Option Addr) (cap : Nat) (xs : List (Int × Int)) (w : World) (hm : xs.length * 16 ≤ 140737488355328) (hc : CatsAt w p xs) :
    Calls Try.prog 16 #[.int .i64 id, .int .i64 kind, .int .i64 quota, .agg #[.int .i64 d, .slice p xs.length cap]] w fun e w' => ∃ B cv, e = .returned (.pointer (some ⟨B, 0, none⟩)) ∧ w'.heap[B]? = some (.cells #[.int .i64 id, .int .i64 kind, .int .i64 quota, .int .i64 0, .int .i64 0, .int .i64 d, cv, .slice none 0 0] 54 (0, 0)) ∧ w.heap.size ≤ B ∧ w'.ownsRow w.heap.size 84 2 cv xs.length (flat xs) ∧ Below w.heap.size w w' := by
  have hW1 : Below w.heap.size w (w.alloc (.cells #[.int .i64 d, .slice p xs.length cap] 24)) := by go_grown
  have HC := Lib.hid (copied_any d p cap xs _ hm (hc.below hW1))
  clear hc
  go_enter Try.func16, Try.ntmps16
  go_wp2_with (first | (go_at_call 47; refine HC.out.mono ?_; rintro e w2 ⟨sp, c, rfl, hr2, hb2⟩; have HR := Lib.hid hr2; clear hr2))
  go_ret
  have hz := hb2.size
  simp at hz
  have hB : Below w.heap.size w w2 := hW1.trans (hb2.mono (by simp))
  refine ⟨w2.heap.size, .slice sp xs.length c, rfl, heap_new _ _, by omega, row_mono (HR.out.alloc _) (by simp), hB.alloc (by omega) _⟩
end Go.Proofs.Ytebcnlhgkpaghaa
