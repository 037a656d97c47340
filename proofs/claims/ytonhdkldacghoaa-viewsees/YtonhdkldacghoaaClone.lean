/- slices.Clone at entries, numbers and mappings: the copy lies in memory of its own. -/
import Derived.Test.YtonhdkldacghoaaPrt0
import Derived.Test.YtonhdkldacghoaaShort
import Derived.Laws.AppendOwn
namespace Go.Proofs.Ytonhdkldacghoaa
open Go.RowKit Go.Sort

theorem flat_one (xs : List (Int × Int)) : ∀ u ∈ flat xs, u.oneCell' = true := by
  induction xs with
  | nil => intro u hu; cases hu
  | cons x xs ih =>
    intro u hu
    simp only [flat, List.mem_cons] at hu
    rcases hu with rfl | rfl | hu
    · rfl
    · rfl
    · exact ih u hu
theorem CatsAt.flat {w : World} {b off : Nat} {xs : List (Int × Int)} (h : CatsAt w (some ⟨b, off, none⟩) xs) : ∀ j u, (flat xs)[j]? = some u → w.cell? ((⟨b, off, none⟩ : Addr).add j) = some u := by
  intro j u hu
  have hj : j < xs.length * 2 := by rw [← flat_length]; exact (List.getElem?_eq_some_iff.1 hu).1
  obtain ⟨b', off', he, _, c0, c1⟩ := h (j / 2) (by omega)
  simp only [Option.some.injEq, Addr.mk.injEq, and_true] at he
  obtain ⟨rfl, rfl⟩ := he
  have e := flat_get xs (j / 2) (by omega)
  rw [show (⟨b, off, none⟩ : Addr).add j = ⟨b, off + j, none⟩ from by unfold Addr.add; split <;> simp_all]
  by_cases h2 : j % 2 = 0
  · rw [show j = j / 2 * 2 from by omega] at hu ⊢
    rw [e.1] at hu
    exact c0.trans hu
  · rw [show j = j / 2 * 2 + 1 from by omega] at hu ⊢
    rw [e.2] at hu
    exact c1.trans hu
theorem CatsAt.nil {w : World} {xs : List (Int × Int)} (h : CatsAt w none xs) : xs = [] := by
  cases xs with
  | nil => rfl
  | cons x l => obtain ⟨b, off, he, _⟩ := h 0 (by simp); cases he
theorem IntsAt.nil {w : World} {l : List Int} (h : IntsAt w none l) : l = [] := by
  cases l with
  | nil => rfl
  | cons a r => obtain ⟨b, off, e, _⟩ := h 0 (by simp); cases e
theorem MsAt.nil {w : World} {l : List Mp} (h : MsAt w none l) : l = [] := by
  cases l with
  | nil => rfl
  | cons a r => obtain ⟨b, off, e, _⟩ := h 0 (by simp); cases e
def mcells (l : List Mp) : List Value := l.flatMap fun m => (mpC m).toList
theorem mcells_length (l : List Mp) : (mcells l).length = l.length * 7 := by
  induction l with
  | nil => rfl
  | cons m l ih => unfold mcells at ih ⊢; rw [List.flatMap_cons, List.length_append, ih]; simp [mpC]; omega
theorem mcells_one (l : List Mp) : ∀ u ∈ mcells l, u.oneCell' = true := by
  intro u hu
  unfold mcells at hu
  obtain ⟨m, _, hm⟩ := List.mem_flatMap.1 hu
  simp [mpC] at hm
  rcases hm with rfl | rfl | rfl | rfl | rfl | rfl | rfl <;> rfl
theorem mcells_get : ∀ {l : List Mp} {j : Nat} {u : Value}, (mcells l)[j]? = some u → ∃ k f, ∃ h : k < l.length, j = k * 7 + f ∧ (mpC l[k])[f]? = some u
  | [], _, _, h => by simp [mcells] at h
  | m :: l, j, u, h => by
    unfold mcells at h
    rw [List.flatMap_cons] at h
    by_cases hj : j < 7
    · rw [List.getElem?_append_left (by simpa [mpC] using hj)] at h
      exact ⟨0, j, by simp, by omega, by simpa using h⟩
    · rw [List.getElem?_append_right (by simp [mpC]; omega)] at h
      obtain ⟨k, f, hk, e, hf⟩ := mcells_get (l := l) (j := j - 7) (u := u) (by simpa [mpC, mcells] using h)
      exact ⟨k + 1, f, by simpa using hk, by omega, by simpa using hf⟩
theorem mcells_at : ∀ (l : List Mp) (k : Nat) (hk : k < l.length) (f : Nat) (u : Value), (mpC l[k])[f]? = some u → (mcells l)[k * 7 + f]? = some u
  | m :: l, 0, _, f, u, h => by
    have hf : f < 7 := by have := (Array.getElem?_eq_some_iff.1 h).1; simpa [mpC] using this
    unfold mcells
    rw [List.flatMap_cons, List.getElem?_append_left (by simp [mpC]; omega)]
    simpa using h
  | m :: l, k + 1, hk, f, u, h => by
    unfold mcells
    rw [List.flatMap_cons, List.getElem?_append_right (by simp [mpC]; omega)]
    have := mcells_at l k (by simpa using hk) f u (by simpa using h)
    unfold mcells at this
    rw [← this]; congr 1; simp [mpC]; omega
theorem ms_cells {w : World} {b off : Nat} {l : List Mp} (h : MsAt w (some ⟨b, off, none⟩) l) : ∀ j u, (mcells l)[j]? = some u → w.cell? ((⟨b, off, none⟩ : Addr).add j) = some u := by
  intro j u hu
  obtain ⟨k, f, hk, rfl, hf⟩ := mcells_get hu
  obtain ⟨b', off', e, _, hc⟩ := h k hk
  cases e
  rw [addr_plus, ← Nat.add_assoc]
  exact hc f u hf
theorem ints_cells {w : World} {b off : Nat} {l : List Int} (h : IntsAt w (some ⟨b, off, none⟩) l) : ∀ j u, (icells l)[j]? = some u → w.cell? ((⟨b, off, none⟩ : Addr).add j) = some u := by
  intro j u hu
  obtain ⟨hj, rfl⟩ := icells_get hu
  obtain ⟨b', off', e, _, hc⟩ := h j hj
  cases e
  rw [addr_plus]; exact hc
theorem mapInfo : (Try.prog.info? 77).map (fun i => (i.zero, i.size, i.bytes)) = some (some (.agg #[.int .i64 0, .int .i64 0, .int .i64 0, .int .i64 0, .int .i64 0, .bool false, .bool false]), 7, 48) := by kernel_rfl
set_option maxRecDepth 100000 in
set_option maxHeartbeats 1000000 in
theorem CloneE_any (p : Option Addr) (cap : Nat) (xs : List (Int × Int)) (w : World) (hm : xs.length * 16 ≤ 140737488355328) (hc : CatsAt w p xs) :
    Calls Try.prog 53 #[.slice p xs.length cap] w fun e w' => ∃ v, e = .returned v ∧ w'.ownsRow w.heap.size 50 2 v xs.length (flat xs) ∧ Below w.heap.size w w' := by
  obtain ⟨i0, hi, hz0, hz1, hz2⟩ := info_parts info30
  cases p with
  | none =>
    have := hc.nil
    subst this
    have hnil := fun (w : World) => Lib.run_eql_slice_nil (P := Try.prog) w 23 50 none 0 cap 0 0 Try.underlying23
    clear hc
    go_enter Try.func53, Try.ntmps53
    go_wp2
    go_ret
    exact ⟨_, rfl, World.ownsRow_nil _ _ _ _, Below.refl _ _⟩
  | some a =>
    by_cases hx0 : xs.length = 0
    · have : xs = [] := List.length_eq_zero_iff.1 hx0
      subst this
      have hnil := fun (w : World) => Lib.run_eql_slice_nil (P := Try.prog) w 23 50 (some a) 0 cap 0 0 Try.underlying23
      have hown : (w.alloc (.cells #[] 50)).ownsRow w.heap.size 50 2 (.slice (some ⟨w.heap.size, 0, none⟩) 0 0) 0 [] := World.ownsRow_lit (base := w.heap.size) (e := 50) (size := 2) w #[] 0 (Nat.le_refl _) (by decide) rfl
      have hW : Below w.heap.size w (w.alloc (.cells #[] 50)) := by go_grown
      clear hc
      go_enter Try.func53, Try.ntmps53
      go_wp2_with (at_builtin; refine wpList_append_own _ rfl _ _ 23 rfl w.heap.size 50 i0 (.agg #[.int .i64 0, .int .i64 0]) 2 16 Try.underlying23 hi hz0 hz1 hz2 rfl (by decide) _ _ _ rfl hown a 0 cap [] rfl rfl (fun j u hu => by simp at hu) (fun u hu => by simp at hu) (by unfold maxLen; omega) (by omega) (by simp) ?_; intro v' w3 hown' hgrow3 hnil3)
      go_ret
      exact ⟨v', rfl, hown', Below.grown hW hgrow3 (by simp) (fun k hk => Nat.le_of_eq (Option.some.inj (show some w.heap.size = some k from hk)))⟩
    · obtain ⟨b, off, he, _⟩ := hc 0 (by omega)
      obtain rfl : a = ⟨b, off, none⟩ := Option.some.inj he
      have hnil := fun (w : World) => Lib.run_eql_slice_nil (P := Try.prog) w 23 50 (some ⟨b, off, none⟩) xs.length cap 0 0 Try.underlying23
      have hown : (w.alloc (.cells #[] 50)).ownsRow w.heap.size 50 2 (.slice (some ⟨w.heap.size, 0, none⟩) 0 0) 0 [] := World.ownsRow_lit (base := w.heap.size) (e := 50) (size := 2) w #[] 0 (Nat.le_refl _) (by decide) rfl
      have hW : Below w.heap.size w (w.alloc (.cells #[] 50)) := by go_grown
      have HN : Hid (∀ j u, (flat xs)[j]? = some u → (w.alloc (.cells #[] 50)).cell? ((⟨b, off, none⟩ : Addr).add j) = some u) := (hc.below hW).flat
      have h63 : 0 + xs.length ≤ maxLen := by unfold maxLen; omega
      have hby : (0 + xs.length) * 16 ≤ 140737488355328 := by omega
      clear hc
      go_enter Try.func53, Try.ntmps53
      go_wp2_with (at_builtin; refine wpList_append_own _ rfl _ _ 23 rfl w.heap.size 50 i0 (.agg #[.int .i64 0, .int .i64 0]) 2 16 Try.underlying23 hi hz0 hz1 hz2 rfl (by decide) _ _ _ rfl hown ⟨b, off, none⟩ xs.length cap (flat xs) rfl (flat_length xs) HN.out (flat_one xs) h63 hby (by simp) ?_; intro v' w3 hown' hgrow3 hnil3)
      go_ret
      rw [Nat.zero_add, List.nil_append] at hown'
      exact ⟨v', rfl, hown', Below.grown hW hgrow3 (by simp) (fun k hk => Nat.le_of_eq (Option.some.inj (show some w.heap.size = some k from hk)))⟩
set_option maxRecDepth 100000 in
set_option maxHeartbeats 1000000 in
theorem CloneI_any (p : Option Addr) (cap : Nat) (xs : List Int) (w : World) (hm : xs.length * 8 ≤ 140737488355328) (hc : IntsAt w p xs) :
    Calls Try.prog 54 #[.slice p xs.length cap] w fun e w' => ∃ v, e = .returned v ∧ w'.ownsRow w.heap.size 3 1 v xs.length (icells xs) ∧ Below w.heap.size w w' := by
  obtain ⟨i0, hi, hz0, hz1, hz2⟩ := info_parts info3
  cases p with
  | none =>
    have := hc.nil
    subst this
    have hnil := fun (w : World) => Lib.run_eql_slice_nil (P := Try.prog) w 28 3 none 0 cap 0 0 Try.underlying28
    clear hc
    go_enter Try.func54, Try.ntmps54
    go_wp2
    go_ret
    exact ⟨_, rfl, World.ownsRow_nil _ _ _ _, Below.refl _ _⟩
  | some a =>
    by_cases hx0 : xs.length = 0
    · have : xs = [] := List.length_eq_zero_iff.1 hx0
      subst this
      have hnil := fun (w : World) => Lib.run_eql_slice_nil (P := Try.prog) w 28 3 (some a) 0 cap 0 0 Try.underlying28
      have hown : (w.alloc (.cells #[] 3)).ownsRow w.heap.size 3 1 (.slice (some ⟨w.heap.size, 0, none⟩) 0 0) 0 [] := World.ownsRow_lit (base := w.heap.size) (e := 3) (size := 1) w #[] 0 (Nat.le_refl _) (by decide) rfl
      have hW : Below w.heap.size w (w.alloc (.cells #[] 3)) := by go_grown
      clear hc
      go_enter Try.func54, Try.ntmps54
      go_wp2_with (at_builtin; refine wpList_append_own _ rfl _ _ 28 rfl w.heap.size 3 i0 (.int .i64 0) 1 8 Try.underlying28 hi hz0 hz1 hz2 rfl (by decide) _ _ _ rfl hown a 0 cap [] rfl rfl (fun j u hu => by simp at hu) (fun u hu => by simp at hu) (by unfold maxLen; omega) (by omega) (by simp) ?_; intro v' w3 hown' hgrow3 hnil3)
      go_ret
      exact ⟨v', rfl, hown', Below.grown hW hgrow3 (by simp) (fun k hk => Nat.le_of_eq (Option.some.inj (show some w.heap.size = some k from hk)))⟩
    · obtain ⟨b, off, he, _⟩ := hc 0 (by omega)
      obtain rfl : a = ⟨b, off, none⟩ := Option.some.inj he
      have hnil := fun (w : World) => Lib.run_eql_slice_nil (P := Try.prog) w 28 3 (some ⟨b, off, none⟩) xs.length cap 0 0 Try.underlying28
      have hown : (w.alloc (.cells #[] 3)).ownsRow w.heap.size 3 1 (.slice (some ⟨w.heap.size, 0, none⟩) 0 0) 0 [] := World.ownsRow_lit (base := w.heap.size) (e := 3) (size := 1) w #[] 0 (Nat.le_refl _) (by decide) rfl
      have hW : Below w.heap.size w (w.alloc (.cells #[] 3)) := by go_grown
      have HN : Hid (∀ j u, (icells xs)[j]? = some u → (w.alloc (.cells #[] 3)).cell? ((⟨b, off, none⟩ : Addr).add j) = some u) := ints_cells (hc.below hW)
      have h63 : 0 + xs.length ≤ maxLen := by unfold maxLen; omega
      have hby : (0 + xs.length) * 8 ≤ 140737488355328 := by omega
      clear hc
      go_enter Try.func54, Try.ntmps54
      go_wp2_with (at_builtin; refine wpList_append_own _ rfl _ _ 28 rfl w.heap.size 3 i0 (.int .i64 0) 1 8 Try.underlying28 hi hz0 hz1 hz2 rfl (by decide) _ _ _ rfl hown ⟨b, off, none⟩ xs.length cap (icells xs) rfl (by simp [icells]) HN.out (icells_one xs) h63 hby (by simp) ?_; intro v' w3 hown' hgrow3 hnil3)
      go_ret
      rw [Nat.zero_add, List.nil_append] at hown'
      exact ⟨v', rfl, hown', Below.grown hW hgrow3 (by simp) (fun k hk => Nat.le_of_eq (Option.some.inj (show some w.heap.size = some k from hk)))⟩
set_option maxRecDepth 100000 in
set_option maxHeartbeats 1000000 in
theorem CloneM_any (p : Option Addr) (cap : Nat) (xs : List Mp) (w : World) (hm : xs.length * 48 ≤ 140737488355328) (hc : MsAt w p xs) :
    Calls Try.prog 55 #[.slice p xs.length cap] w fun e w' => ∃ v, e = .returned v ∧ w'.ownsRow w.heap.size 77 7 v xs.length (mcells xs) ∧ Below w.heap.size w w' := by
  obtain ⟨i0, hi, hz0, hz1, hz2⟩ := info_parts mapInfo
  cases p with
  | none =>
    have := hc.nil
    subst this
    have hnil := fun (w : World) => Lib.run_eql_slice_nil (P := Try.prog) w 34 77 none 0 cap 0 0 Try.underlying34
    clear hc
    go_enter Try.func55, Try.ntmps55
    go_wp2
    go_ret
    exact ⟨_, rfl, World.ownsRow_nil _ _ _ _, Below.refl _ _⟩
  | some a =>
    by_cases hx0 : xs.length = 0
    · have : xs = [] := List.length_eq_zero_iff.1 hx0
      subst this
      have hnil := fun (w : World) => Lib.run_eql_slice_nil (P := Try.prog) w 34 77 (some a) 0 cap 0 0 Try.underlying34
      have hown : (w.alloc (.cells #[] 77)).ownsRow w.heap.size 77 7 (.slice (some ⟨w.heap.size, 0, none⟩) 0 0) 0 [] := World.ownsRow_lit (base := w.heap.size) (e := 77) (size := 7) w #[] 0 (Nat.le_refl _) (by decide) rfl
      have hW : Below w.heap.size w (w.alloc (.cells #[] 77)) := by go_grown
      clear hc
      go_enter Try.func55, Try.ntmps55
      go_wp2_with (at_builtin; refine wpList_append_own _ rfl _ _ 34 rfl w.heap.size 77 i0 (.agg #[.int .i64 0, .int .i64 0, .int .i64 0, .int .i64 0, .int .i64 0, .bool false, .bool false]) 7 48 Try.underlying34 hi hz0 hz1 hz2 rfl (by decide) _ _ _ rfl hown a 0 cap [] rfl rfl (fun j u hu => by simp at hu) (fun u hu => by simp at hu) (by unfold maxLen; omega) (by omega) (by simp) ?_; intro v' w3 hown' hgrow3 hnil3)
      go_ret
      exact ⟨v', rfl, hown', Below.grown hW hgrow3 (by simp) (fun k hk => Nat.le_of_eq (Option.some.inj (show some w.heap.size = some k from hk)))⟩
    · obtain ⟨b, off, he, _⟩ := hc 0 (by omega)
      obtain rfl : a = ⟨b, off, none⟩ := Option.some.inj he
      have hnil := fun (w : World) => Lib.run_eql_slice_nil (P := Try.prog) w 34 77 (some ⟨b, off, none⟩) xs.length cap 0 0 Try.underlying34
      have hown : (w.alloc (.cells #[] 77)).ownsRow w.heap.size 77 7 (.slice (some ⟨w.heap.size, 0, none⟩) 0 0) 0 [] := World.ownsRow_lit (base := w.heap.size) (e := 77) (size := 7) w #[] 0 (Nat.le_refl _) (by decide) rfl
      have hW : Below w.heap.size w (w.alloc (.cells #[] 77)) := by go_grown
      have HN : Hid (∀ j u, (mcells xs)[j]? = some u → (w.alloc (.cells #[] 77)).cell? ((⟨b, off, none⟩ : Addr).add j) = some u) := ms_cells (hc.below hW)
      have h63 : 0 + xs.length ≤ maxLen := by unfold maxLen; omega
      have hby : (0 + xs.length) * 48 ≤ 140737488355328 := by omega
      clear hc
      go_enter Try.func55, Try.ntmps55
      go_wp2_with (at_builtin; refine wpList_append_own _ rfl _ _ 34 rfl w.heap.size 77 i0 (.agg #[.int .i64 0, .int .i64 0, .int .i64 0, .int .i64 0, .int .i64 0, .bool false, .bool false]) 7 48 Try.underlying34 hi hz0 hz1 hz2 rfl (by decide) _ _ _ rfl hown ⟨b, off, none⟩ xs.length cap (mcells xs) rfl (mcells_length xs) HN.out (mcells_one xs) h63 hby (by simp) ?_; intro v' w3 hown' hgrow3 hnil3)
      go_ret
      rw [Nat.zero_add, List.nil_append] at hown'
      exact ⟨v', rfl, hown', Below.grown hW hgrow3 (by simp) (fun k hk => Nat.le_of_eq (Option.some.inj (show some w.heap.size = some k from hk)))⟩
end Go.Proofs.Ytonhdkldacghoaa
