/- What the helpers of Make answer: ContainsFunc with cannotBe, Clone, Compact where no two neighbours are alike. -/
import Derived.Test.YtfpjeclbilhgdaaDoorShort
import Derived.Lib.SliceRun
namespace Go.Proofs.YtfpjeclbilhgdaaDoor
open Go.RowKit Go.Sort

set_option maxHeartbeats 400000 in
theorem IndexFunc_can (p : Option Addr) (cap : Nat) (xs : List (Int × Int)) (w : World) (hm : xs.length ≤ maxLen) (hc : CatsAt w p xs) :
    Calls Tryd.prog 45 #[.slice p xs.length cap, .func (.func 26) #[] #[]] w fun e w' => e = .returned (.int .i64 (idxF (fun x => !can x) xs 0)) ∧ Below w.heap.size w w' := by
  unfold maxLen at hm
  go_enter Tryd.func45, Tryd.ntmps45
  go_wp2
  go_loopw [8] (fun i wr => ∃ k : Nat, k ≤ xs.length ∧ i = .int .i64 k ∧ idxF (fun x => !can x) xs 0 = idxF (fun x => !can x) (xs.drop k) k ∧ Below w.heap.size w wr) (fun i _ => xs.length - (intOf i).toNat)
  case atStart => exact ⟨0, Nat.zero_le _, rfl, by simp, Below.refl _ _⟩
  case round =>
    obtain ⟨k, hk, rfl, hr, hb⟩ := hrel
    have HR : Hid (idxF (fun x => !can x) xs 0 = idxF (fun x => !can x) (xs.drop k) k) := hr; clear hr
    by_cases hlt : k < xs.length
    · obtain ⟨b, off, rfl, hbl, c0, c1⟩ := hc.get hb (Below.refl _ _) (Nat.le_refl _) k hlt
      clear hc
      have hsz : w.heap.size ≤ wr.heap.size := hb.size
      have HS : Hid (idxF (fun x => !can x) (xs.drop k) k = if (!can xs[k]) = true then (k : Int) else idxF (fun x => !can x) (xs.drop (k + 1)) (k + 1)) := idxF_step _ xs k hlt
      by_cases h3 : (!can xs[k]) = true
      · go_wp2_with (first | (go_at_call 26; refine (cannotBe_any _ _).mono ?_; rintro e w' ⟨rfl, hb2⟩))
        go_ret
        exact ⟨ret_int (by rw [HR.out, HS.out, if_pos h3]), hb.trans (hb2.mono hsz)⟩
      · have h3' : (!can xs[k]) = false := by simpa using h3
        go_wp2_with (first | (go_at_call 26; refine (cannotBe_any _ _).mono ?_; rintro e w' ⟨rfl, hb2⟩))
        go_roundw
        case rel => exact ⟨k + 1, by omega, by go_num, by rw [HR.out, HS.out, if_neg h3], hb.trans (hb2.mono hsz)⟩
        case measure => simp [intOf]; omega
    · go_wp2
      go_ret
      exact ⟨ret_int (by rw [HR.out, List.drop_of_length_le (by omega)]; rfl), hb⟩

set_option maxHeartbeats 400000 in
theorem ContainsFunc_can (p : Option Addr) (cap : Nat) (xs : List (Int × Int)) (w : World) (hm : xs.length ≤ maxLen) (hc : CatsAt w p xs) :
    Calls Tryd.prog 25 #[.slice p xs.length cap, .func (.func 26) #[] #[]] w fun e w' => e = .returned (.bool (xs.any fun x => !can x)) ∧ Below w.heap.size w w' := by
  go_enter Tryd.func25, Tryd.ntmps25
  go_wp2_with (first | (go_at_call 45; refine (IndexFunc_can p cap xs _ hm hc).mono ?_; rintro e w' ⟨rfl, hb⟩))
  go_ret
  exact ⟨ret_bool (idxF_any _ xs 0), hb⟩


theorem addr_add (b off j : Nat) : (⟨b, off, none⟩ : Addr).add j = ⟨b, off + j, none⟩ := by
  by_cases h : j = 0 <;> simp [Addr.add, h]
theorem CatsAt.flat {w : World} {b off : Nat} {xs : List (Int × Int)} (h : CatsAt w (some ⟨b, off, none⟩) xs) : ∀ j u, (flat xs)[j]? = some u → w.cell? ((⟨b, off, none⟩ : Addr).add j) = some u := by
  intro j u hj
  have hlt : j < xs.length * 2 := by rw [← flat_length]; exact (List.getElem?_eq_some_iff.1 hj).1
  have hk : j / 2 < xs.length := by omega
  obtain ⟨b', off', hp, hb, c0, c1⟩ := h (j / 2) hk
  simp only [Option.some.injEq, Addr.mk.injEq, and_true] at hp
  obtain ⟨rfl, rfl⟩ := hp
  have hg := flat_get xs (j / 2) hk
  rcases Nat.mod_two_eq_zero_or_one j with h2 | h2
  · have e : j / 2 * 2 = j := by omega
    rw [e] at c0 hg
    rw [hg.1] at hj
    cases hj
    rw [addr_add]; exact c0
  · have e : j / 2 * 2 + 1 = j := by omega
    rw [Nat.add_assoc, e] at c1
    rw [e] at hg
    rw [hg.2] at hj
    cases hj
    rw [addr_add]; exact c1
theorem flat_one (xs : List (Int × Int)) : ∀ u ∈ flat xs, u.oneCell' = true := by
  induction xs with
  | nil => intro u hu; simp [flat] at hu
  | cons x xs ih =>
    intro u hu
    simp only [flat, List.mem_cons] at hu
    rcases hu with rfl | rfl | hu
    · rfl
    · rfl
    · exact ih u hu

set_option maxRecDepth 100000 in
set_option maxHeartbeats 1000000 in
theorem Clone_any (b off cap : Nat) (xs : List (Int × Int)) (w : World) (hm : xs.length * 16 ≤ 140737488355328) (hc : CatsAt w (some ⟨b, off, none⟩) xs) :
    Calls Tryd.prog 27 #[.slice (some ⟨b, off, none⟩) xs.length cap] w fun e w' => ∃ v, e = .returned v ∧ w'.ownsRow w.heap.size 35 2 v xs.length (flat xs) ∧ Below w.heap.size w w' ∧ (v = .slice none 0 0 → False) := by
  obtain ⟨i0, hi, hz0, hz1, hz2⟩ := info_parts info30
  have hnil := fun (w : World) => Lib.run_eql_slice_nil (P := Tryd.prog) w 22 35 (some ⟨b, off, none⟩) xs.length cap 0 0 Tryd.underlying22
  have hown : (w.alloc (.cells #[] 35)).ownsRow w.heap.size 35 2 (.slice (some ⟨w.heap.size, 0, none⟩) 0 0) 0 [] := World.ownsRow_lit (base := w.heap.size) (e := 35) (size := 2) w #[] 0 (Nat.le_refl _) (by decide) rfl
  have hW : Below w.heap.size w (w.alloc (.cells #[] 35)) := by go_grown
  have HN : Hid (∀ j u, (flat xs)[j]? = some u → (w.alloc (.cells #[] 35)).cell? ((⟨b, off, none⟩ : Addr).add j) = some u) := (hc.below hW).flat
  have h63 : 0 + xs.length ≤ maxLen := by unfold maxLen; omega
  have hby : (0 + xs.length) * 16 ≤ 140737488355328 := by omega
  clear hc
  go_enter Tryd.func27, Tryd.ntmps27
  go_wp2_with (at_builtin; refine wpList_append_own _ rfl _ _ 22 rfl w.heap.size 35 i0 (.agg #[.int .i64 0, .int .i64 0]) 2 16 Tryd.underlying22 hi hz0 hz1 hz2 rfl (by decide) _ _ _ rfl hown ⟨b, off, none⟩ xs.length cap (flat xs) rfl (flat_length xs) HN.out (flat_one xs) h63 hby (by simp) ?_; intro v' w3 hown' hgrow3 hnil3)
  go_ret
  rw [Nat.zero_add, List.nil_append] at hown'
  exact ⟨v', rfl, hown', Below.grown hW hgrow3 (by simp) (fun k hk => Nat.le_of_eq (Option.some.inj (show some w.heap.size = some k from hk))), fun h => by have h1 := (hnil3.1 h).1; cases h1⟩

theorem guardE : Tryd.prog.eqGuardType Tryd.prog.depth 35 = false := by kernel_rfl

def Apart (zs : List (Int × Int)) : Prop := ∀ k, (h : k + 1 < zs.length) → zs[k].1 < zs[k + 1].1
set_option maxRecDepth 100000 in
set_option maxHeartbeats 1000000 in
theorem Compact_plain (p : Option Addr) (cap : Nat) (zs : List (Int × Int)) (w : World) (hm : zs.length ≤ maxLen) (hc : CatsAt w p zs) (ha : Apart zs) :
    Calls Tryd.prog 31 #[.slice p zs.length cap] w fun e w' => e = .returned (.slice p zs.length cap) ∧ Below w.heap.size w w' := by
  unfold maxLen at hm
  by_cases h2 : zs.length < 2
  · have h2' : (zs.length : Int) < 2 := by omega
    go_enter Tryd.func31, Tryd.ntmps31
    go_wp2
    go_ret
    exact ⟨rfl, Below.refl _ _⟩
  · have h2' : ¬ (zs.length : Int) < 2 := by omega
    have hg := guardE
    go_enter Tryd.func31, Tryd.ntmps31
    go_wp2
    go_loopw [3] (fun i wr => ∃ k : Nat, 1 ≤ k ∧ k ≤ zs.length ∧ i = .int .i64 k ∧ Below w.heap.size w wr) (fun i _ => zs.length - (intOf i).toNat)
    case atStart => exact ⟨1, by omega, by omega, rfl, Below.refl _ _⟩
    case round =>
      obtain ⟨k, hk1, hk, rfl, hb⟩ := hrel
      by_cases hlt : k < zs.length
      · obtain ⟨m, rfl⟩ : ∃ m, k = m + 1 := ⟨k - 1, by omega⟩
        obtain ⟨b, off, rfl, hbl, c0, c1⟩ := hc.get hb (Below.refl _ _) (Nat.le_refl _) (m + 1) hlt
        obtain ⟨b2, off2, he, _, c2, c3⟩ := hc.get hb (Below.refl _ _) (Nat.le_refl _) m (by omega)
        simp only [Option.some.injEq, Addr.mk.injEq, and_true] at he
        obtain ⟨rfl, rfl⟩ := he
        have hne := ha m hlt
        have hneq : ¬ zs[m + 1].1 = zs[m].1 := by omega
        clear hc ha hne
        have hwm : IntKind.i64.wrap (m : Int) = (m : Int) := IntWalk.i64_in _ (by omega)
        have hmi : (m : Int) < (zs.length : Int) := by omega
        have hmi1 : (m : Int) + 1 < (zs.length : Int) := by omega
        have hmi2 : (0 : Int) ≤ (m : Int) + 1 := by omega
        go_wp2
        go_quiet (fail)
        go_wp2
        go_roundw
        case rel => exact ⟨m + 1 + 1, by omega, by omega, by go_num, bdn hb _⟩
        case measure => simp [intOf]; omega
      · go_wp2
        go_ret
        exact ⟨rfl, hb⟩
end Go.Proofs.YtfpjeclbilhgdaaDoor
