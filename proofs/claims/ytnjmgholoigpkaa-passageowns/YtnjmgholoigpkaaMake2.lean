/- What Make answers where no two entries have one category, of up to a thousand entries, and where an entry can't be. -/
import Derived.Test.YtnjmgholoigpkaaLmix
namespace Go.Proofs.Ytnjmgholoigpkaa
open Go.RowKit Go.Sort Go.Shelf

set_option maxRecDepth 100000 in
set_option maxHeartbeats 2000000 in
theorem Make_apart2 (d : Int) (b off cap : Nat) (xs : List (Int × Int)) (w : World) (hl : lev d = true) (hcan : (xs.any fun x => !can x) = false) (hdf : Diff xs) (hm : xs.length ≤ 1000) (hc : CatsAt w (some ⟨b, off, none⟩) xs) :
    Calls Try.prog 48 #[.int .i64 d, .slice (some ⟨b, off, none⟩) xs.length cap] w fun e w' => ∃ v zs, zs.Perm xs ∧ SortedC zs ∧ e = .returned (.tuple #[.agg #[.int .i64 (fitD d (shortS d zs)), v], .int .i64 (fitE (shortS d zs))]) ∧ Rw w.heap.size w' v (fitL (shortS d zs)) ∧ Below w.heap.size w w' := by
  have hW : Below w.heap.size w (w.alloc (.cells #[.int .i64 0, .slice none 0 0] 24)) := by go_grown
  have hml : xs.length ≤ maxLen := by unfold maxLen; omega
  have hC := ContainsFunc_can (some ⟨b, off, none⟩) cap xs _ hml (hc.below hW)
  rw [hcan] at hC
  go_enter Try.func48, Try.ntmps48
  go_wp2_with (first
    | (go_at_call 69; refine (isLevel_any _ _).mono ?_; rintro e w' ⟨rfl, rfl⟩)
    | (go_at_call 70; refine hC.mono ?_; rintro e w1 ⟨rfl, hb1⟩; refine Hid.out ?_))
  refine Lib.hid ?_
  have hB1 : Below w.heap.size w w1 := hW.trans (hb1.mono (by simp))
  have hz1 : w.heap.size + 1 ≤ w1.heap.size := by have := hb1.size; simpa using this
  have r0 : w1.cell? ⟨w.heap.size, 0, none⟩ = some (.int .i64 0) := (hb1.cell (p := ⟨w.heap.size, 0, none⟩) (by simp)).trans (by simp [go_sem])
  have r1 : w1.cell? ⟨w.heap.size, 1, none⟩ = some (.slice none 0 0) := (hb1.cell (p := ⟨w.heap.size, 1, none⟩) (by simp)).trans (by simp [go_sem])
  have rf : ∀ o, w1.frozen? ⟨w.heap.size, o, none⟩ = false := fun o => (hb1.frozen (p := ⟨w.heap.size, o, none⟩) (by simp)).trans (by simp [go_sem])
  have hCl := Clone_any b off cap xs w1 (by omega) (hc.below hB1)
  clear hC hcan hc
  go_wp2_with (go_at_call 72; refine hCl.mono ?_; rintro e w2 ⟨v, rfl, hown2, hb2, hnn⟩; refine Hid.out ?_)
  refine Lib.hid ?_
  rcases Joins.ownsRow_forms hown2 with ⟨rfl, _⟩ | ⟨g, cap2, rfl⟩
  · exact (hnn rfl).elim
  have hg := hown2.lt g rfl
  have hS := SortFunc_any _ g cap2 xs w2 hown2 (by omega)
  clear hCl hnn
  go_wp2_with (go_at_call 73; refine hS.mono ?_; rintro e w3 ⟨rfl, zs, hlen, hperm, hsort, hc3, hb3⟩; refine Hid.out ?_)
  refine Lib.hid ?_
  have hap := apart_of hperm hdf hsort
  have hCo := Compact_plain (some ⟨g, 0, none⟩) cap2 zs w3 (by unfold maxLen; omega) hc3 hap
  rw [hlen] at hCo
  have HL : Hid (zs.length = xs.length) := hlen
  clear hlen hS
  go_wp2_with (go_at_call 76; refine hCo.mono ?_; rintro e w4 ⟨rfl, hb4⟩; refine Hid.out ?_)
  refine Lib.hid ?_
  clear hCo
  have hc4 := hc3.below hb4
  have hB4 : Below (w.heap.size + 1) w1 w4 := (hb2.mono (by omega)).trans ((hb3.mono (by omega)).trans (hb4.mono (by have := hb3.size; omega)))
  have HP : Hid (zs.Perm xs ∧ SortedC zs) := ⟨hperm, hsort⟩
  clear hperm hsort
  go_wp2
  go_loopw [25] (fun i wr => ∃ k : Nat, k ≤ xs.length ∧ i = .int .i64 k ∧ Below w4.heap.size w4 wr) (fun i _ => xs.length - (intOf i).toNat)
  case atStart => exact ⟨0, Nat.zero_le _, rfl, Below.refl _ _⟩
  case round =>
    obtain ⟨k, hk, rfl, hb5⟩ := hrel
    by_cases hlt : k + 1 < xs.length
    · have hk1 : k < zs.length := by rw [HL.out]; omega
      have hk2 : k + 1 < zs.length := by rw [HL.out]; omega
      obtain ⟨b1, o1, he1, _, c0, _⟩ := hc4.get hb5 (Below.refl _ _) (Nat.le_refl _) k hk1
      obtain ⟨b2, o2, he2, _, c1, _⟩ := hc4.get hb5 (Below.refl _ _) (Nat.le_refl _) (k + 1) hk2
      simp only [Option.some.injEq, Addr.mk.injEq, and_true] at he1 he2
      obtain ⟨rfl, rfl⟩ := he1
      obtain ⟨rfl, rfl⟩ := he2
      rw [Nat.zero_add] at c0 c1
      have hne : (zs[k].1 == zs[k + 1].1) = false := beq_eq_false_iff_ne.2 (by have := hap k hk2; omega)
      have hki : (k : Int) < (xs.length : Int) - 1 := by omega
      have hkj : (k : Int) < (xs.length : Int) := by omega
      have hkl : (k : Int) + 1 < (xs.length : Int) := by omega
      have hkz : (0 : Int) ≤ (k : Int) + 1 := by omega
      clear hap hc4 hc3
      go_wp2
      go_quiet (fail)
      go_wp2
      go_roundw
      case rel => exact ⟨k + 1, by omega, by go_num, bdn hb5 _⟩
      case measure => simp [intOf]; omega
    · have hki : ¬ (k : Int) < (xs.length : Int) - 1 := by omega
      have hSh := short_any d (some ⟨g, 0, none⟩) cap2 zs wr (by rw [HL.out]; omega) (hc4.below hb5)
      rw [HL.out] at hSh
      have hB5 : Below (w.heap.size + 1) w1 wr := hB4.trans (hb5.mono (by have := hB4.size; omega))
      clear hap hc4 hc3
      go_wp2_with (go_at_call 78; refine hSh.mono ?_; rintro e w6 ⟨v6, rfl, hown6, hb6⟩; refine Hid.out ?_)
      refine Lib.hid ?_
      have hF := Fit_any d v6 _ (shortS d zs) w6 hown6
      obtain ⟨p6, cap6, rfl, hc6, hcap6⟩ := own_out hown6
      clear hown6 hc6
      go_wp2_with (go_at_call 77; refine hF.mono ?_; rintro e w7 ⟨v7, rfl, hown7, hb7⟩; refine Hid.out ?_)
      refine Lib.hid ?_
      obtain ⟨p7, cap7, rfl, hc7, hcap7⟩ := own_out hown7
      have hB7 : Below (w.heap.size + 1) w1 w7 := hB5.trans ((hb6.trans (hb7.mono hb6.size)).mono (by have := hB5.size; omega))
      have q0 := (hB7.cell (p := ⟨w.heap.size, 0, none⟩) (by simp)).trans r0
      have q1 := (hB7.cell (p := ⟨w.heap.size, 1, none⟩) (by simp)).trans r1
      have qf : ∀ o, w7.frozen? ⟨w.heap.size, o, none⟩ = false := fun o => (hB7.frozen (p := ⟨w.heap.size, o, none⟩) (by simp)).trans (rf o)
      clear hc7 hF hSh
      go_wp2
      refine bodyPost_ret (by simp [results, Try.results48, go_sem, q0, q1]; rfl) rfl ⟨_, zs, HP.out.1, HP.out.2, rfl, ?_, ?_⟩
      · exact Rw.mono (Rw.set (Rw.set (Rw.own (Joins.ownsRow_le hown7 (show w.heap.size + 1 ≤ wr.heap.size by have := hB5.size; omega)) (Nat.le_refl _)) (by simp) _) (by simp) _) (by omega)
      · exact ((hB1.trans (hB7.mono (by omega))).setCell (p := ⟨w.heap.size, 0, none⟩) (Nat.le_refl _) _).setCell (p := ⟨w.heap.size, 1, none⟩) (Nat.le_refl _) _

theorem Make_bad (d : Int) (p : Option Addr) (cap : Nat) (xs : List (Int × Int)) (w : World) (hl : lev d = true) (hcan : (xs.any fun x => !can x) = true) (hm : xs.length ≤ maxLen) (hc : CatsAt w p xs) :
    Calls Try.prog 48 #[.int .i64 d, .slice p xs.length cap] w fun e w' => e = .returned (.tuple #[.agg #[.int .i64 0, .slice none 0 0], .int .i64 1]) ∧ Below w.heap.size w w' := by
  have hW : Below w.heap.size w (w.alloc (.cells #[.int .i64 0, .slice none 0 0] 24)) := by go_grown
  have hC := ContainsFunc_can p cap xs _ hm (hc.below hW)
  rw [hcan] at hC
  go_enter Try.func48, Try.ntmps48
  go_wp2_with (first
    | (go_at_call 69; refine (isLevel_any _ _).mono ?_; rintro e w' ⟨rfl, rfl⟩)
    | (go_at_call 70; refine hC.mono ?_; rintro e w1 ⟨rfl, hb1⟩; have r0 : w1.cell? ⟨w.heap.size, 0, none⟩ = some (.int .i64 0) := (hb1.cell (p := ⟨w.heap.size, 0, none⟩) (by simp)).trans (by simp [go_sem]); have r1 : w1.cell? ⟨w.heap.size, 1, none⟩ = some (.slice none 0 0) := (hb1.cell (p := ⟨w.heap.size, 1, none⟩) (by simp)).trans (by simp [go_sem]); have rf : ∀ o, w1.frozen? ⟨w.heap.size, o, none⟩ = false := (fun o => (hb1.frozen (p := ⟨w.heap.size, o, none⟩) (by simp)).trans (by simp [go_sem]))))
  refine bodyPost_ret (by simp [results, Try.results48, go_sem, r0, r1]) rfl ⟨rfl, ?_⟩
  exact ((hW.trans (hb1.mono (by simp))).setCell (p := ⟨w.heap.size, 0, none⟩) (Nat.le_refl _) _).setCell (p := ⟨w.heap.size, 1, none⟩) (Nat.le_refl _) _
end Go.Proofs.Ytnjmgholoigpkaa
