/- Make of no entries at all. -/
import Derived.Test.YtnjmgholoigpkaaMakesM
import Derived.Test.YtnjmgholoigpkaaOwn0
namespace Go.Proofs.Ytnjmgholoigpkaa
open Go.RowKit Go.Sort
set_option maxRecDepth 100000
theorem Clone_nil (w : World) : Calls Try.prog 72 #[.slice none 0 0] w fun e w' => e = .returned (.slice none 0 0) ∧ w' = w := by
  have hnil := fun (w : World) => Lib.run_eql_slice_nil (P := Try.prog) w 22 50 none 0 0 0 0 Try.underlying22
  go_enter Try.func72, Try.ntmps72
  go_wp2_with fail
  go_ret
  exact ⟨rfl, rfl⟩
theorem Compact_nil (w : World) : Calls Try.prog 76 #[.slice none 0 0] w fun e w' => e = .returned (.slice none 0 0) ∧ w' = w := by
  go_enter Try.func76, Try.ntmps76
  go_wp2_with fail
  go_ret
  exact ⟨rfl, rfl⟩
theorem insert_nil (fv : Value) (w : World) (hf : fv = .func (.func 74) #[] #[]) : Calls Try.prog 99 #[.slice none 0 0, .int .i64 0, .int .i64 0, fv] w fun e w' => e = .returned (.tuple #[]) ∧ w' = w := by
  subst hf
  go_enter Try.func99, Try.ntmps99
  go_wp2_with fail
  go_loopw [8] (fun i wr => i = .int .i64 1 ∧ w = wr) (fun _ _ => 0)
  case atStart => exact ⟨rfl, rfl⟩
  case round =>
    obtain ⟨rfl, rfl⟩ := hrel
    go_wp2
    go_end0
    exact ⟨rfl, rfl⟩
theorem ContainsF_nil (fv : Value) (w : World) (hf : fv = .func (.func 71) #[] #[]) : Calls Try.prog 70 #[.slice none 0 0, fv] w fun e w' => e = .returned (.bool false) ∧ w' = w := by
  subst hf
  have H : Calls Try.prog 90 #[.slice none 0 0, .func (.func 71) #[] #[]] w fun e w' => e = .returned (.int .i64 (-1)) ∧ w' = w := by
    go_enter Try.func90, Try.ntmps90
    go_wp2_with fail
    go_loopw [8] (fun i wr => i = .int .i64 0 ∧ w = wr) (fun _ _ => 0)
    case atStart => exact ⟨rfl, rfl⟩
    case round =>
      obtain ⟨rfl, rfl⟩ := hrel
      go_wp2
      go_ret
      exact ⟨rfl, rfl⟩
  go_enter Try.func70, Try.ntmps70
  go_wp2_with (go_at_call 90; refine H.mono ?_; rintro e w1 ⟨rfl, hw1⟩; rw [hw1]; clear hw1 w1)
  go_ret
  exact ⟨rfl, rfl⟩
theorem Len_nil (w : World) : Calls Try.prog 92 #[.int .u64 0] w fun e w' => e = .returned (.int .i64 0) ∧ w' = w := by
  have H : Calls Try.prog 108 #[.int .u64 0] w fun e w' => e = .returned (.int .i64 0) ∧ w' = w := by
    go_enter Try.func108, Try.ntmps108
    go_wp2_with fail
    go_ret
    exact ⟨by show Ending.returned (.int .i64 (wrap64 (wrap64 (Lib.len8 0)))) = _; rw [show wrap64 (wrap64 (Lib.len8 0)) = 0 from by kernel_rfl], rfl⟩
  go_enter Try.func92, Try.ntmps92
  go_wp2_with (go_at_call 108; refine H.mono ?_; rintro e w1 ⟨rfl, hw1⟩; rw [hw1]; clear hw1 w1)
  go_ret
  exact ⟨rfl, rfl⟩
theorem pdq_nil (fv : Value) (w : World) (hf : fv = .func (.func 74) #[] #[]) : Calls Try.prog 91 #[.slice none 0 0, .int .i64 0, .int .i64 0, .int .i64 0, fv] w fun e w' => e = .returned (.tuple #[]) ∧ w' = w := by
  subst hf
  have H := Lib.hid (insert_nil _ w rfl)
  go_enter Try.func91, Try.ntmps91
  go_wp2_with fail
  go_loopw [1, 2] (fun a b wr => a = .int .i64 0 ∧ b = .int .i64 0 ∧ w = wr) (fun _ _ _ => 0)
  case atStart => exact ⟨rfl, rfl, rfl⟩
  case round =>
    obtain ⟨rfl, rfl, rfl⟩ := hrel
    go_wp2_with (go_at_call 99; refine H.out.mono ?_; rintro e w1 ⟨rfl, hw1⟩; rw [hw1]; clear hw1 w1)
    (try simp only [Exit.inBlock, Exit.then])
    refine bodyPost_ret (results_none rfl _ _ _) rfl ?_
    exact ⟨rfl, rfl⟩
theorem Sort_nil (fv : Value) (w : World) (hf : fv = .func (.func 74) #[] #[]) : Calls Try.prog 73 #[.slice none 0 0, fv] w fun e w' => e = .returned (.tuple #[]) ∧ w' = w := by
  subst hf
  have H1 := Lib.hid (Len_nil w)
  have H2 := Lib.hid (pdq_nil _ w rfl)
  go_enter Try.func73, Try.ntmps73
  go_wp2_with (first
    | (go_at_call 92; refine H1.out.mono ?_; rintro e w1 ⟨rfl, hw1⟩; rw [hw1]; clear hw1 w1)
    | (go_at_call 91; refine H2.out.mono ?_; rintro e w1 ⟨rfl, hw1⟩; rw [hw1]; clear hw1 w1))
  go_end0
  exact ⟨rfl, rfl⟩
theorem Make_nil (d : Int) (w : World) (hl : lev d = true) : Calls Try.prog 48 #[.int .i64 d, .slice none 0 0] w fun e w' => ∃ x, e = .returned (.tuple #[x, .int .i64 0]) ∧ Below w.heap.size w w' ∧ RV w.heap.size (d, []) x w' := by
  have HL : Hid (∀ W, Calls Try.prog 69 #[.int .i64 d] W fun e w' => e = .returned (.bool true) ∧ w' = W) := fun W => by
    have := isLevel_any d W
    rw [hl] at this; exact this
  have HC : Hid (∀ W, _) := fun W => ContainsF_nil _ W rfl
  have HK : Hid (∀ W, _) := fun W => Clone_nil W
  have HS : Hid (∀ W, _) := fun W => Sort_nil _ W rfl
  have HP : Hid (∀ W, _) := fun W => Compact_nil W
  clear hl
  go_enter Try.func48, Try.ntmps48
  go_wp2_with (first
    | (go_at_call 69; refine (HL.out _).mono ?_; rintro e w1 ⟨rfl, hw1⟩; rw [hw1]; clear hw1 w1)
    | (go_at_call 70; refine (HC.out _).mono ?_; rintro e w1 ⟨rfl, hw1⟩; rw [hw1]; clear hw1 w1)
    | (go_at_call 72; refine (HK.out _).mono ?_; rintro e w1 ⟨rfl, hw1⟩; rw [hw1]; clear hw1 w1)
    | (go_at_call 73; refine (HS.out _).mono ?_; rintro e w1 ⟨rfl, hw1⟩; rw [hw1]; clear hw1 w1)
    | (go_at_call 76; refine (HP.out _).mono ?_; rintro e w1 ⟨rfl, hw1⟩; rw [hw1]; clear hw1 w1))
  go_loopw [25] (fun i wr => i = .int .i64 0 ∧ (w.alloc (.cells #[.int .i64 0, .slice none 0 0] 24)) = wr) (fun _ _ => 0)
  case atStart => exact ⟨rfl, rfl⟩
  case round =>
    obtain ⟨rfl, rfl⟩ := hrel
    have hA : Below w.heap.size w (w.alloc (.cells #[.int .i64 0, .slice none 0 0] 24)) := by go_grown
    have hSh := short_any d none 0 [] (w.alloc (.cells #[.int .i64 0, .slice none 0 0] 24)) (by simp) (fun j hj => absurd hj (by simp))
    go_wp2_with (go_at_call 78; refine hSh.mono ?_; rintro e w6 ⟨v6, rfl, hown6, hb6⟩; refine Hid.out ?_)
    refine Lib.hid ?_
    have hF := fit_any d v6 _ (shortS d []) w6 hown6 (by simp [shortS])
    have hR6 : Rw (w.heap.size + 1) w6 v6 [] := Rw.own (zs := shortS d []) hown6 (by simp)
    have hv : v6 = .slice none 0 0 ∨ ∃ g cap, v6 = .slice (some ⟨g, 0, none⟩) 0 cap := by
      rcases hown6.2 with ⟨h, _⟩ | ⟨g, cap, _, h, _⟩
      · exact .inl h
      · exact .inr ⟨g, cap, h⟩
    obtain ⟨p6, c6, rfl⟩ : ∃ p6 c6, v6 = .slice p6 0 c6 := by
      rcases hv with h | ⟨g, cap, h⟩
      · exact ⟨none, 0, h⟩
      · exact ⟨_, _, h⟩
    have HR6 := Lib.hid hR6
    clear hown6 hv hR6
    go_wp2_with (go_at_call 77; refine hF.mono ?_; rintro e w7 ⟨rfl, hb7⟩; refine Hid.out ?_)
    refine Lib.hid ?_
    have hB7 : Below (w.heap.size + 1) (w.alloc (.cells #[.int .i64 0, .slice none 0 0] 24)) w7 := by
      have h1 := hb6.trans (hb7.mono hb6.size)
      simpa using h1
    have q0 := (hB7.cell (p := ⟨w.heap.size, 0, none⟩) (by simp)).trans (show _ = some (.int .i64 0) from by simp [go_sem])
    have q1 := (hB7.cell (p := ⟨w.heap.size, 1, none⟩) (by simp)).trans (show _ = some (.slice none 0 0) from by simp [go_sem])
    have qf : ∀ o, w7.frozen? ⟨w.heap.size, o, none⟩ = false := fun o => (hB7.frozen (p := ⟨w.heap.size, o, none⟩) (by simp)).trans (by simp [go_sem])
    clear hF hSh
    go_wp2
    refine bodyPost_ret (by simp [results, Try.results48, go_sem, q0, q1]; rfl) rfl ⟨_, rfl, ?_, ?_⟩
    · exact ((hA.trans (hB7.mono (by omega))).setCell (p := ⟨w.heap.size, 0, none⟩) (Nat.le_refl _) _).setCell (p := ⟨w.heap.size, 1, none⟩) (Nat.le_refl _) _
    · exact ⟨_, rfl, Rw.mono (Rw.set (Rw.set (HR6.out.below hb7) (by simp) _) (by simp) _) (by omega)⟩
end Go.Proofs.Ytnjmgholoigpkaa
