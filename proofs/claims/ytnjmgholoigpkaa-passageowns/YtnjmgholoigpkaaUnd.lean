/- under and its closure. -/
import Derived.Test.YtnjmgholoigpkaaOps2
namespace Go.Proofs.Ytnjmgholoigpkaa
open Go.RowKit Go.Sort
set_option maxRecDepth 100000 in
set_option maxHeartbeats 1000000 in
theorem under1_any (F F' : Int → Int) (c : Int) (B C : Nat) (u u' : Value) (w : World) (hc : w.cell? ⟨B, 0, none⟩ = some u) (hc' : w.cell? ⟨C, 0, none⟩ = some u') (hu : Lev F u w) (hu' : Lev F' u' w) :
    Calls Try.prog 79 #[.int .i64 c, .pointer (some ⟨B, 0, none⟩), .pointer (some ⟨C, 0, none⟩)] w fun e w' => e = .returned (.bool (decide (F' c < F c))) ∧ Below w.heap.size w w' := by
  have hBl : B < w.heap.size := World.block_lt_of_cell? w _ hc
  have hCl : C < w.heap.size := World.block_lt_of_cell? w _ hc'
  go_enter Try.func79, Try.ntmps79
  go_wp2_with fail
  refine wp_region_mono 7 (fun k v W => match k with | 5 => Lev F v W | 6 => v = .int .i64 c | 7 => v = .int .i64 (F c) | 8 => Lev F' v W | 9 => v = .int .i64 c | 10 => v = .int .i64 (F' c) | 11 => v = .bool (decide ((F' c) < (F c))) | _ => True) (by kernel_rfl) (by kernel_rfl) (by kernel_rfl) (by kernel_rfl) (by simp) (by kernel_rfl) ?_ ?_ ?_
  · intro k v W W' h hb
    revert h
    try dsimp only
    split
    · intro h; exact Lev.below h hb
    · intro h; exact h
    · intro h; exact h
    · intro h; exact Lev.below h hb
    · intro h; exact h
    · intro h; exact h
    · intro h; exact h
    · intro h; trivial
  · intro a' W hB hs hk i o d ho hd hG
    match i, ho with
    | 0, ho =>
      obtain rfl : _ = o := Option.some.inj ho
      obtain rfl : 5 = d := Option.some.inj hd
      have hcl := (hB.cell (p := ⟨B, 0, none⟩) hBl).trans hc
      exact .inr ⟨rfl, .inl ⟨u, W, run_loadF (hk 1 (by kernel_rfl)) hcl (hu.below hB), Below.refl _ _, hu.below hB⟩⟩
    | 1, ho =>
      obtain rfl : _ = o := Option.some.inj ho
      obtain rfl : 6 = d := Option.some.inj hd
      exact .inr ⟨rfl, .inl ⟨_, W, run_move (hk 0 (by kernel_rfl)), Below.refl _ _, rfl⟩⟩
    | 2, ho =>
      obtain rfl : _ = o := Option.some.inj ho
      obtain rfl : 7 = d := Option.some.inj hd
      have g6 : (a'.eval (.tmp 6)) = .int .i64 c := hG ⟨1, .data⟩ (by simp) rfl 6 rfl
      have g5 : Lev F (a'.eval (.tmp 5)) W := hG ⟨0, .data⟩ (by simp) rfl 5 rfl
      have ha : (#[Operand.tmp 6] : Array Operand).map a'.eval = #[Value.int .i64 c] := by rw [map_1, g6]
      obtain ⟨f, cap, hf, he, hF⟩ := g5
      exact .inr ⟨rfl, .inr ⟨_, _, run_callF hf ha he, (hF W (Below.refl _ _) c).mono (by rintro e W' ⟨rfl, hb⟩; exact ⟨_, rfl, hb, rfl⟩)⟩⟩
    | 3, ho =>
      obtain rfl : _ = o := Option.some.inj ho
      obtain rfl : 8 = d := Option.some.inj hd
      have hcl := (hB.cell (p := ⟨C, 0, none⟩) hCl).trans hc'
      exact .inr ⟨rfl, .inl ⟨u', W, run_loadF (hk 2 (by kernel_rfl)) hcl (hu'.below hB), Below.refl _ _, hu'.below hB⟩⟩
    | 4, ho =>
      obtain rfl : _ = o := Option.some.inj ho
      obtain rfl : 9 = d := Option.some.inj hd
      exact .inr ⟨rfl, .inl ⟨_, W, run_move (hk 0 (by kernel_rfl)), Below.refl _ _, rfl⟩⟩
    | 5, ho =>
      obtain rfl : _ = o := Option.some.inj ho
      obtain rfl : 10 = d := Option.some.inj hd
      have g9 : (a'.eval (.tmp 9)) = .int .i64 c := hG ⟨4, .data⟩ (by simp) rfl 9 rfl
      have g8 : Lev F' (a'.eval (.tmp 8)) W := hG ⟨3, .data⟩ (by simp) rfl 8 rfl
      have ha : (#[Operand.tmp 9] : Array Operand).map a'.eval = #[Value.int .i64 c] := by rw [map_1, g9]
      obtain ⟨f, cap, hf, he, hF⟩ := g8
      exact .inr ⟨rfl, .inr ⟨_, _, run_callF hf ha he, (hF W (Below.refl _ _) c).mono (by rintro e W' ⟨rfl, hb⟩; exact ⟨_, rfl, hb, rfl⟩)⟩⟩
    | 6, ho =>
      obtain rfl : _ = o := Option.some.inj ho
      obtain rfl : 11 = d := Option.some.inj hd
      have g7 : (a'.eval (.tmp 7)) = .int .i64 (F c) := hG ⟨2, .data⟩ (by simp) rfl 7 rfl
      have g10 : (a'.eval (.tmp 10)) = .int .i64 (F' c) := hG ⟨5, .data⟩ (by simp) rfl 10 rfl
      exact .inr ⟨rfl, .inl ⟨_, W, run_gtr g7 g10, Below.refl _ _, rfl⟩⟩
    | j + 7, ho => simp at ho
  · intro a' W hB hs hdf hk hG
    obtain ⟨tm, df⟩ := a'
    obtain rfl : df = [] := hdf
    have e0 : tm.getD 0 undef = .int .i64 c := hk 0 (by kernel_rfl)
    have e1 : tm.getD 1 undef = .pointer (some ⟨B, 0, none⟩) := hk 1 (by kernel_rfl)
    have e2 : tm.getD 2 undef = .pointer (some ⟨C, 0, none⟩) := hk 2 (by kernel_rfl)
    have e3 : tm.getD 3 undef = undef := hk 3 (by kernel_rfl)
    have e4 : tm.getD 4 undef = .bool false := hk 4 (by kernel_rfl)
    have g5 : Lev F (tm.getD 5 undef) W := hG 0 5 (by decide) rfl
    have g6 : (tm.getD 6 undef) = .int .i64 c := hG 1 6 (by decide) rfl
    have g7 : (tm.getD 7 undef) = .int .i64 (F c) := hG 2 7 (by decide) rfl
    have g8 : Lev F' (tm.getD 8 undef) W := hG 3 8 (by decide) rfl
    have g9 : (tm.getD 9 undef) = .int .i64 c := hG 4 9 (by decide) rfl
    have g10 : (tm.getD 10 undef) = .int .i64 (F' c) := hG 5 10 (by decide) rfl
    have g11 : (tm.getD 11 undef) = .bool (decide ((F' c) < (F c))) := hG 6 11 (by decide) rfl
    have htm := arr_of tm [.int .i64 c, .pointer (some ⟨B, 0, none⟩), .pointer (some ⟨C, 0, none⟩), undef, .bool false, tm.getD 5 undef, tm.getD 6 undef, tm.getD 7 undef, tm.getD 8 undef, tm.getD 9 undef, tm.getD 10 undef, tm.getD 11 undef] hs (by show [tm.getD 0 undef, tm.getD 1 undef, tm.getD 2 undef, tm.getD 3 undef, tm.getD 4 undef, tm.getD 5 undef, tm.getD 6 undef, tm.getD 7 undef, tm.getD 8 undef, tm.getD 9 undef, tm.getD 10 undef, tm.getD 11 undef] = _; rw [e0, e1, e2, e3, e4])
    clear hs hk hG e0 e1 e2 e3 e4
    generalize tm.getD 5 undef = t5 at htm g5
    generalize tm.getD 6 undef = t6 at htm g6
    generalize tm.getD 7 undef = t7 at htm g7
    generalize tm.getD 8 undef = t8 at htm g8
    generalize tm.getD 9 undef = t9 at htm g9
    generalize tm.getD 10 undef = t10 at htm g10
    generalize tm.getD 11 undef = t11 at htm g11
    subst htm
    subst g6
    subst g7
    subst g9
    subst g10
    subst g11
    simp only [List.drop_succ_cons, List.drop_zero]
    go_wp2
    go_ret
    exact ⟨rfl, hB⟩
end Go.Proofs.Ytnjmgholoigpkaa
