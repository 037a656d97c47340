/- atMost. -/
import Derived.Test.YtnjmgholoigpkaaFlo
namespace Go.Proofs.Ytnjmgholoigpkaa
open Go.RowKit Go.Sort
theorem ent_passage_named : Enters 47 := fun args W => by go_simp
theorem ent_slices_Concat___int_int_ : Enters 60 := fun args W => by go_simp
theorem ent_passage_under : Enters 53 := fun args W => by go_simp
/-- Is the label at most the greatest of the others? -/
def atMB (l : ML) (ls : List ML) : Bool := undB (gr [l]) (gr ls) (namL [l] ++ namL ls)
theorem LsV.le {ls : List ML} {v : Value} {W : World} (h : LsV ls v W) : ∀ x ∈ ls, x.2.length ≤ 16 := fun x hx => by
  obtain ⟨b, _, _, hL⟩ := h
  obtain ⟨j, hj, rfl⟩ := List.getElem_of_mem hx
  obtain ⟨_, _, _, _, _, _, _, h⟩ := hL j hj
  exact h
set_option maxRecDepth 100000 in
set_option maxHeartbeats 1000000 in
theorem atMost_c {l : ML} {ls : List ML} {v u : Value} {w : World} (hl : LV l v w) (hls : LsV ls u w) (hls16 : ls.length ≤ 16) :
    Calls Try.prog 33 #[v, u] w fun e w' => ∃ v', e = .returned v' ∧ Below w.heap.size w w' ∧ v' = .bool (atMB l ls) := by
  obtain ⟨pl, cl, rfl, hl1, hl2, hl3⟩ := id hl
  have hA : Below w.heap.size w (w.alloc (.cells #[.int .i64 l.1, .slice pl l.2.length cl] 24)) := by go_grown
  have hbl : LBox l (w.alloc (.cells #[.int .i64 l.1, .slice pl l.2.length cl] 24)) w.heap.size 0 := ⟨pl, cl, by simp, by simp [go_sem], by simp [go_sem], hl1.below hA, hl2, hl3⟩
  have hlsA := hls.below hA
  have hlen : (namL [l]).length + (namL ls).length < 1000000 := by
    have h1 := namL_len [l] (fun x hx => by simp at hx; subst hx; exact hl3)
    have h2 := namL_len ls hls.le
    simp at h1
    omega
  obtain ⟨b, rfl, hb0, hLL⟩ := id hls
  go_enter Try.func33, Try.ntmps33
  go_wp2_with fail
  refine wp_region_mono 13 (fun k v W => match k with | 5 => LV l v W | 6 => LsV [l] v W | 7 => Lev (gr [l]) v W | 8 => LsV ls v W | 9 => Lev (gr ls) v W | 10 => LV l v W | 11 => LsV [l] v W | 12 => IV (namL [l]) v W | 13 => LsV ls v W | 14 => IV (namL ls) v W | 15 => RsV (namL [l]) (namL ls) v W | 16 => IV ((namL [l]) ++ (namL ls)) v W | 17 => v = .bool (undB (gr [l]) (gr ls) ((namL [l]) ++ (namL ls))) | _ => True) (by kernel_rfl) (by kernel_rfl) (by kernel_rfl) (by kernel_rfl) (by simp) (by kernel_rfl) ?_ ?_ ?_
  · intro k v W W' h hb
    revert h
    try dsimp only
    split
    · intro h; exact LV.below h hb
    · intro h; exact LsV.below h hb
    · intro h; exact Lev.below h hb
    · intro h; exact LsV.below h hb
    · intro h; exact Lev.below h hb
    · intro h; exact LV.below h hb
    · intro h; exact LsV.below h hb
    · intro h; exact IV.below h hb
    · intro h; exact LsV.below h hb
    · intro h; exact IV.below h hb
    · intro h; exact RsV.below h hb
    · intro h; exact IV.below h hb
    · intro h; exact h
    · intro h; trivial
  · intro a' W hB hs hk i o d ho hd hG
    match i, ho with
    | 0, ho =>
      obtain rfl : _ = o := Option.some.inj ho
      obtain rfl : 5 = d := Option.some.inj hd
      obtain ⟨v, hr, hv⟩ := run_loadL (ev := a'.eval) (W := W) (hk 2 (by kernel_rfl)) (hbl.below hB)
      exact .inr ⟨rfl, .inl ⟨v, W, hr, Below.refl _ _, hv⟩⟩
    | 1, ho =>
      obtain rfl : _ = o := Option.some.inj ho
      obtain rfl : 6 = d := Option.some.inj hd
      have g5 : LV l (a'.eval (.tmp 5)) W := hG ⟨0, .data⟩ (by simp) rfl 5 rfl
      obtain ⟨v, W', hr, hb, hv⟩ := run_slice1 (ev := a'.eval) (W := W) rfl g5
      exact .inr ⟨rfl, .inl ⟨v, W', hr, hb, hv⟩⟩
    | 2, ho =>
      obtain rfl : _ = o := Option.some.inj ho
      obtain rfl : 7 = d := Option.some.inj hd
      have g6 : LsV [l] (a'.eval (.tmp 6)) W := hG ⟨1, .data⟩ (by simp) rfl 6 rfl
      exact .inr ⟨rfl, .inr ⟨_, _, run_call rfl map_1 ent_passage_greatest, greatest_c g6 (by first | exact hls16 | simp)⟩⟩
    | 3, ho =>
      obtain rfl : _ = o := Option.some.inj ho
      obtain rfl : 8 = d := Option.some.inj hd
      exact .inr ⟨rfl, .inl ⟨_, W, run_move (hk 1 (by kernel_rfl)), Below.refl _ _, hlsA.below hB⟩⟩
    | 4, ho =>
      obtain rfl : _ = o := Option.some.inj ho
      obtain rfl : 9 = d := Option.some.inj hd
      have g8 : LsV ls (a'.eval (.tmp 8)) W := hG ⟨3, .data⟩ (by simp) rfl 8 rfl
      exact .inr ⟨rfl, .inr ⟨_, _, run_call rfl map_1 ent_passage_greatest, greatest_c g8 (by first | exact hls16 | simp)⟩⟩
    | 5, ho =>
      obtain rfl : _ = o := Option.some.inj ho
      obtain rfl : 10 = d := Option.some.inj hd
      obtain ⟨v, hr, hv⟩ := run_loadL (ev := a'.eval) (W := W) (hk 2 (by kernel_rfl)) (hbl.below hB)
      exact .inr ⟨rfl, .inl ⟨v, W, hr, Below.refl _ _, hv⟩⟩
    | 6, ho =>
      obtain rfl : _ = o := Option.some.inj ho
      obtain rfl : 11 = d := Option.some.inj hd
      have g10 : LV l (a'.eval (.tmp 10)) W := hG ⟨5, .data⟩ (by simp) rfl 10 rfl
      obtain ⟨v, W', hr, hb, hv⟩ := run_slice1 (ev := a'.eval) (W := W) rfl g10
      exact .inr ⟨rfl, .inl ⟨v, W', hr, hb, hv⟩⟩
    | 7, ho =>
      obtain rfl : _ = o := Option.some.inj ho
      obtain rfl : 12 = d := Option.some.inj hd
      have g11 : LsV [l] (a'.eval (.tmp 11)) W := hG ⟨6, .data⟩ (by simp) rfl 11 rfl
      exact .inr ⟨rfl, .inr ⟨_, _, run_call rfl map_1 ent_passage_named, named_c g11 (by first | exact hls16 | simp)⟩⟩
    | 8, ho =>
      obtain rfl : _ = o := Option.some.inj ho
      obtain rfl : 13 = d := Option.some.inj hd
      exact .inr ⟨rfl, .inl ⟨_, W, run_move (hk 1 (by kernel_rfl)), Below.refl _ _, hlsA.below hB⟩⟩
    | 9, ho =>
      obtain rfl : _ = o := Option.some.inj ho
      obtain rfl : 14 = d := Option.some.inj hd
      have g13 : LsV ls (a'.eval (.tmp 13)) W := hG ⟨8, .data⟩ (by simp) rfl 13 rfl
      exact .inr ⟨rfl, .inr ⟨_, _, run_call rfl map_1 ent_passage_named, named_c g13 (by first | exact hls16 | simp)⟩⟩
    | 10, ho =>
      obtain rfl : _ = o := Option.some.inj ho
      obtain rfl : 15 = d := Option.some.inj hd
      have g12 : IV (namL [l]) (a'.eval (.tmp 12)) W := hG ⟨7, .data⟩ (by simp) rfl 12 rfl
      have g14 : IV (namL ls) (a'.eval (.tmp 14)) W := hG ⟨9, .data⟩ (by simp) rfl 14 rfl
      obtain ⟨v, W', hr, hb, hv⟩ := run_rows (ev := a'.eval) (W := W) rfl rfl g12 g14
      exact .inr ⟨rfl, .inl ⟨v, W', hr, hb, hv⟩⟩
    | 11, ho =>
      obtain rfl : _ = o := Option.some.inj ho
      obtain rfl : 16 = d := Option.some.inj hd
      have g15 : RsV (namL [l]) (namL ls) (a'.eval (.tmp 15)) W := hG ⟨10, .data⟩ (by simp) rfl 15 rfl
      exact .inr ⟨rfl, .inr ⟨_, _, run_call rfl map_1 ent_slices_Concat___int_int_, Concat_c g15 hlen⟩⟩
    | 12, ho =>
      obtain rfl : _ = o := Option.some.inj ho
      obtain rfl : 17 = d := Option.some.inj hd
      have g7 : Lev (gr [l]) (a'.eval (.tmp 7)) W := hG ⟨2, .data⟩ (by simp) rfl 7 rfl
      have g9 : Lev (gr ls) (a'.eval (.tmp 9)) W := hG ⟨4, .data⟩ (by simp) rfl 9 rfl
      have g16 : IV ((namL [l]) ++ (namL ls)) (a'.eval (.tmp 16)) W := hG ⟨11, .data⟩ (by simp) rfl 16 rfl
      exact .inr ⟨rfl, .inr ⟨_, _, run_call rfl map_3 ent_passage_under, under_c g7 g9 g16 (by rw [List.length_append]; exact hlen)⟩⟩
    | j + 13, ho => simp at ho
  · intro a' W hB hs hdf hk hG
    obtain ⟨tm, df⟩ := a'
    obtain rfl : df = [] := hdf
    have e0 : tm.getD 0 undef = .agg #[.int .i64 l.fst, .slice pl l.snd.length cl] := hk 0 (by kernel_rfl)
    have e1 : tm.getD 1 undef = .slice (some ⟨b, 0, none⟩) ls.length ls.length := hk 1 (by kernel_rfl)
    have e2 : tm.getD 2 undef = .pointer (some ⟨w.heap.size, 0, none⟩) := hk 2 (by kernel_rfl)
    have e3 : tm.getD 3 undef = undef := hk 3 (by kernel_rfl)
    have e4 : tm.getD 4 undef = .bool false := hk 4 (by kernel_rfl)
    have g5 : LV l (tm.getD 5 undef) W := hG 0 5 (by decide) rfl
    have g6 : LsV [l] (tm.getD 6 undef) W := hG 1 6 (by decide) rfl
    have g7 : Lev (gr [l]) (tm.getD 7 undef) W := hG 2 7 (by decide) rfl
    have g8 : LsV ls (tm.getD 8 undef) W := hG 3 8 (by decide) rfl
    have g9 : Lev (gr ls) (tm.getD 9 undef) W := hG 4 9 (by decide) rfl
    have g10 : LV l (tm.getD 10 undef) W := hG 5 10 (by decide) rfl
    have g11 : LsV [l] (tm.getD 11 undef) W := hG 6 11 (by decide) rfl
    have g12 : IV (namL [l]) (tm.getD 12 undef) W := hG 7 12 (by decide) rfl
    have g13 : LsV ls (tm.getD 13 undef) W := hG 8 13 (by decide) rfl
    have g14 : IV (namL ls) (tm.getD 14 undef) W := hG 9 14 (by decide) rfl
    have g15 : RsV (namL [l]) (namL ls) (tm.getD 15 undef) W := hG 10 15 (by decide) rfl
    have g16 : IV ((namL [l]) ++ (namL ls)) (tm.getD 16 undef) W := hG 11 16 (by decide) rfl
    have g17 : (tm.getD 17 undef) = .bool (undB (gr [l]) (gr ls) ((namL [l]) ++ (namL ls))) := hG 12 17 (by decide) rfl
    have htm := arr_of tm [.agg #[.int .i64 l.fst, .slice pl l.snd.length cl], .slice (some ⟨b, 0, none⟩) ls.length ls.length, .pointer (some ⟨w.heap.size, 0, none⟩), undef, .bool false, tm.getD 5 undef, tm.getD 6 undef, tm.getD 7 undef, tm.getD 8 undef, tm.getD 9 undef, tm.getD 10 undef, tm.getD 11 undef, tm.getD 12 undef, tm.getD 13 undef, tm.getD 14 undef, tm.getD 15 undef, tm.getD 16 undef, tm.getD 17 undef] hs (by show [tm.getD 0 undef, tm.getD 1 undef, tm.getD 2 undef, tm.getD 3 undef, tm.getD 4 undef, tm.getD 5 undef, tm.getD 6 undef, tm.getD 7 undef, tm.getD 8 undef, tm.getD 9 undef, tm.getD 10 undef, tm.getD 11 undef, tm.getD 12 undef, tm.getD 13 undef, tm.getD 14 undef, tm.getD 15 undef, tm.getD 16 undef, tm.getD 17 undef] = _; rw [e0, e1, e2, e3, e4])
    clear hs hk hG e0 e1 e2 e3 e4
    generalize tm.getD 5 undef = t5 at htm g5
    generalize tm.getD 6 undef = t6 at htm g6
    generalize tm.getD 7 undef = t7 at htm g7
    generalize tm.getD 8 undef = t8 at htm g8
    generalize tm.getD 9 undef = t9 at htm g9
    generalize tm.getD 10 undef = t10 at htm g10
    generalize tm.getD 11 undef = t11 at htm g11
    generalize tm.getD 12 undef = t12 at htm g12
    generalize tm.getD 13 undef = t13 at htm g13
    generalize tm.getD 14 undef = t14 at htm g14
    generalize tm.getD 15 undef = t15 at htm g15
    generalize tm.getD 16 undef = t16 at htm g16
    generalize tm.getD 17 undef = t17 at htm g17
    subst htm
    subst g17
    simp only [List.drop_succ_cons, List.drop_zero]
    go_wp2
    go_ret
    exact ⟨_, rfl, hA.trans (hB.mono hA.size), rfl⟩
end Go.Proofs.Ytnjmgholoigpkaa
