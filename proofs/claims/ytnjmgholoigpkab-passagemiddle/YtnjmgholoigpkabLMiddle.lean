/- PassageMiddle: the walk of the statement. -/
import Derived.Test.YtnjmgholoigpkabGen
import Derived.Deep.Cut
namespace Go.Proofs.Ytnjmgholoigpkab
open Go.RowKit Go.Sort
theorem run_neE {ev : Operand → Value} {W : World} {dst : Option Nat} {ty : TypeId} {pos : String} {af : Array Edge} {gd : Option (Nat × Bool)} {a b : Int} {x y : Operand} {t : TypeId} (hx : ev x = .int .i64 a) (hy : ev y = .int .i64 b) :
    (execOp ev { dst := dst, op := .binOp .neq 30 x y t, type := ty, pos := pos, after := af, guard := gd }).run Try.prog W = .ok (.value (.bool (a != b))) W := by
  go_simp
theorem allow4_0 {a b c d : Bool} (h : allowI [a, b, c, d] = 0) : a = true ∧ b = true ∧ c = true ∧ d = true := by
  revert h; cases a <;> cases b <;> cases c <;> cases d <;> decide
theorem allow2_0 {a b : Bool} (h : allowI [a, b] = 0) : a = true ∧ b = true := by
  revert h; cases a <;> cases b <;> decide
theorem has_at {l : ML} {v c : Int} (h : hasS l.1 l.2 v = false) : aM l c ≠ v := by
  unfold hasS at h
  rw [Bool.or_eq_false_iff, List.any_eq_false] at h
  unfold aM
  rcases at_or (d := l.1) (c := c) l.2 with e | ⟨x, hx, _, e⟩
  · rw [e]; simpa using h.2
  · rw [e]; have := h.1 x hx; simpa using this
theorem plain_no5 {l : ML} (h : plainS l.1 l.2 = true) (c : Int) : aM l c ≠ 5 := by
  unfold plainS at h
  rw [Bool.and_eq_true] at h
  exact has_at (by simpa using h.2)
/-- P7.3: what lies between may be taken, too. -/
theorem rise_mid {t c mid want : ML} (ht : OkL t) (hc : OkL c) (hm : OkL mid) (hw : OkL want) (pm : plainS mid.1 mid.2 = true) (pw : plainS want.1 want.2 = true) (h : ((riseI t c want == 0) && rleM t mid && rleM mid want) = true) :
    ((riseI t c mid != 0) || (riseI mid c want != 0)) = false := by
  rw [Bool.and_eq_true, Bool.and_eq_true] at h
  obtain ⟨⟨h1, h2⟩, h3⟩ := h
  have h1' : riseI t c want = 0 := by simpa using h1
  unfold riseI at h1'
  rw [if_pos pw] at h1'
  obtain ⟨_, a2⟩ := allow2_0 h1'
  have b1 := (rle_iff ht hm).1 h2
  have b2 := (rle_iff hm hw).1 h3
  have b3 := (atM1_iff hw hc).1 a2
  have c1 : atMB t [mid] = true := (atM1_iff ht hm).2 b1
  have c2 : atMB mid [c] = true := (atM1_iff hm hc).2 fun k => Int.le_trans (b2 k) (b3 k)
  have c3 : atMB mid [want] = true := (atM1_iff hm hw).2 b2
  have e1 : riseI t c mid = 0 := by unfold riseI; rw [if_pos pm, c1, c2]; rfl
  have e2 : riseI mid c want = 0 := by unfold riseI; rw [if_pos pw, c3, a2]; rfl
  rw [e1, e2]; rfl
/-- P7.3: through a gate that owns nothing and asks nothing more one goes as one is. -/
theorem enter_self {t c : ML} (ht : OkL t) (hc : OkL c) (pt : plainS t.1 t.2 = true) (fc : freeS c.1 c.2 = true) :
    ((enterI t c ((1, []) : ML) ((4, []) : ML) t c == 0) == (rleM t c && rleM ((1, []) : ML) (upM t))) = true := by
  have h1 : OkL ((1, []) : ML) := ok_one 1 (by decide) (by decide)
  have h4 : OkL ((4, []) : ML) := ok_one 4 (by decide) (by decide)
  have a1 : atMB t [((4, []) : ML)] = true := (atM1_iff ht h4).2 fun k => by
    have e : aM ((4, []) : ML) k = 4 := rfl
    have := ht.lo k
    have := plain_no5 pt k
    omega
  have a2 : undB (fl t ((1, []) : ML)) (gr [t]) (namL [t, ((1, []) : ML), t]) = true := (undF_iff ht h1 ht).2 fun k => by
    have e : aM ((1, []) : ML) k = 1 := rfl
    have e1 : ot 0 5 1 = 1 := rfl
    rw [e, e1]
    have h0 := ht.lo k
    have h5 := plain_no5 pt k
    generalize aM t k = x at h0 h5 ⊢
    have hx : x = 0 ∨ x = 1 ∨ x = 2 ∨ x = 3 ∨ x = 4 := by omega
    rcases hx with rfl | rfl | rfl | rfl | rfl <;> decide
  have a4 : atMB c [c, ((4, []) : ML)] = true := (atM2_iff hc hc h4).2 fun k => by omega
  have b2 : rleM ((1, []) : ML) (upM t) = true := (rle_iff h1 ht.up).2 fun k => by
    have e : aM ((1, []) : ML) k = 1 := rfl
    rw [e, aM_up ht]
    have h0 := ht.lo k
    unfold ot
    split
    · omega
    · next h => simp at h; omega
  unfold enterI
  rw [if_pos pt, if_pos fc, a1, a2, a4, b2, eq1 ht hc]
  cases rleM t c <;> rfl
set_option maxRecDepth 100000 in
set_option maxHeartbeats 2000000 in
theorem PassageMiddle_any (t tc mid want : ML) (pt ptc pmid pwant : Option Addr) (ct ctc cmid cwant : Nat) (w : World) (ht : CatsAt w pt t.2) (lt : t.2.length ≤ ct) (mt : t.2.length ≤ maxLen) (htc : CatsAt w ptc tc.2) (ltc : tc.2.length ≤ ctc) (mtc : tc.2.length ≤ maxLen) (hmid : CatsAt w pmid mid.2) (lmid : mid.2.length ≤ cmid) (mmid : mid.2.length ≤ maxLen) (hwant : CatsAt w pwant want.2) (lwant : want.2.length ≤ cwant) (mwant : want.2.length ≤ maxLen) :
    Calls Try.prog 3 #[.agg #[.int .i64 t.1, .slice pt t.2.length ct, .int .i64 tc.1, .slice ptc tc.2.length ctc], .agg #[.int .i64 mid.1, .slice pmid mid.2.length cmid], .agg #[.int .i64 want.1, .slice pwant want.2.length cwant]] w fun e w' => e = .returned (.bool true) ∧ Below w.heap.size w w' := by
  obtain ⟨W0, hW0⟩ : ∃ W0, W0 = (((w.alloc (.cells #[.int .i64 t.1, .slice pt t.2.length ct, .int .i64 tc.1, .slice ptc tc.2.length ctc] 26)).alloc (.cells #[.int .i64 mid.1, .slice pmid mid.2.length cmid] 24)).alloc (.cells #[.int .i64 want.1, .slice pwant want.2.length cwant] 24)) := ⟨_, rfl⟩
  have hA : Below w.heap.size w W0 := by rw [hW0]; go_grown
  have hbt : LBg t W0 (w.heap.size) 0 := ⟨pt, ct, by rw [hW0]; simp <;> omega, by rw [hW0]; simp [go_sem], by rw [hW0]; simp [go_sem], ht.below hA, lt, mt⟩
  have hbtc : LBg tc W0 (w.heap.size) 2 := ⟨ptc, ctc, by rw [hW0]; simp <;> omega, by rw [hW0]; simp [go_sem], by rw [hW0]; simp [go_sem], htc.below hA, ltc, mtc⟩
  have hbmid : LBg mid W0 (w.heap.size + 1) 0 := ⟨pmid, cmid, by rw [hW0]; simp <;> omega, by rw [hW0]; simp [go_sem], by rw [hW0]; simp [go_sem], hmid.below hA, lmid, mmid⟩
  have hbwant : LBg want W0 (w.heap.size + 1 + 1) 0 := ⟨pwant, cwant, by rw [hW0]; simp <;> omega, by rw [hW0]; simp [go_sem], by rw [hW0]; simp [go_sem], hwant.below hA, lwant, mwant⟩
  go_enter Try.func3, Try.ntmps3
  go_upto_region 3 with (go_at_call 4; rw [← hW0]; refine (lives_c _).mono ?_; rintro e w1 ⟨rfl, hb1⟩)
  have hct := hbt.below hb1
  have hctc := hbtc.below hb1
  have hcmid := hbmid.below hb1
  have hcwant := hbwant.below hb1
  have hA1 : Below w.heap.size w w1 := hA.trans (hb1.mono hA.size)
  refine wp_region_monoF 27 (fun kq v W => match kq with | 13 => v = .pointer (some ⟨w.heap.size, 2, none⟩) | 14 => LVg tc v W | 15 => LsVg [tc] v W | 16 => v = .bool ([tc].all rightM) | 17 => v = .bool (!([tc].all rightM)) | 18 => v = .bool (!([tc].all rightM)) | 19 => ((!([tc].all rightM)) = false → v = .pointer (some ⟨w.heap.size, 0, none⟩)) | 20 => ((!([tc].all rightM)) = false → LVg t v W) | 21 => ((!([tc].all rightM)) = false → v = .bool (plainS t.1 t.2)) | 22 => ((!([tc].all rightM)) = false → v = .bool (!(plainS t.1 t.2))) | 23 => v = .bool ((!([tc].all rightM)) || (!(plainS t.1 t.2))) | 24 => v = .bool ((!([tc].all rightM)) || (!(plainS t.1 t.2))) | 25 => (((!([tc].all rightM)) || (!(plainS t.1 t.2))) = false → LVg mid v W) | 26 => (((!([tc].all rightM)) || (!(plainS t.1 t.2))) = false → v = .bool (plainS mid.1 mid.2)) | 27 => (((!([tc].all rightM)) || (!(plainS t.1 t.2))) = false → v = .bool (!(plainS mid.1 mid.2))) | 28 => v = .bool (((!([tc].all rightM)) || (!(plainS t.1 t.2))) || (!(plainS mid.1 mid.2))) | 29 => v = .bool (((!([tc].all rightM)) || (!(plainS t.1 t.2))) || (!(plainS mid.1 mid.2))) | 30 => ((((!([tc].all rightM)) || (!(plainS t.1 t.2))) || (!(plainS mid.1 mid.2))) = false → LVg want v W) | 31 => ((((!([tc].all rightM)) || (!(plainS t.1 t.2))) || (!(plainS mid.1 mid.2))) = false → v = .bool (plainS want.1 want.2)) | 32 => ((((!([tc].all rightM)) || (!(plainS t.1 t.2))) || (!(plainS mid.1 mid.2))) = false → v = .bool (!(plainS want.1 want.2))) | 33 => v = .bool ((((!([tc].all rightM)) || (!(plainS t.1 t.2))) || (!(plainS mid.1 mid.2))) || (!(plainS want.1 want.2))) | 34 => v = .bool ((((!([tc].all rightM)) || (!(plainS t.1 t.2))) || (!(plainS mid.1 mid.2))) || (!(plainS want.1 want.2))) | 35 => (((((!([tc].all rightM)) || (!(plainS t.1 t.2))) || (!(plainS mid.1 mid.2))) || (!(plainS want.1 want.2))) = false → v = .pointer (some ⟨w.heap.size, 2, none⟩)) | 36 => (((((!([tc].all rightM)) || (!(plainS t.1 t.2))) || (!(plainS mid.1 mid.2))) || (!(plainS want.1 want.2))) = false → LVg tc v W) | 37 => (((((!([tc].all rightM)) || (!(plainS t.1 t.2))) || (!(plainS mid.1 mid.2))) || (!(plainS want.1 want.2))) = false → v = .bool (freeS tc.1 tc.2)) | 38 => (((((!([tc].all rightM)) || (!(plainS t.1 t.2))) || (!(plainS mid.1 mid.2))) || (!(plainS want.1 want.2))) = false → v = .bool (!(freeS tc.1 tc.2))) | 39 => v = .bool (((((!([tc].all rightM)) || (!(plainS t.1 t.2))) || (!(plainS mid.1 mid.2))) || (!(plainS want.1 want.2))) || (!(freeS tc.1 tc.2))) | _ => True) (by kernel_rfl) (by kernel_rfl) (by simp) ?_ ?_ ?_
  · intro kq v W W' h hb
    revert h
    try dsimp only
    split
    · intro h; exact h
    · intro h; exact LVg.below h hb
    · intro h; exact LsVg.below h hb
    · intro h; exact h
    · intro h; exact h
    · intro h; exact h
    · intro h' e; have h := h' e; exact h
    · intro h' e; have h := h' e; exact LVg.below h hb
    · intro h' e; have h := h' e; exact h
    · intro h' e; have h := h' e; exact h
    · intro h; exact h
    · intro h; exact h
    · intro h' e; have h := h' e; exact LVg.below h hb
    · intro h' e; have h := h' e; exact h
    · intro h' e; have h := h' e; exact h
    · intro h; exact h
    · intro h; exact h
    · intro h' e; have h := h' e; exact LVg.below h hb
    · intro h' e; have h := h' e; exact h
    · intro h' e; have h := h' e; exact h
    · intro h; exact h
    · intro h; exact h
    · intro h' e; have h := h' e; exact h
    · intro h' e; have h := h' e; exact LVg.below h hb
    · intro h' e; have h := h' e; exact h
    · intro h' e; have h := h' e; exact h
    · intro h; exact h
    · intro h; trivial
  · intro a' W hB hs hk i o d ho hd hG
    match i, ho with
    | 0, ho =>
      obtain rfl : _ = o := Option.some.inj ho
      obtain rfl : 13 = d := Option.some.inj hd
      exact .inr ⟨rfl, .inl ⟨_, W, run_fa1 (hk 3 (by kernel_rfl)), Below.refl _ _, rfl⟩⟩
    | 1, ho =>
      obtain rfl : _ = o := Option.some.inj ho
      obtain rfl : 14 = d := Option.some.inj hd
      have g13 : (a'.eval (.tmp 13)) = .pointer (some ⟨w.heap.size, 2, none⟩) := hG ⟨0, .data⟩ (by simp) rfl 13 rfl
      obtain ⟨v, hr, hv⟩ := run_loadLg (ev := a'.eval) (W := W) g13 (hctc.below hB)
      exact .inr ⟨rfl, .inl ⟨v, W, hr, Below.refl _ _, hv⟩⟩
    | 2, ho =>
      obtain rfl : _ = o := Option.some.inj ho
      obtain rfl : 15 = d := Option.some.inj hd
      have g14 : LVg tc (a'.eval (.tmp 14)) W := hG ⟨1, .data⟩ (by simp) rfl 14 rfl
      obtain ⟨v, W', hr, hb, hv⟩ := run_slice1g (ev := a'.eval) (W := W) rfl g14
      exact .inr ⟨rfl, .inl ⟨v, W', hr, hb, hv⟩⟩
    | 3, ho =>
      obtain rfl : _ = o := Option.some.inj ho
      obtain rfl : 16 = d := Option.some.inj hd
      have g15 : LsVg [tc] (a'.eval (.tmp 15)) W := hG ⟨2, .data⟩ (by simp) rfl 15 rfl
      exact .inr ⟨rfl, .inr ⟨_, _, run_call rfl map_1 ent_gatehouselaw07_right, right_c g15 (by simp)⟩⟩
    | 4, ho =>
      obtain rfl : _ = o := Option.some.inj ho
      obtain rfl : 17 = d := Option.some.inj hd
      have g16 : (a'.eval (.tmp 16)) = .bool ([tc].all rightM) := hG ⟨3, .data⟩ (by simp) rfl 16 rfl
      exact .inr ⟨rfl, .inl ⟨_, W, run_not g16, Below.refl _ _, rfl⟩⟩
    | 5, ho =>
      obtain rfl : _ = o := Option.some.inj ho
      obtain rfl : 18 = d := Option.some.inj hd
      have g17 : (a'.eval (.tmp 17)) = .bool (!([tc].all rightM)) := hG ⟨4, .data⟩ (by simp) rfl 17 rfl
      exact .inr ⟨rfl, .inl ⟨_, W, run_move rfl, Below.refl _ _, g17⟩⟩
    | 6, ho =>
      obtain rfl : _ = o := Option.some.inj ho
      obtain rfl : 19 = d := Option.some.inj hd
      have gg : a'.eval (.tmp 18) = .bool (!([tc].all rightM)) := hG ⟨5, .guard⟩ (by simp) rfl 18 rfl
      by_cases hgc_ : (!([tc].all rightM)) = false
      · exact .inr ⟨want_yes (n := 102) (d := 18) rfl hs (by decide) rfl (gg.trans (by rw [hgc_])), .inl ⟨_, W, run_fa0 (hk 3 (by kernel_rfl)), Below.refl _ _, fun _ => rfl⟩⟩
      · exact .inl ⟨want_no (n := 102) (d := 18) rfl hs (by decide) rfl gg hgc_, fun e => absurd e hgc_⟩
    | 7, ho =>
      obtain rfl : _ = o := Option.some.inj ho
      obtain rfl : 20 = d := Option.some.inj hd
      have gg : a'.eval (.tmp 18) = .bool (!([tc].all rightM)) := hG ⟨5, .guard⟩ (by simp) rfl 18 rfl
      by_cases hgc_ : (!([tc].all rightM)) = false
      · have g19 : (a'.eval (.tmp 19)) = .pointer (some ⟨w.heap.size, 0, none⟩) := hG ⟨6, .data⟩ (by simp) rfl 19 rfl hgc_
        obtain ⟨v, hr, hv⟩ := run_loadLg (ev := a'.eval) (W := W) g19 (hct.below hB)
        exact .inr ⟨want_yes (n := 102) (d := 18) rfl hs (by decide) rfl (gg.trans (by rw [hgc_])), .inl ⟨v, W, hr, Below.refl _ _, fun _ => hv⟩⟩
      · exact .inl ⟨want_no (n := 102) (d := 18) rfl hs (by decide) rfl gg hgc_, fun e => absurd e hgc_⟩
    | 8, ho =>
      obtain rfl : _ = o := Option.some.inj ho
      obtain rfl : 21 = d := Option.some.inj hd
      have gg : a'.eval (.tmp 18) = .bool (!([tc].all rightM)) := hG ⟨5, .guard⟩ (by simp) rfl 18 rfl
      by_cases hgc_ : (!([tc].all rightM)) = false
      · have g20 : LVg t (a'.eval (.tmp 20)) W := hG ⟨7, .data⟩ (by simp) rfl 20 rfl hgc_
        exact .inr ⟨want_yes (n := 102) (d := 18) rfl hs (by decide) rfl (gg.trans (by rw [hgc_])), .inr ⟨_, _, run_call rfl map_1 ent_gatehouseref01_Plain, (gPlain_c g20).mono (fun e W' ⟨v, he, hb, hv⟩ => ⟨v, he, hb, fun _ => hv⟩)⟩⟩
      · exact .inl ⟨want_no (n := 102) (d := 18) rfl hs (by decide) rfl gg hgc_, fun e => absurd e hgc_⟩
    | 9, ho =>
      obtain rfl : _ = o := Option.some.inj ho
      obtain rfl : 22 = d := Option.some.inj hd
      have gg : a'.eval (.tmp 18) = .bool (!([tc].all rightM)) := hG ⟨5, .guard⟩ (by simp) rfl 18 rfl
      by_cases hgc_ : (!([tc].all rightM)) = false
      · have g21 : (a'.eval (.tmp 21)) = .bool (plainS t.1 t.2) := hG ⟨8, .data⟩ (by simp) rfl 21 rfl hgc_
        exact .inr ⟨want_yes (n := 102) (d := 18) rfl hs (by decide) rfl (gg.trans (by rw [hgc_])), .inl ⟨_, W, run_not g21, Below.refl _ _, fun _ => rfl⟩⟩
      · exact .inl ⟨want_no (n := 102) (d := 18) rfl hs (by decide) rfl gg hgc_, fun e => absurd e hgc_⟩
    | 10, ho =>
      obtain rfl : _ = o := Option.some.inj ho
      obtain rfl : 23 = d := Option.some.inj hd
      have g18 : (a'.eval (.tmp 18)) = .bool (!([tc].all rightM)) := hG ⟨5, .data⟩ (by simp) rfl 18 rfl
      by_cases hq : (!([tc].all rightM)) = true
      · exact .inr ⟨rfl, .inl ⟨_, W, run_pick_yes (g18.trans (by rw [hq])) rfl, Below.refl _ _, by rw [hq]; rfl⟩⟩
      · have hq' : (!([tc].all rightM)) = false := by simpa using hq
        exact .inr ⟨rfl, .inl ⟨_, W, run_pick_no (g18.trans (by rw [hq'])) (hG ⟨9, .data⟩ (by simp) rfl 22 rfl hq'), Below.refl _ _, by rw [hq']; rfl⟩⟩
    | 11, ho =>
      obtain rfl : _ = o := Option.some.inj ho
      obtain rfl : 24 = d := Option.some.inj hd
      have g23 : (a'.eval (.tmp 23)) = .bool ((!([tc].all rightM)) || (!(plainS t.1 t.2))) := hG ⟨10, .data⟩ (by simp) rfl 23 rfl
      exact .inr ⟨rfl, .inl ⟨_, W, run_move rfl, Below.refl _ _, g23⟩⟩
    | 12, ho =>
      obtain rfl : _ = o := Option.some.inj ho
      obtain rfl : 25 = d := Option.some.inj hd
      have gg : a'.eval (.tmp 24) = .bool ((!([tc].all rightM)) || (!(plainS t.1 t.2))) := hG ⟨11, .guard⟩ (by simp) rfl 24 rfl
      by_cases hgc_ : ((!([tc].all rightM)) || (!(plainS t.1 t.2))) = false
      · obtain ⟨v, hr, hv⟩ := run_loadLg (ev := a'.eval) (W := W) (hk 4 (by kernel_rfl)) (hcmid.below hB)
        exact .inr ⟨want_yes (n := 102) (d := 24) rfl hs (by decide) rfl (gg.trans (by rw [hgc_])), .inl ⟨v, W, hr, Below.refl _ _, fun _ => hv⟩⟩
      · exact .inl ⟨want_no (n := 102) (d := 24) rfl hs (by decide) rfl gg hgc_, fun e => absurd e hgc_⟩
    | 13, ho =>
      obtain rfl : _ = o := Option.some.inj ho
      obtain rfl : 26 = d := Option.some.inj hd
      have gg : a'.eval (.tmp 24) = .bool ((!([tc].all rightM)) || (!(plainS t.1 t.2))) := hG ⟨11, .guard⟩ (by simp) rfl 24 rfl
      by_cases hgc_ : ((!([tc].all rightM)) || (!(plainS t.1 t.2))) = false
      · have g25 : LVg mid (a'.eval (.tmp 25)) W := hG ⟨12, .data⟩ (by simp) rfl 25 rfl hgc_
        exact .inr ⟨want_yes (n := 102) (d := 24) rfl hs (by decide) rfl (gg.trans (by rw [hgc_])), .inr ⟨_, _, run_call rfl map_1 ent_gatehouseref01_Plain, (gPlain_c g25).mono (fun e W' ⟨v, he, hb, hv⟩ => ⟨v, he, hb, fun _ => hv⟩)⟩⟩
      · exact .inl ⟨want_no (n := 102) (d := 24) rfl hs (by decide) rfl gg hgc_, fun e => absurd e hgc_⟩
    | 14, ho =>
      obtain rfl : _ = o := Option.some.inj ho
      obtain rfl : 27 = d := Option.some.inj hd
      have gg : a'.eval (.tmp 24) = .bool ((!([tc].all rightM)) || (!(plainS t.1 t.2))) := hG ⟨11, .guard⟩ (by simp) rfl 24 rfl
      by_cases hgc_ : ((!([tc].all rightM)) || (!(plainS t.1 t.2))) = false
      · have g26 : (a'.eval (.tmp 26)) = .bool (plainS mid.1 mid.2) := hG ⟨13, .data⟩ (by simp) rfl 26 rfl hgc_
        exact .inr ⟨want_yes (n := 102) (d := 24) rfl hs (by decide) rfl (gg.trans (by rw [hgc_])), .inl ⟨_, W, run_not g26, Below.refl _ _, fun _ => rfl⟩⟩
      · exact .inl ⟨want_no (n := 102) (d := 24) rfl hs (by decide) rfl gg hgc_, fun e => absurd e hgc_⟩
    | 15, ho =>
      obtain rfl : _ = o := Option.some.inj ho
      obtain rfl : 28 = d := Option.some.inj hd
      have g24 : (a'.eval (.tmp 24)) = .bool ((!([tc].all rightM)) || (!(plainS t.1 t.2))) := hG ⟨11, .data⟩ (by simp) rfl 24 rfl
      by_cases hq : ((!([tc].all rightM)) || (!(plainS t.1 t.2))) = true
      · exact .inr ⟨rfl, .inl ⟨_, W, run_pick_yes (g24.trans (by rw [hq])) rfl, Below.refl _ _, by rw [hq]; rfl⟩⟩
      · have hq' : ((!([tc].all rightM)) || (!(plainS t.1 t.2))) = false := by simpa using hq
        exact .inr ⟨rfl, .inl ⟨_, W, run_pick_no (g24.trans (by rw [hq'])) (hG ⟨14, .data⟩ (by simp) rfl 27 rfl hq'), Below.refl _ _, by rw [hq']; rfl⟩⟩
    | 16, ho =>
      obtain rfl : _ = o := Option.some.inj ho
      obtain rfl : 29 = d := Option.some.inj hd
      have g28 : (a'.eval (.tmp 28)) = .bool (((!([tc].all rightM)) || (!(plainS t.1 t.2))) || (!(plainS mid.1 mid.2))) := hG ⟨15, .data⟩ (by simp) rfl 28 rfl
      exact .inr ⟨rfl, .inl ⟨_, W, run_move rfl, Below.refl _ _, g28⟩⟩
    | 17, ho =>
      obtain rfl : _ = o := Option.some.inj ho
      obtain rfl : 30 = d := Option.some.inj hd
      have gg : a'.eval (.tmp 29) = .bool (((!([tc].all rightM)) || (!(plainS t.1 t.2))) || (!(plainS mid.1 mid.2))) := hG ⟨16, .guard⟩ (by simp) rfl 29 rfl
      by_cases hgc_ : (((!([tc].all rightM)) || (!(plainS t.1 t.2))) || (!(plainS mid.1 mid.2))) = false
      · obtain ⟨v, hr, hv⟩ := run_loadLg (ev := a'.eval) (W := W) (hk 5 (by kernel_rfl)) (hcwant.below hB)
        exact .inr ⟨want_yes (n := 102) (d := 29) rfl hs (by decide) rfl (gg.trans (by rw [hgc_])), .inl ⟨v, W, hr, Below.refl _ _, fun _ => hv⟩⟩
      · exact .inl ⟨want_no (n := 102) (d := 29) rfl hs (by decide) rfl gg hgc_, fun e => absurd e hgc_⟩
    | 18, ho =>
      obtain rfl : _ = o := Option.some.inj ho
      obtain rfl : 31 = d := Option.some.inj hd
      have gg : a'.eval (.tmp 29) = .bool (((!([tc].all rightM)) || (!(plainS t.1 t.2))) || (!(plainS mid.1 mid.2))) := hG ⟨16, .guard⟩ (by simp) rfl 29 rfl
      by_cases hgc_ : (((!([tc].all rightM)) || (!(plainS t.1 t.2))) || (!(plainS mid.1 mid.2))) = false
      · have g30 : LVg want (a'.eval (.tmp 30)) W := hG ⟨17, .data⟩ (by simp) rfl 30 rfl hgc_
        exact .inr ⟨want_yes (n := 102) (d := 29) rfl hs (by decide) rfl (gg.trans (by rw [hgc_])), .inr ⟨_, _, run_call rfl map_1 ent_gatehouseref01_Plain, (gPlain_c g30).mono (fun e W' ⟨v, he, hb, hv⟩ => ⟨v, he, hb, fun _ => hv⟩)⟩⟩
      · exact .inl ⟨want_no (n := 102) (d := 29) rfl hs (by decide) rfl gg hgc_, fun e => absurd e hgc_⟩
    | 19, ho =>
      obtain rfl : _ = o := Option.some.inj ho
      obtain rfl : 32 = d := Option.some.inj hd
      have gg : a'.eval (.tmp 29) = .bool (((!([tc].all rightM)) || (!(plainS t.1 t.2))) || (!(plainS mid.1 mid.2))) := hG ⟨16, .guard⟩ (by simp) rfl 29 rfl
      by_cases hgc_ : (((!([tc].all rightM)) || (!(plainS t.1 t.2))) || (!(plainS mid.1 mid.2))) = false
      · have g31 : (a'.eval (.tmp 31)) = .bool (plainS want.1 want.2) := hG ⟨18, .data⟩ (by simp) rfl 31 rfl hgc_
        exact .inr ⟨want_yes (n := 102) (d := 29) rfl hs (by decide) rfl (gg.trans (by rw [hgc_])), .inl ⟨_, W, run_not g31, Below.refl _ _, fun _ => rfl⟩⟩
      · exact .inl ⟨want_no (n := 102) (d := 29) rfl hs (by decide) rfl gg hgc_, fun e => absurd e hgc_⟩
    | 20, ho =>
      obtain rfl : _ = o := Option.some.inj ho
      obtain rfl : 33 = d := Option.some.inj hd
      have g29 : (a'.eval (.tmp 29)) = .bool (((!([tc].all rightM)) || (!(plainS t.1 t.2))) || (!(plainS mid.1 mid.2))) := hG ⟨16, .data⟩ (by simp) rfl 29 rfl
      by_cases hq : (((!([tc].all rightM)) || (!(plainS t.1 t.2))) || (!(plainS mid.1 mid.2))) = true
      · exact .inr ⟨rfl, .inl ⟨_, W, run_pick_yes (g29.trans (by rw [hq])) rfl, Below.refl _ _, by rw [hq]; rfl⟩⟩
      · have hq' : (((!([tc].all rightM)) || (!(plainS t.1 t.2))) || (!(plainS mid.1 mid.2))) = false := by simpa using hq
        exact .inr ⟨rfl, .inl ⟨_, W, run_pick_no (g29.trans (by rw [hq'])) (hG ⟨19, .data⟩ (by simp) rfl 32 rfl hq'), Below.refl _ _, by rw [hq']; rfl⟩⟩
    | 21, ho =>
      obtain rfl : _ = o := Option.some.inj ho
      obtain rfl : 34 = d := Option.some.inj hd
      have g33 : (a'.eval (.tmp 33)) = .bool ((((!([tc].all rightM)) || (!(plainS t.1 t.2))) || (!(plainS mid.1 mid.2))) || (!(plainS want.1 want.2))) := hG ⟨20, .data⟩ (by simp) rfl 33 rfl
      exact .inr ⟨rfl, .inl ⟨_, W, run_move rfl, Below.refl _ _, g33⟩⟩
    | 22, ho =>
      obtain rfl : _ = o := Option.some.inj ho
      obtain rfl : 35 = d := Option.some.inj hd
      have gg : a'.eval (.tmp 34) = .bool ((((!([tc].all rightM)) || (!(plainS t.1 t.2))) || (!(plainS mid.1 mid.2))) || (!(plainS want.1 want.2))) := hG ⟨21, .guard⟩ (by simp) rfl 34 rfl
      by_cases hgc_ : ((((!([tc].all rightM)) || (!(plainS t.1 t.2))) || (!(plainS mid.1 mid.2))) || (!(plainS want.1 want.2))) = false
      · exact .inr ⟨want_yes (n := 102) (d := 34) rfl hs (by decide) rfl (gg.trans (by rw [hgc_])), .inl ⟨_, W, run_fa1 (hk 3 (by kernel_rfl)), Below.refl _ _, fun _ => rfl⟩⟩
      · exact .inl ⟨want_no (n := 102) (d := 34) rfl hs (by decide) rfl gg hgc_, fun e => absurd e hgc_⟩
    | 23, ho =>
      obtain rfl : _ = o := Option.some.inj ho
      obtain rfl : 36 = d := Option.some.inj hd
      have gg : a'.eval (.tmp 34) = .bool ((((!([tc].all rightM)) || (!(plainS t.1 t.2))) || (!(plainS mid.1 mid.2))) || (!(plainS want.1 want.2))) := hG ⟨21, .guard⟩ (by simp) rfl 34 rfl
      by_cases hgc_ : ((((!([tc].all rightM)) || (!(plainS t.1 t.2))) || (!(plainS mid.1 mid.2))) || (!(plainS want.1 want.2))) = false
      · have g35 : (a'.eval (.tmp 35)) = .pointer (some ⟨w.heap.size, 2, none⟩) := hG ⟨22, .data⟩ (by simp) rfl 35 rfl hgc_
        obtain ⟨v, hr, hv⟩ := run_loadLg (ev := a'.eval) (W := W) g35 (hctc.below hB)
        exact .inr ⟨want_yes (n := 102) (d := 34) rfl hs (by decide) rfl (gg.trans (by rw [hgc_])), .inl ⟨v, W, hr, Below.refl _ _, fun _ => hv⟩⟩
      · exact .inl ⟨want_no (n := 102) (d := 34) rfl hs (by decide) rfl gg hgc_, fun e => absurd e hgc_⟩
    | 24, ho =>
      obtain rfl : _ = o := Option.some.inj ho
      obtain rfl : 37 = d := Option.some.inj hd
      have gg : a'.eval (.tmp 34) = .bool ((((!([tc].all rightM)) || (!(plainS t.1 t.2))) || (!(plainS mid.1 mid.2))) || (!(plainS want.1 want.2))) := hG ⟨21, .guard⟩ (by simp) rfl 34 rfl
      by_cases hgc_ : ((((!([tc].all rightM)) || (!(plainS t.1 t.2))) || (!(plainS mid.1 mid.2))) || (!(plainS want.1 want.2))) = false
      · have g36 : LVg tc (a'.eval (.tmp 36)) W := hG ⟨23, .data⟩ (by simp) rfl 36 rfl hgc_
        exact .inr ⟨want_yes (n := 102) (d := 34) rfl hs (by decide) rfl (gg.trans (by rw [hgc_])), .inr ⟨_, _, run_call rfl map_1 ent_gatehouseref01_Free, (gFree_c g36).mono (fun e W' ⟨v, he, hb, hv⟩ => ⟨v, he, hb, fun _ => hv⟩)⟩⟩
      · exact .inl ⟨want_no (n := 102) (d := 34) rfl hs (by decide) rfl gg hgc_, fun e => absurd e hgc_⟩
    | 25, ho =>
      obtain rfl : _ = o := Option.some.inj ho
      obtain rfl : 38 = d := Option.some.inj hd
      have gg : a'.eval (.tmp 34) = .bool ((((!([tc].all rightM)) || (!(plainS t.1 t.2))) || (!(plainS mid.1 mid.2))) || (!(plainS want.1 want.2))) := hG ⟨21, .guard⟩ (by simp) rfl 34 rfl
      by_cases hgc_ : ((((!([tc].all rightM)) || (!(plainS t.1 t.2))) || (!(plainS mid.1 mid.2))) || (!(plainS want.1 want.2))) = false
      · have g37 : (a'.eval (.tmp 37)) = .bool (freeS tc.1 tc.2) := hG ⟨24, .data⟩ (by simp) rfl 37 rfl hgc_
        exact .inr ⟨want_yes (n := 102) (d := 34) rfl hs (by decide) rfl (gg.trans (by rw [hgc_])), .inl ⟨_, W, run_not g37, Below.refl _ _, fun _ => rfl⟩⟩
      · exact .inl ⟨want_no (n := 102) (d := 34) rfl hs (by decide) rfl gg hgc_, fun e => absurd e hgc_⟩
    | 26, ho =>
      obtain rfl : _ = o := Option.some.inj ho
      obtain rfl : 39 = d := Option.some.inj hd
      have g34 : (a'.eval (.tmp 34)) = .bool ((((!([tc].all rightM)) || (!(plainS t.1 t.2))) || (!(plainS mid.1 mid.2))) || (!(plainS want.1 want.2))) := hG ⟨21, .data⟩ (by simp) rfl 34 rfl
      by_cases hq : ((((!([tc].all rightM)) || (!(plainS t.1 t.2))) || (!(plainS mid.1 mid.2))) || (!(plainS want.1 want.2))) = true
      · exact .inr ⟨rfl, .inl ⟨_, W, run_pick_yes (g34.trans (by rw [hq])) rfl, Below.refl _ _, by rw [hq]; rfl⟩⟩
      · have hq' : ((((!([tc].all rightM)) || (!(plainS t.1 t.2))) || (!(plainS mid.1 mid.2))) || (!(plainS want.1 want.2))) = false := by simpa using hq
        exact .inr ⟨rfl, .inl ⟨_, W, run_pick_no (g34.trans (by rw [hq'])) (hG ⟨25, .data⟩ (by simp) rfl 38 rfl hq'), Below.refl _ _, by rw [hq']; rfl⟩⟩
    | j + 27, ho => simp at ho
  · intro a' W hB hs hdf hk hG
    obtain ⟨tm, df⟩ := a'
    obtain rfl : df = [] := hdf
    have e0 : tm.getD 0 undef = .agg #[.int .i64 t.fst, .slice pt t.snd.length ct, .int .i64 tc.fst, .slice ptc tc.snd.length ctc] := hk 0 (by kernel_rfl)
    have e1 : tm.getD 1 undef = .agg #[.int .i64 mid.fst, .slice pmid mid.snd.length cmid] := hk 1 (by kernel_rfl)
    have e2 : tm.getD 2 undef = .agg #[.int .i64 want.fst, .slice pwant want.snd.length cwant] := hk 2 (by kernel_rfl)
    have e3 : tm.getD 3 undef = .pointer (some ⟨w.heap.size, 0, none⟩) := hk 3 (by kernel_rfl)
    have e4 : tm.getD 4 undef = .pointer (some ⟨w.heap.size + 1, 0, none⟩) := hk 4 (by kernel_rfl)
    have e5 : tm.getD 5 undef = .pointer (some ⟨w.heap.size + 1 + 1, 0, none⟩) := hk 5 (by kernel_rfl)
    have e6 : tm.getD 6 undef = .bool false := hk 6 (by kernel_rfl)
    have e7 : tm.getD 7 undef = undef := hk 7 (by kernel_rfl)
    have e8 : tm.getD 8 undef = undef := hk 8 (by kernel_rfl)
    have e9 : tm.getD 9 undef = undef := hk 9 (by kernel_rfl)
    have e10 : tm.getD 10 undef = undef := hk 10 (by kernel_rfl)
    have e11 : tm.getD 11 undef = .bool true := hk 11 (by kernel_rfl)
    have e12 : tm.getD 12 undef = .bool false := hk 12 (by kernel_rfl)
    have e40 : tm.getD 40 undef = undef := hk 40 (by kernel_rfl)
    have e41 : tm.getD 41 undef = undef := hk 41 (by kernel_rfl)
    have e42 : tm.getD 42 undef = undef := hk 42 (by kernel_rfl)
    have e43 : tm.getD 43 undef = undef := hk 43 (by kernel_rfl)
    have e44 : tm.getD 44 undef = undef := hk 44 (by kernel_rfl)
    have e45 : tm.getD 45 undef = undef := hk 45 (by kernel_rfl)
    have e46 : tm.getD 46 undef = undef := hk 46 (by kernel_rfl)
    have e47 : tm.getD 47 undef = undef := hk 47 (by kernel_rfl)
    have e48 : tm.getD 48 undef = undef := hk 48 (by kernel_rfl)
    have e49 : tm.getD 49 undef = undef := hk 49 (by kernel_rfl)
    have e50 : tm.getD 50 undef = undef := hk 50 (by kernel_rfl)
    have e51 : tm.getD 51 undef = undef := hk 51 (by kernel_rfl)
    have e52 : tm.getD 52 undef = undef := hk 52 (by kernel_rfl)
    have e53 : tm.getD 53 undef = undef := hk 53 (by kernel_rfl)
    have e54 : tm.getD 54 undef = undef := hk 54 (by kernel_rfl)
    have e55 : tm.getD 55 undef = undef := hk 55 (by kernel_rfl)
    have e56 : tm.getD 56 undef = undef := hk 56 (by kernel_rfl)
    have e57 : tm.getD 57 undef = undef := hk 57 (by kernel_rfl)
    have e58 : tm.getD 58 undef = undef := hk 58 (by kernel_rfl)
    have e59 : tm.getD 59 undef = undef := hk 59 (by kernel_rfl)
    have e60 : tm.getD 60 undef = undef := hk 60 (by kernel_rfl)
    have e61 : tm.getD 61 undef = undef := hk 61 (by kernel_rfl)
    have e62 : tm.getD 62 undef = undef := hk 62 (by kernel_rfl)
    have e63 : tm.getD 63 undef = undef := hk 63 (by kernel_rfl)
    have e64 : tm.getD 64 undef = undef := hk 64 (by kernel_rfl)
    have e65 : tm.getD 65 undef = undef := hk 65 (by kernel_rfl)
    have e66 : tm.getD 66 undef = undef := hk 66 (by kernel_rfl)
    have e67 : tm.getD 67 undef = undef := hk 67 (by kernel_rfl)
    have e68 : tm.getD 68 undef = undef := hk 68 (by kernel_rfl)
    have e69 : tm.getD 69 undef = undef := hk 69 (by kernel_rfl)
    have e70 : tm.getD 70 undef = undef := hk 70 (by kernel_rfl)
    have e71 : tm.getD 71 undef = undef := hk 71 (by kernel_rfl)
    have e72 : tm.getD 72 undef = undef := hk 72 (by kernel_rfl)
    have e73 : tm.getD 73 undef = undef := hk 73 (by kernel_rfl)
    have e74 : tm.getD 74 undef = undef := hk 74 (by kernel_rfl)
    have e75 : tm.getD 75 undef = undef := hk 75 (by kernel_rfl)
    have e76 : tm.getD 76 undef = undef := hk 76 (by kernel_rfl)
    have e77 : tm.getD 77 undef = undef := hk 77 (by kernel_rfl)
    have e78 : tm.getD 78 undef = undef := hk 78 (by kernel_rfl)
    have e79 : tm.getD 79 undef = undef := hk 79 (by kernel_rfl)
    have e80 : tm.getD 80 undef = undef := hk 80 (by kernel_rfl)
    have e81 : tm.getD 81 undef = undef := hk 81 (by kernel_rfl)
    have e82 : tm.getD 82 undef = undef := hk 82 (by kernel_rfl)
    have e83 : tm.getD 83 undef = undef := hk 83 (by kernel_rfl)
    have e84 : tm.getD 84 undef = undef := hk 84 (by kernel_rfl)
    have e85 : tm.getD 85 undef = undef := hk 85 (by kernel_rfl)
    have e86 : tm.getD 86 undef = undef := hk 86 (by kernel_rfl)
    have e87 : tm.getD 87 undef = undef := hk 87 (by kernel_rfl)
    have e88 : tm.getD 88 undef = undef := hk 88 (by kernel_rfl)
    have e89 : tm.getD 89 undef = undef := hk 89 (by kernel_rfl)
    have e90 : tm.getD 90 undef = undef := hk 90 (by kernel_rfl)
    have e91 : tm.getD 91 undef = undef := hk 91 (by kernel_rfl)
    have e92 : tm.getD 92 undef = undef := hk 92 (by kernel_rfl)
    have e93 : tm.getD 93 undef = undef := hk 93 (by kernel_rfl)
    have e94 : tm.getD 94 undef = undef := hk 94 (by kernel_rfl)
    have e95 : tm.getD 95 undef = undef := hk 95 (by kernel_rfl)
    have e96 : tm.getD 96 undef = undef := hk 96 (by kernel_rfl)
    have e97 : tm.getD 97 undef = undef := hk 97 (by kernel_rfl)
    have e98 : tm.getD 98 undef = undef := hk 98 (by kernel_rfl)
    have e99 : tm.getD 99 undef = undef := hk 99 (by kernel_rfl)
    have e100 : tm.getD 100 undef = undef := hk 100 (by kernel_rfl)
    have e101 : tm.getD 101 undef = undef := hk 101 (by kernel_rfl)
    have g13 : (tm.getD 13 undef) = .pointer (some ⟨w.heap.size, 2, none⟩) := hG 0 13 (by decide) rfl
    have g14 : LVg tc (tm.getD 14 undef) W := hG 1 14 (by decide) rfl
    have g15 : LsVg [tc] (tm.getD 15 undef) W := hG 2 15 (by decide) rfl
    have g16 : (tm.getD 16 undef) = .bool ([tc].all rightM) := hG 3 16 (by decide) rfl
    have g17 : (tm.getD 17 undef) = .bool (!([tc].all rightM)) := hG 4 17 (by decide) rfl
    have g18 : (tm.getD 18 undef) = .bool (!([tc].all rightM)) := hG 5 18 (by decide) rfl
    have g19 : (!([tc].all rightM)) = false → (tm.getD 19 undef) = .pointer (some ⟨w.heap.size, 0, none⟩) := hG 6 19 (by decide) rfl
    have g20 : (!([tc].all rightM)) = false → LVg t (tm.getD 20 undef) W := hG 7 20 (by decide) rfl
    have g21 : (!([tc].all rightM)) = false → (tm.getD 21 undef) = .bool (plainS t.1 t.2) := hG 8 21 (by decide) rfl
    have g22 : (!([tc].all rightM)) = false → (tm.getD 22 undef) = .bool (!(plainS t.1 t.2)) := hG 9 22 (by decide) rfl
    have g23 : (tm.getD 23 undef) = .bool ((!([tc].all rightM)) || (!(plainS t.1 t.2))) := hG 10 23 (by decide) rfl
    have g24 : (tm.getD 24 undef) = .bool ((!([tc].all rightM)) || (!(plainS t.1 t.2))) := hG 11 24 (by decide) rfl
    have g25 : ((!([tc].all rightM)) || (!(plainS t.1 t.2))) = false → LVg mid (tm.getD 25 undef) W := hG 12 25 (by decide) rfl
    have g26 : ((!([tc].all rightM)) || (!(plainS t.1 t.2))) = false → (tm.getD 26 undef) = .bool (plainS mid.1 mid.2) := hG 13 26 (by decide) rfl
    have g27 : ((!([tc].all rightM)) || (!(plainS t.1 t.2))) = false → (tm.getD 27 undef) = .bool (!(plainS mid.1 mid.2)) := hG 14 27 (by decide) rfl
    have g28 : (tm.getD 28 undef) = .bool (((!([tc].all rightM)) || (!(plainS t.1 t.2))) || (!(plainS mid.1 mid.2))) := hG 15 28 (by decide) rfl
    have g29 : (tm.getD 29 undef) = .bool (((!([tc].all rightM)) || (!(plainS t.1 t.2))) || (!(plainS mid.1 mid.2))) := hG 16 29 (by decide) rfl
    have g30 : (((!([tc].all rightM)) || (!(plainS t.1 t.2))) || (!(plainS mid.1 mid.2))) = false → LVg want (tm.getD 30 undef) W := hG 17 30 (by decide) rfl
    have g31 : (((!([tc].all rightM)) || (!(plainS t.1 t.2))) || (!(plainS mid.1 mid.2))) = false → (tm.getD 31 undef) = .bool (plainS want.1 want.2) := hG 18 31 (by decide) rfl
    have g32 : (((!([tc].all rightM)) || (!(plainS t.1 t.2))) || (!(plainS mid.1 mid.2))) = false → (tm.getD 32 undef) = .bool (!(plainS want.1 want.2)) := hG 19 32 (by decide) rfl
    have g33 : (tm.getD 33 undef) = .bool ((((!([tc].all rightM)) || (!(plainS t.1 t.2))) || (!(plainS mid.1 mid.2))) || (!(plainS want.1 want.2))) := hG 20 33 (by decide) rfl
    have g34 : (tm.getD 34 undef) = .bool ((((!([tc].all rightM)) || (!(plainS t.1 t.2))) || (!(plainS mid.1 mid.2))) || (!(plainS want.1 want.2))) := hG 21 34 (by decide) rfl
    have g35 : ((((!([tc].all rightM)) || (!(plainS t.1 t.2))) || (!(plainS mid.1 mid.2))) || (!(plainS want.1 want.2))) = false → (tm.getD 35 undef) = .pointer (some ⟨w.heap.size, 2, none⟩) := hG 22 35 (by decide) rfl
    have g36 : ((((!([tc].all rightM)) || (!(plainS t.1 t.2))) || (!(plainS mid.1 mid.2))) || (!(plainS want.1 want.2))) = false → LVg tc (tm.getD 36 undef) W := hG 23 36 (by decide) rfl
    have g37 : ((((!([tc].all rightM)) || (!(plainS t.1 t.2))) || (!(plainS mid.1 mid.2))) || (!(plainS want.1 want.2))) = false → (tm.getD 37 undef) = .bool (freeS tc.1 tc.2) := hG 24 37 (by decide) rfl
    have g38 : ((((!([tc].all rightM)) || (!(plainS t.1 t.2))) || (!(plainS mid.1 mid.2))) || (!(plainS want.1 want.2))) = false → (tm.getD 38 undef) = .bool (!(freeS tc.1 tc.2)) := hG 25 38 (by decide) rfl
    have g39 : (tm.getD 39 undef) = .bool (((((!([tc].all rightM)) || (!(plainS t.1 t.2))) || (!(plainS mid.1 mid.2))) || (!(plainS want.1 want.2))) || (!(freeS tc.1 tc.2))) := hG 26 39 (by decide) rfl
    have htm := arr_of tm ((.agg #[.int .i64 t.fst, .slice pt t.snd.length ct, .int .i64 tc.fst, .slice ptc tc.snd.length ctc] : Value) :: (.agg #[.int .i64 mid.fst, .slice pmid mid.snd.length cmid] : Value) :: (.agg #[.int .i64 want.fst, .slice pwant want.snd.length cwant] : Value) :: (.pointer (some ⟨w.heap.size, 0, none⟩) : Value) :: (.pointer (some ⟨w.heap.size + 1, 0, none⟩) : Value) :: (.pointer (some ⟨w.heap.size + 1 + 1, 0, none⟩) : Value) :: (.bool false : Value) :: (undef : Value) :: (undef : Value) :: (undef : Value) :: (undef : Value) :: (.bool true : Value) :: (.bool false : Value) :: (tm.getD 13 undef : Value) :: (tm.getD 14 undef : Value) :: (tm.getD 15 undef : Value) :: (tm.getD 16 undef : Value) :: (tm.getD 17 undef : Value) :: (tm.getD 18 undef : Value) :: (tm.getD 19 undef : Value) :: (tm.getD 20 undef : Value) :: (tm.getD 21 undef : Value) :: (tm.getD 22 undef : Value) :: (tm.getD 23 undef : Value) :: (tm.getD 24 undef : Value) :: (tm.getD 25 undef : Value) :: (tm.getD 26 undef : Value) :: (tm.getD 27 undef : Value) :: (tm.getD 28 undef : Value) :: (tm.getD 29 undef : Value) :: (tm.getD 30 undef : Value) :: (tm.getD 31 undef : Value) :: (tm.getD 32 undef : Value) :: (tm.getD 33 undef : Value) :: (tm.getD 34 undef : Value) :: (tm.getD 35 undef : Value) :: (tm.getD 36 undef : Value) :: (tm.getD 37 undef : Value) :: (tm.getD 38 undef : Value) :: (tm.getD 39 undef : Value) :: (undef : Value) :: (undef : Value) :: (undef : Value) :: (undef : Value) :: (undef : Value) :: (undef : Value) :: (undef : Value) :: (undef : Value) :: (undef : Value) :: (undef : Value) :: (undef : Value) :: (undef : Value) :: (undef : Value) :: (undef : Value) :: (undef : Value) :: (undef : Value) :: (undef : Value) :: (undef : Value) :: (undef : Value) :: (undef : Value) :: (undef : Value) :: (undef : Value) :: (undef : Value) :: (undef : Value) :: (undef : Value) :: (undef : Value) :: (undef : Value) :: (undef : Value) :: (undef : Value) :: (undef : Value) :: (undef : Value) :: (undef : Value) :: (undef : Value) :: (undef : Value) :: (undef : Value) :: (undef : Value) :: (undef : Value) :: (undef : Value) :: (undef : Value) :: (undef : Value) :: (undef : Value) :: (undef : Value) :: (undef : Value) :: (undef : Value) :: (undef : Value) :: (undef : Value) :: (undef : Value) :: (undef : Value) :: (undef : Value) :: (undef : Value) :: (undef : Value) :: (undef : Value) :: (undef : Value) :: (undef : Value) :: (undef : Value) :: (undef : Value) :: (undef : Value) :: (undef : Value) :: (undef : Value) :: (undef : Value) :: (undef : Value) :: (undef : Value) :: []) hs (by show (tm.getD 0 undef :: tm.getD 1 undef :: tm.getD 2 undef :: tm.getD 3 undef :: tm.getD 4 undef :: tm.getD 5 undef :: tm.getD 6 undef :: tm.getD 7 undef :: tm.getD 8 undef :: tm.getD 9 undef :: tm.getD 10 undef :: tm.getD 11 undef :: tm.getD 12 undef :: tm.getD 13 undef :: tm.getD 14 undef :: tm.getD 15 undef :: tm.getD 16 undef :: tm.getD 17 undef :: tm.getD 18 undef :: tm.getD 19 undef :: tm.getD 20 undef :: tm.getD 21 undef :: tm.getD 22 undef :: tm.getD 23 undef :: tm.getD 24 undef :: tm.getD 25 undef :: tm.getD 26 undef :: tm.getD 27 undef :: tm.getD 28 undef :: tm.getD 29 undef :: tm.getD 30 undef :: tm.getD 31 undef :: tm.getD 32 undef :: tm.getD 33 undef :: tm.getD 34 undef :: tm.getD 35 undef :: tm.getD 36 undef :: tm.getD 37 undef :: tm.getD 38 undef :: tm.getD 39 undef :: tm.getD 40 undef :: tm.getD 41 undef :: tm.getD 42 undef :: tm.getD 43 undef :: tm.getD 44 undef :: tm.getD 45 undef :: tm.getD 46 undef :: tm.getD 47 undef :: tm.getD 48 undef :: tm.getD 49 undef :: tm.getD 50 undef :: tm.getD 51 undef :: tm.getD 52 undef :: tm.getD 53 undef :: tm.getD 54 undef :: tm.getD 55 undef :: tm.getD 56 undef :: tm.getD 57 undef :: tm.getD 58 undef :: tm.getD 59 undef :: tm.getD 60 undef :: tm.getD 61 undef :: tm.getD 62 undef :: tm.getD 63 undef :: tm.getD 64 undef :: tm.getD 65 undef :: tm.getD 66 undef :: tm.getD 67 undef :: tm.getD 68 undef :: tm.getD 69 undef :: tm.getD 70 undef :: tm.getD 71 undef :: tm.getD 72 undef :: tm.getD 73 undef :: tm.getD 74 undef :: tm.getD 75 undef :: tm.getD 76 undef :: tm.getD 77 undef :: tm.getD 78 undef :: tm.getD 79 undef :: tm.getD 80 undef :: tm.getD 81 undef :: tm.getD 82 undef :: tm.getD 83 undef :: tm.getD 84 undef :: tm.getD 85 undef :: tm.getD 86 undef :: tm.getD 87 undef :: tm.getD 88 undef :: tm.getD 89 undef :: tm.getD 90 undef :: tm.getD 91 undef :: tm.getD 92 undef :: tm.getD 93 undef :: tm.getD 94 undef :: tm.getD 95 undef :: tm.getD 96 undef :: tm.getD 97 undef :: tm.getD 98 undef :: tm.getD 99 undef :: tm.getD 100 undef :: tm.getD 101 undef :: []) = _; rw [e0, e1, e2, e3, e4, e5, e6, e7, e8, e9, e10, e11, e12, e40, e41, e42, e43, e44, e45, e46, e47, e48, e49, e50, e51, e52, e53, e54, e55, e56, e57, e58, e59, e60, e61, e62, e63, e64, e65, e66, e67, e68, e69, e70, e71, e72, e73, e74, e75, e76, e77, e78, e79, e80, e81, e82, e83, e84, e85, e86, e87, e88, e89, e90, e91, e92, e93, e94, e95, e96, e97, e98, e99, e100, e101]; try rfl)
    clear hs hk hG e0 e1 e2 e3 e4 e5 e6 e7 e8 e9 e10 e11 e12 e40 e41 e42 e43 e44 e45 e46 e47 e48 e49 e50 e51 e52 e53 e54 e55 e56 e57 e58 e59 e60 e61 e62 e63 e64 e65 e66 e67 e68 e69 e70 e71 e72 e73 e74 e75 e76 e77 e78 e79 e80 e81 e82 e83 e84 e85 e86 e87 e88 e89 e90 e91 e92 e93 e94 e95 e96 e97 e98 e99 e100 e101
    generalize tm.getD 13 undef = t13 at htm g13
    generalize tm.getD 14 undef = t14 at htm g14
    generalize tm.getD 15 undef = t15 at htm g15
    generalize tm.getD 16 undef = t16 at htm g16
    generalize tm.getD 17 undef = t17 at htm g17
    generalize tm.getD 18 undef = t18 at htm g18
    generalize tm.getD 19 undef = t19 at htm g19
    generalize tm.getD 20 undef = t20 at htm g20
    generalize tm.getD 21 undef = t21 at htm g21
    generalize tm.getD 22 undef = t22 at htm g22
    generalize tm.getD 23 undef = t23 at htm g23
    generalize tm.getD 24 undef = t24 at htm g24
    generalize tm.getD 25 undef = t25 at htm g25
    generalize tm.getD 26 undef = t26 at htm g26
    generalize tm.getD 27 undef = t27 at htm g27
    generalize tm.getD 28 undef = t28 at htm g28
    generalize tm.getD 29 undef = t29 at htm g29
    generalize tm.getD 30 undef = t30 at htm g30
    generalize tm.getD 31 undef = t31 at htm g31
    generalize tm.getD 32 undef = t32 at htm g32
    generalize tm.getD 33 undef = t33 at htm g33
    generalize tm.getD 34 undef = t34 at htm g34
    generalize tm.getD 35 undef = t35 at htm g35
    generalize tm.getD 36 undef = t36 at htm g36
    generalize tm.getD 37 undef = t37 at htm g37
    generalize tm.getD 38 undef = t38 at htm g38
    generalize tm.getD 39 undef = t39 at htm g39
    subst htm
    subst g13
    subst g16
    subst g17
    subst g18
    subst g23
    subst g24
    subst g28
    subst g29
    subst g33
    subst g34
    subst g39
    simp only [List.drop_succ_cons, List.drop_zero]
    have hA2 : Below w.heap.size w W := hA1.trans (hB.mono hA1.size)
    have hdt := hct.below hB
    have hdtc := hctc.below hB
    have hdmid := hcmid.below hB
    have hdwant := hcwant.below hB
    clear g14 g15 g20 g25 g30 g36
    obtain ⟨x0, hx⟩ : ∃ x0, (((((!([tc].all rightM)) || (!(plainS t.1 t.2))) || (!(plainS mid.1 mid.2))) || (!(plainS want.1 want.2))) || (!(freeS tc.1 tc.2))) = x0 := ⟨_, rfl⟩
    simp only [hx]
    cases x0 with
    | true =>
      clear hx
      go_wp2
      go_ret
      exact ⟨rfl, hA2⟩
    | false =>
      have hR : rightM tc = true ∧ plainS t.1 t.2 = true ∧ plainS mid.1 mid.2 = true ∧ plainS want.1 want.2 = true ∧ freeS tc.1 tc.2 = true := by
        simp only [Bool.or_eq_false_iff, Bool.not_eq_false'] at hx
        refine ⟨by simpa using hx.1.1.1.1, hx.1.1.1.2, hx.1.1.2, hx.1.2, hx.2⟩
      obtain ⟨rtc, pt', pm', pw', fc'⟩ := hR
      have rt := plain_right pt'
      have rmid := plain_right pm'
      have rwant := plain_right pw'
      have HM : Hid (((riseI t tc want == 0) && rleM t mid && rleM mid want) = true → ((riseI t tc mid != 0) || (riseI mid tc want != 0)) = false) := rise_mid (okL rt) (okL rtc) (okL rmid) (okL rwant) pm' pw'
      have HS := Lib.hid (enter_self (okL rt) (okL rtc) pt' fc')
      have het := hdt.ok (right16 rt)
      have hetc := hdtc.ok (right16 rtc)
      have hemid := hdmid.ok (right16 rmid)
      have hewant := hdwant.ok (right16 rwant)
      clear hx rt rtc rmid rwant pt' pm' pw' fc' hdt hdtc hdmid hdwant
      go_upto_region 5 with fail
      refine wp_region_monoF 18 (fun kq v W => match kq with | 40 => v = .pointer (some ⟨w.heap.size, 0, none⟩) | 41 => LV t v W | 42 => v = .pointer (some ⟨w.heap.size, 2, none⟩) | 43 => LV tc v W | 44 => LV want v W | 45 => v = .int .i64 (riseI t tc want) | 46 => v = .bool ((riseI t tc want) == 0) | 47 => v = .bool ((riseI t tc want) == 0) | 48 => (((riseI t tc want) == 0) = true → v = .pointer (some ⟨w.heap.size, 0, none⟩)) | 49 => (((riseI t tc want) == 0) = true → LV t v W) | 50 => (((riseI t tc want) == 0) = true → LV mid v W) | 51 => (((riseI t tc want) == 0) = true → v = .bool (rleM t mid)) | 52 => v = .bool (((riseI t tc want) == 0) && (rleM t mid)) | 53 => v = .bool (((riseI t tc want) == 0) && (rleM t mid)) | 54 => ((((riseI t tc want) == 0) && (rleM t mid)) = true → LV mid v W) | 55 => ((((riseI t tc want) == 0) && (rleM t mid)) = true → LV want v W) | 56 => ((((riseI t tc want) == 0) && (rleM t mid)) = true → v = .bool (rleM mid want)) | 57 => v = .bool ((((riseI t tc want) == 0) && (rleM t mid)) && (rleM mid want)) | _ => True) (by kernel_rfl) (by kernel_rfl) (by simp) ?_ ?_ ?_
      · intro kq v W W' h hb
        revert h
        try dsimp only
        split
        · intro h; exact h
        · intro h; exact LV.below h hb
        · intro h; exact h
        · intro h; exact LV.below h hb
        · intro h; exact LV.below h hb
        · intro h; exact h
        · intro h; exact h
        · intro h; exact h
        · intro h' e; have h := h' e; exact h
        · intro h' e; have h := h' e; exact LV.below h hb
        · intro h' e; have h := h' e; exact LV.below h hb
        · intro h' e; have h := h' e; exact h
        · intro h; exact h
        · intro h; exact h
        · intro h' e; have h := h' e; exact LV.below h hb
        · intro h' e; have h := h' e; exact LV.below h hb
        · intro h' e; have h := h' e; exact h
        · intro h; exact h
        · intro h; trivial
      · intro a' W hB hs hk i o d ho hd hG
        match i, ho with
        | 0, ho =>
          obtain rfl : _ = o := Option.some.inj ho
          obtain rfl : 40 = d := Option.some.inj hd
          exact .inr ⟨rfl, .inl ⟨_, W, run_fa0 (hk 3 (by kernel_rfl)), Below.refl _ _, rfl⟩⟩
        | 1, ho =>
          obtain rfl : _ = o := Option.some.inj ho
          obtain rfl : 41 = d := Option.some.inj hd
          have g40 : (a'.eval (.tmp 40)) = .pointer (some ⟨w.heap.size, 0, none⟩) := hG ⟨0, .data⟩ (by simp) rfl 40 rfl
          obtain ⟨v, hr, hv⟩ := run_loadL (ev := a'.eval) (W := W) g40 (het.below hB)
          exact .inr ⟨rfl, .inl ⟨v, W, hr, Below.refl _ _, hv⟩⟩
        | 2, ho =>
          obtain rfl : _ = o := Option.some.inj ho
          obtain rfl : 42 = d := Option.some.inj hd
          exact .inr ⟨rfl, .inl ⟨_, W, run_fa1 (hk 3 (by kernel_rfl)), Below.refl _ _, rfl⟩⟩
        | 3, ho =>
          obtain rfl : _ = o := Option.some.inj ho
          obtain rfl : 43 = d := Option.some.inj hd
          have g42 : (a'.eval (.tmp 42)) = .pointer (some ⟨w.heap.size, 2, none⟩) := hG ⟨2, .data⟩ (by simp) rfl 42 rfl
          obtain ⟨v, hr, hv⟩ := run_loadL (ev := a'.eval) (W := W) g42 (hetc.below hB)
          exact .inr ⟨rfl, .inl ⟨v, W, hr, Below.refl _ _, hv⟩⟩
        | 4, ho =>
          obtain rfl : _ = o := Option.some.inj ho
          obtain rfl : 44 = d := Option.some.inj hd
          obtain ⟨v, hr, hv⟩ := run_loadL (ev := a'.eval) (W := W) (hk 5 (by kernel_rfl)) (hewant.below hB)
          exact .inr ⟨rfl, .inl ⟨v, W, hr, Below.refl _ _, hv⟩⟩
        | 5, ho =>
          obtain rfl : _ = o := Option.some.inj ho
          obtain rfl : 45 = d := Option.some.inj hd
          have g41 : LV t (a'.eval (.tmp 41)) W := hG ⟨1, .data⟩ (by simp) rfl 41 rfl
          have g43 : LV tc (a'.eval (.tmp 43)) W := hG ⟨3, .data⟩ (by simp) rfl 43 rfl
          have g44 : LV want (a'.eval (.tmp 44)) W := hG ⟨4, .data⟩ (by simp) rfl 44 rfl
          exact .inr ⟨rfl, .inr ⟨_, _, run_call rfl map_3 ent_passage_Rise, Rise_c g41 g43 g44⟩⟩
        | 6, ho =>
          obtain rfl : _ = o := Option.some.inj ho
          obtain rfl : 46 = d := Option.some.inj hd
          have g45 : (a'.eval (.tmp 45)) = .int .i64 (riseI t tc want) := hG ⟨5, .data⟩ (by simp) rfl 45 rfl
          exact .inr ⟨rfl, .inl ⟨_, W, run_eqE g45 rfl, Below.refl _ _, rfl⟩⟩
        | 7, ho =>
          obtain rfl : _ = o := Option.some.inj ho
          obtain rfl : 47 = d := Option.some.inj hd
          have g46 : (a'.eval (.tmp 46)) = .bool ((riseI t tc want) == 0) := hG ⟨6, .data⟩ (by simp) rfl 46 rfl
          exact .inr ⟨rfl, .inl ⟨_, W, run_move rfl, Below.refl _ _, g46⟩⟩
        | 8, ho =>
          obtain rfl : _ = o := Option.some.inj ho
          obtain rfl : 48 = d := Option.some.inj hd
          have gg : a'.eval (.tmp 47) = .bool ((riseI t tc want) == 0) := hG ⟨7, .guard⟩ (by simp) rfl 47 rfl
          by_cases hgc_ : ((riseI t tc want) == 0) = true
          · exact .inr ⟨want_yes (n := 102) (d := 47) rfl hs (by decide) rfl (gg.trans (by rw [hgc_])), .inl ⟨_, W, run_fa0 (hk 3 (by kernel_rfl)), Below.refl _ _, fun _ => rfl⟩⟩
          · exact .inl ⟨want_no (n := 102) (d := 47) rfl hs (by decide) rfl gg hgc_, fun e => absurd e hgc_⟩
        | 9, ho =>
          obtain rfl : _ = o := Option.some.inj ho
          obtain rfl : 49 = d := Option.some.inj hd
          have gg : a'.eval (.tmp 47) = .bool ((riseI t tc want) == 0) := hG ⟨7, .guard⟩ (by simp) rfl 47 rfl
          by_cases hgc_ : ((riseI t tc want) == 0) = true
          · have g48 : (a'.eval (.tmp 48)) = .pointer (some ⟨w.heap.size, 0, none⟩) := hG ⟨8, .data⟩ (by simp) rfl 48 rfl hgc_
            obtain ⟨v, hr, hv⟩ := run_loadL (ev := a'.eval) (W := W) g48 (het.below hB)
            exact .inr ⟨want_yes (n := 102) (d := 47) rfl hs (by decide) rfl (gg.trans (by rw [hgc_])), .inl ⟨v, W, hr, Below.refl _ _, fun _ => hv⟩⟩
          · exact .inl ⟨want_no (n := 102) (d := 47) rfl hs (by decide) rfl gg hgc_, fun e => absurd e hgc_⟩
        | 10, ho =>
          obtain rfl : _ = o := Option.some.inj ho
          obtain rfl : 50 = d := Option.some.inj hd
          have gg : a'.eval (.tmp 47) = .bool ((riseI t tc want) == 0) := hG ⟨7, .guard⟩ (by simp) rfl 47 rfl
          by_cases hgc_ : ((riseI t tc want) == 0) = true
          · obtain ⟨v, hr, hv⟩ := run_loadL (ev := a'.eval) (W := W) (hk 4 (by kernel_rfl)) (hemid.below hB)
            exact .inr ⟨want_yes (n := 102) (d := 47) rfl hs (by decide) rfl (gg.trans (by rw [hgc_])), .inl ⟨v, W, hr, Below.refl _ _, fun _ => hv⟩⟩
          · exact .inl ⟨want_no (n := 102) (d := 47) rfl hs (by decide) rfl gg hgc_, fun e => absurd e hgc_⟩
        | 11, ho =>
          obtain rfl : _ = o := Option.some.inj ho
          obtain rfl : 51 = d := Option.some.inj hd
          have gg : a'.eval (.tmp 47) = .bool ((riseI t tc want) == 0) := hG ⟨7, .guard⟩ (by simp) rfl 47 rfl
          by_cases hgc_ : ((riseI t tc want) == 0) = true
          · have g49 : LV t (a'.eval (.tmp 49)) W := hG ⟨9, .data⟩ (by simp) rfl 49 rfl hgc_
            have g50 : LV mid (a'.eval (.tmp 50)) W := hG ⟨10, .data⟩ (by simp) rfl 50 rfl hgc_
            exact .inr ⟨want_yes (n := 102) (d := 47) rfl hs (by decide) rfl (gg.trans (by rw [hgc_])), .inr ⟨_, _, run_call rfl map_2 ent_gatehouseref01_Leq, (rLeq_c g49 g50).mono (fun e W' ⟨v, he, hb, hv⟩ => ⟨v, he, hb, fun _ => hv⟩)⟩⟩
          · exact .inl ⟨want_no (n := 102) (d := 47) rfl hs (by decide) rfl gg hgc_, fun e => absurd e hgc_⟩
        | 12, ho =>
          obtain rfl : _ = o := Option.some.inj ho
          obtain rfl : 52 = d := Option.some.inj hd
          have g47 : (a'.eval (.tmp 47)) = .bool ((riseI t tc want) == 0) := hG ⟨7, .data⟩ (by simp) rfl 47 rfl
          by_cases hq : ((riseI t tc want) == 0) = true
          · exact .inr ⟨rfl, .inl ⟨_, W, run_pick_yes (g47.trans (by rw [hq])) (hG ⟨11, .data⟩ (by simp) rfl 51 rfl hq), Below.refl _ _, by rw [hq]; rfl⟩⟩
          · have hq' : ((riseI t tc want) == 0) = false := by simpa using hq
            exact .inr ⟨rfl, .inl ⟨_, W, run_pick_no (g47.trans (by rw [hq'])) rfl, Below.refl _ _, by rw [hq']; rfl⟩⟩
        | 13, ho =>
          obtain rfl : _ = o := Option.some.inj ho
          obtain rfl : 53 = d := Option.some.inj hd
          have g52 : (a'.eval (.tmp 52)) = .bool (((riseI t tc want) == 0) && (rleM t mid)) := hG ⟨12, .data⟩ (by simp) rfl 52 rfl
          exact .inr ⟨rfl, .inl ⟨_, W, run_move rfl, Below.refl _ _, g52⟩⟩
        | 14, ho =>
          obtain rfl : _ = o := Option.some.inj ho
          obtain rfl : 54 = d := Option.some.inj hd
          have gg : a'.eval (.tmp 53) = .bool (((riseI t tc want) == 0) && (rleM t mid)) := hG ⟨13, .guard⟩ (by simp) rfl 53 rfl
          by_cases hgc_ : (((riseI t tc want) == 0) && (rleM t mid)) = true
          · obtain ⟨v, hr, hv⟩ := run_loadL (ev := a'.eval) (W := W) (hk 4 (by kernel_rfl)) (hemid.below hB)
            exact .inr ⟨want_yes (n := 102) (d := 53) rfl hs (by decide) rfl (gg.trans (by rw [hgc_])), .inl ⟨v, W, hr, Below.refl _ _, fun _ => hv⟩⟩
          · exact .inl ⟨want_no (n := 102) (d := 53) rfl hs (by decide) rfl gg hgc_, fun e => absurd e hgc_⟩
        | 15, ho =>
          obtain rfl : _ = o := Option.some.inj ho
          obtain rfl : 55 = d := Option.some.inj hd
          have gg : a'.eval (.tmp 53) = .bool (((riseI t tc want) == 0) && (rleM t mid)) := hG ⟨13, .guard⟩ (by simp) rfl 53 rfl
          by_cases hgc_ : (((riseI t tc want) == 0) && (rleM t mid)) = true
          · obtain ⟨v, hr, hv⟩ := run_loadL (ev := a'.eval) (W := W) (hk 5 (by kernel_rfl)) (hewant.below hB)
            exact .inr ⟨want_yes (n := 102) (d := 53) rfl hs (by decide) rfl (gg.trans (by rw [hgc_])), .inl ⟨v, W, hr, Below.refl _ _, fun _ => hv⟩⟩
          · exact .inl ⟨want_no (n := 102) (d := 53) rfl hs (by decide) rfl gg hgc_, fun e => absurd e hgc_⟩
        | 16, ho =>
          obtain rfl : _ = o := Option.some.inj ho
          obtain rfl : 56 = d := Option.some.inj hd
          have gg : a'.eval (.tmp 53) = .bool (((riseI t tc want) == 0) && (rleM t mid)) := hG ⟨13, .guard⟩ (by simp) rfl 53 rfl
          by_cases hgc_ : (((riseI t tc want) == 0) && (rleM t mid)) = true
          · have g54 : LV mid (a'.eval (.tmp 54)) W := hG ⟨14, .data⟩ (by simp) rfl 54 rfl hgc_
            have g55 : LV want (a'.eval (.tmp 55)) W := hG ⟨15, .data⟩ (by simp) rfl 55 rfl hgc_
            exact .inr ⟨want_yes (n := 102) (d := 53) rfl hs (by decide) rfl (gg.trans (by rw [hgc_])), .inr ⟨_, _, run_call rfl map_2 ent_gatehouseref01_Leq, (rLeq_c g54 g55).mono (fun e W' ⟨v, he, hb, hv⟩ => ⟨v, he, hb, fun _ => hv⟩)⟩⟩
          · exact .inl ⟨want_no (n := 102) (d := 53) rfl hs (by decide) rfl gg hgc_, fun e => absurd e hgc_⟩
        | 17, ho =>
          obtain rfl : _ = o := Option.some.inj ho
          obtain rfl : 57 = d := Option.some.inj hd
          have g53 : (a'.eval (.tmp 53)) = .bool (((riseI t tc want) == 0) && (rleM t mid)) := hG ⟨13, .data⟩ (by simp) rfl 53 rfl
          by_cases hq : (((riseI t tc want) == 0) && (rleM t mid)) = true
          · exact .inr ⟨rfl, .inl ⟨_, W, run_pick_yes (g53.trans (by rw [hq])) (hG ⟨16, .data⟩ (by simp) rfl 56 rfl hq), Below.refl _ _, by rw [hq]; rfl⟩⟩
          · have hq' : (((riseI t tc want) == 0) && (rleM t mid)) = false := by simpa using hq
            exact .inr ⟨rfl, .inl ⟨_, W, run_pick_no (g53.trans (by rw [hq'])) rfl, Below.refl _ _, by rw [hq']; rfl⟩⟩
        | j + 18, ho => simp at ho
      · intro a' W hB hs hdf hk hG
        obtain ⟨tm, df⟩ := a'
        obtain rfl : df = [] := hdf
        have e0 : tm.getD 0 undef = .agg #[.int .i64 t.fst, .slice pt t.snd.length ct, .int .i64 tc.fst, .slice ptc tc.snd.length ctc] := hk 0 (by kernel_rfl)
        have e1 : tm.getD 1 undef = .agg #[.int .i64 mid.fst, .slice pmid mid.snd.length cmid] := hk 1 (by kernel_rfl)
        have e2 : tm.getD 2 undef = .agg #[.int .i64 want.fst, .slice pwant want.snd.length cwant] := hk 2 (by kernel_rfl)
        have e3 : tm.getD 3 undef = .pointer (some ⟨w.heap.size, 0, none⟩) := hk 3 (by kernel_rfl)
        have e4 : tm.getD 4 undef = .pointer (some ⟨w.heap.size + 1, 0, none⟩) := hk 4 (by kernel_rfl)
        have e5 : tm.getD 5 undef = .pointer (some ⟨w.heap.size + 1 + 1, 0, none⟩) := hk 5 (by kernel_rfl)
        have e6 : tm.getD 6 undef = .bool false := hk 6 (by kernel_rfl)
        have e7 : tm.getD 7 undef = undef := hk 7 (by kernel_rfl)
        have e8 : tm.getD 8 undef = undef := hk 8 (by kernel_rfl)
        have e9 : tm.getD 9 undef = undef := hk 9 (by kernel_rfl)
        have e10 : tm.getD 10 undef = undef := hk 10 (by kernel_rfl)
        have e11 : tm.getD 11 undef = .bool true := hk 11 (by kernel_rfl)
        have e12 : tm.getD 12 undef = .bool false := hk 12 (by kernel_rfl)
        have e13 : tm.getD 13 undef = .pointer (some ⟨w.heap.size, 2, none⟩) := hk 13 (by kernel_rfl)
        have e14 : tm.getD 14 undef = t14 := hk 14 (by kernel_rfl)
        have e15 : tm.getD 15 undef = t15 := hk 15 (by kernel_rfl)
        have e16 : tm.getD 16 undef = .bool ([tc].all rightM) := hk 16 (by kernel_rfl)
        have e17 : tm.getD 17 undef = .bool ![tc].all rightM := hk 17 (by kernel_rfl)
        have e18 : tm.getD 18 undef = .bool ![tc].all rightM := hk 18 (by kernel_rfl)
        have e19 : tm.getD 19 undef = t19 := hk 19 (by kernel_rfl)
        have e20 : tm.getD 20 undef = t20 := hk 20 (by kernel_rfl)
        have e21 : tm.getD 21 undef = t21 := hk 21 (by kernel_rfl)
        have e22 : tm.getD 22 undef = t22 := hk 22 (by kernel_rfl)
        have e23 : tm.getD 23 undef = .bool (![tc].all rightM || !plainS t.fst t.snd) := hk 23 (by kernel_rfl)
        have e24 : tm.getD 24 undef = .bool (![tc].all rightM || !plainS t.fst t.snd) := hk 24 (by kernel_rfl)
        have e25 : tm.getD 25 undef = t25 := hk 25 (by kernel_rfl)
        have e26 : tm.getD 26 undef = t26 := hk 26 (by kernel_rfl)
        have e27 : tm.getD 27 undef = t27 := hk 27 (by kernel_rfl)
        have e28 : tm.getD 28 undef = .bool (![tc].all rightM || !plainS t.fst t.snd || !plainS mid.fst mid.snd) := hk 28 (by kernel_rfl)
        have e29 : tm.getD 29 undef = .bool (![tc].all rightM || !plainS t.fst t.snd || !plainS mid.fst mid.snd) := hk 29 (by kernel_rfl)
        have e30 : tm.getD 30 undef = t30 := hk 30 (by kernel_rfl)
        have e31 : tm.getD 31 undef = t31 := hk 31 (by kernel_rfl)
        have e32 : tm.getD 32 undef = t32 := hk 32 (by kernel_rfl)
        have e33 : tm.getD 33 undef = .bool (![tc].all rightM || !plainS t.fst t.snd || !plainS mid.fst mid.snd || !plainS want.fst want.snd) := hk 33 (by kernel_rfl)
        have e34 : tm.getD 34 undef = .bool (![tc].all rightM || !plainS t.fst t.snd || !plainS mid.fst mid.snd || !plainS want.fst want.snd) := hk 34 (by kernel_rfl)
        have e35 : tm.getD 35 undef = t35 := hk 35 (by kernel_rfl)
        have e36 : tm.getD 36 undef = t36 := hk 36 (by kernel_rfl)
        have e37 : tm.getD 37 undef = t37 := hk 37 (by kernel_rfl)
        have e38 : tm.getD 38 undef = t38 := hk 38 (by kernel_rfl)
        have e39 : tm.getD 39 undef = .bool false := hk 39 (by kernel_rfl)
        have e58 : tm.getD 58 undef = undef := hk 58 (by kernel_rfl)
        have e59 : tm.getD 59 undef = undef := hk 59 (by kernel_rfl)
        have e60 : tm.getD 60 undef = undef := hk 60 (by kernel_rfl)
        have e61 : tm.getD 61 undef = undef := hk 61 (by kernel_rfl)
        have e62 : tm.getD 62 undef = undef := hk 62 (by kernel_rfl)
        have e63 : tm.getD 63 undef = undef := hk 63 (by kernel_rfl)
        have e64 : tm.getD 64 undef = undef := hk 64 (by kernel_rfl)
        have e65 : tm.getD 65 undef = undef := hk 65 (by kernel_rfl)
        have e66 : tm.getD 66 undef = undef := hk 66 (by kernel_rfl)
        have e67 : tm.getD 67 undef = undef := hk 67 (by kernel_rfl)
        have e68 : tm.getD 68 undef = undef := hk 68 (by kernel_rfl)
        have e69 : tm.getD 69 undef = undef := hk 69 (by kernel_rfl)
        have e70 : tm.getD 70 undef = undef := hk 70 (by kernel_rfl)
        have e71 : tm.getD 71 undef = undef := hk 71 (by kernel_rfl)
        have e72 : tm.getD 72 undef = undef := hk 72 (by kernel_rfl)
        have e73 : tm.getD 73 undef = undef := hk 73 (by kernel_rfl)
        have e74 : tm.getD 74 undef = undef := hk 74 (by kernel_rfl)
        have e75 : tm.getD 75 undef = undef := hk 75 (by kernel_rfl)
        have e76 : tm.getD 76 undef = undef := hk 76 (by kernel_rfl)
        have e77 : tm.getD 77 undef = undef := hk 77 (by kernel_rfl)
        have e78 : tm.getD 78 undef = undef := hk 78 (by kernel_rfl)
        have e79 : tm.getD 79 undef = undef := hk 79 (by kernel_rfl)
        have e80 : tm.getD 80 undef = undef := hk 80 (by kernel_rfl)
        have e81 : tm.getD 81 undef = undef := hk 81 (by kernel_rfl)
        have e82 : tm.getD 82 undef = undef := hk 82 (by kernel_rfl)
        have e83 : tm.getD 83 undef = undef := hk 83 (by kernel_rfl)
        have e84 : tm.getD 84 undef = undef := hk 84 (by kernel_rfl)
        have e85 : tm.getD 85 undef = undef := hk 85 (by kernel_rfl)
        have e86 : tm.getD 86 undef = undef := hk 86 (by kernel_rfl)
        have e87 : tm.getD 87 undef = undef := hk 87 (by kernel_rfl)
        have e88 : tm.getD 88 undef = undef := hk 88 (by kernel_rfl)
        have e89 : tm.getD 89 undef = undef := hk 89 (by kernel_rfl)
        have e90 : tm.getD 90 undef = undef := hk 90 (by kernel_rfl)
        have e91 : tm.getD 91 undef = undef := hk 91 (by kernel_rfl)
        have e92 : tm.getD 92 undef = undef := hk 92 (by kernel_rfl)
        have e93 : tm.getD 93 undef = undef := hk 93 (by kernel_rfl)
        have e94 : tm.getD 94 undef = undef := hk 94 (by kernel_rfl)
        have e95 : tm.getD 95 undef = undef := hk 95 (by kernel_rfl)
        have e96 : tm.getD 96 undef = undef := hk 96 (by kernel_rfl)
        have e97 : tm.getD 97 undef = undef := hk 97 (by kernel_rfl)
        have e98 : tm.getD 98 undef = undef := hk 98 (by kernel_rfl)
        have e99 : tm.getD 99 undef = undef := hk 99 (by kernel_rfl)
        have e100 : tm.getD 100 undef = undef := hk 100 (by kernel_rfl)
        have e101 : tm.getD 101 undef = undef := hk 101 (by kernel_rfl)
        have g40 : (tm.getD 40 undef) = .pointer (some ⟨w.heap.size, 0, none⟩) := hG 0 40 (by decide) rfl
        have g41 : LV t (tm.getD 41 undef) W := hG 1 41 (by decide) rfl
        have g42 : (tm.getD 42 undef) = .pointer (some ⟨w.heap.size, 2, none⟩) := hG 2 42 (by decide) rfl
        have g43 : LV tc (tm.getD 43 undef) W := hG 3 43 (by decide) rfl
        have g44 : LV want (tm.getD 44 undef) W := hG 4 44 (by decide) rfl
        have g45 : (tm.getD 45 undef) = .int .i64 (riseI t tc want) := hG 5 45 (by decide) rfl
        have g46 : (tm.getD 46 undef) = .bool ((riseI t tc want) == 0) := hG 6 46 (by decide) rfl
        have g47 : (tm.getD 47 undef) = .bool ((riseI t tc want) == 0) := hG 7 47 (by decide) rfl
        have g48 : ((riseI t tc want) == 0) = true → (tm.getD 48 undef) = .pointer (some ⟨w.heap.size, 0, none⟩) := hG 8 48 (by decide) rfl
        have g49 : ((riseI t tc want) == 0) = true → LV t (tm.getD 49 undef) W := hG 9 49 (by decide) rfl
        have g50 : ((riseI t tc want) == 0) = true → LV mid (tm.getD 50 undef) W := hG 10 50 (by decide) rfl
        have g51 : ((riseI t tc want) == 0) = true → (tm.getD 51 undef) = .bool (rleM t mid) := hG 11 51 (by decide) rfl
        have g52 : (tm.getD 52 undef) = .bool (((riseI t tc want) == 0) && (rleM t mid)) := hG 12 52 (by decide) rfl
        have g53 : (tm.getD 53 undef) = .bool (((riseI t tc want) == 0) && (rleM t mid)) := hG 13 53 (by decide) rfl
        have g54 : (((riseI t tc want) == 0) && (rleM t mid)) = true → LV mid (tm.getD 54 undef) W := hG 14 54 (by decide) rfl
        have g55 : (((riseI t tc want) == 0) && (rleM t mid)) = true → LV want (tm.getD 55 undef) W := hG 15 55 (by decide) rfl
        have g56 : (((riseI t tc want) == 0) && (rleM t mid)) = true → (tm.getD 56 undef) = .bool (rleM mid want) := hG 16 56 (by decide) rfl
        have g57 : (tm.getD 57 undef) = .bool ((((riseI t tc want) == 0) && (rleM t mid)) && (rleM mid want)) := hG 17 57 (by decide) rfl
        have htm := arr_of tm ((.agg #[.int .i64 t.fst, .slice pt t.snd.length ct, .int .i64 tc.fst, .slice ptc tc.snd.length ctc] : Value) :: (.agg #[.int .i64 mid.fst, .slice pmid mid.snd.length cmid] : Value) :: (.agg #[.int .i64 want.fst, .slice pwant want.snd.length cwant] : Value) :: (.pointer (some ⟨w.heap.size, 0, none⟩) : Value) :: (.pointer (some ⟨w.heap.size + 1, 0, none⟩) : Value) :: (.pointer (some ⟨w.heap.size + 1 + 1, 0, none⟩) : Value) :: (.bool false : Value) :: (undef : Value) :: (undef : Value) :: (undef : Value) :: (undef : Value) :: (.bool true : Value) :: (.bool false : Value) :: (.pointer (some ⟨w.heap.size, 2, none⟩) : Value) :: (t14 : Value) :: (t15 : Value) :: (.bool ([tc].all rightM) : Value) :: (.bool ![tc].all rightM : Value) :: (.bool ![tc].all rightM : Value) :: (t19 : Value) :: (t20 : Value) :: (t21 : Value) :: (t22 : Value) :: (.bool (![tc].all rightM || !plainS t.fst t.snd) : Value) :: (.bool (![tc].all rightM || !plainS t.fst t.snd) : Value) :: (t25 : Value) :: (t26 : Value) :: (t27 : Value) :: (.bool (![tc].all rightM || !plainS t.fst t.snd || !plainS mid.fst mid.snd) : Value) :: (.bool (![tc].all rightM || !plainS t.fst t.snd || !plainS mid.fst mid.snd) : Value) :: (t30 : Value) :: (t31 : Value) :: (t32 : Value) :: (.bool (![tc].all rightM || !plainS t.fst t.snd || !plainS mid.fst mid.snd || !plainS want.fst want.snd) : Value) :: (.bool (![tc].all rightM || !plainS t.fst t.snd || !plainS mid.fst mid.snd || !plainS want.fst want.snd) : Value) :: (t35 : Value) :: (t36 : Value) :: (t37 : Value) :: (t38 : Value) :: (.bool false : Value) :: (tm.getD 40 undef : Value) :: (tm.getD 41 undef : Value) :: (tm.getD 42 undef : Value) :: (tm.getD 43 undef : Value) :: (tm.getD 44 undef : Value) :: (tm.getD 45 undef : Value) :: (tm.getD 46 undef : Value) :: (tm.getD 47 undef : Value) :: (tm.getD 48 undef : Value) :: (tm.getD 49 undef : Value) :: (tm.getD 50 undef : Value) :: (tm.getD 51 undef : Value) :: (tm.getD 52 undef : Value) :: (tm.getD 53 undef : Value) :: (tm.getD 54 undef : Value) :: (tm.getD 55 undef : Value) :: (tm.getD 56 undef : Value) :: (tm.getD 57 undef : Value) :: (undef : Value) :: (undef : Value) :: (undef : Value) :: (undef : Value) :: (undef : Value) :: (undef : Value) :: (undef : Value) :: (undef : Value) :: (undef : Value) :: (undef : Value) :: (undef : Value) :: (undef : Value) :: (undef : Value) :: (undef : Value) :: (undef : Value) :: (undef : Value) :: (undef : Value) :: (undef : Value) :: (undef : Value) :: (undef : Value) :: (undef : Value) :: (undef : Value) :: (undef : Value) :: (undef : Value) :: (undef : Value) :: (undef : Value) :: (undef : Value) :: (undef : Value) :: (undef : Value) :: (undef : Value) :: (undef : Value) :: (undef : Value) :: (undef : Value) :: (undef : Value) :: (undef : Value) :: (undef : Value) :: (undef : Value) :: (undef : Value) :: (undef : Value) :: (undef : Value) :: (undef : Value) :: (undef : Value) :: (undef : Value) :: (undef : Value) :: []) hs (by show (tm.getD 0 undef :: tm.getD 1 undef :: tm.getD 2 undef :: tm.getD 3 undef :: tm.getD 4 undef :: tm.getD 5 undef :: tm.getD 6 undef :: tm.getD 7 undef :: tm.getD 8 undef :: tm.getD 9 undef :: tm.getD 10 undef :: tm.getD 11 undef :: tm.getD 12 undef :: tm.getD 13 undef :: tm.getD 14 undef :: tm.getD 15 undef :: tm.getD 16 undef :: tm.getD 17 undef :: tm.getD 18 undef :: tm.getD 19 undef :: tm.getD 20 undef :: tm.getD 21 undef :: tm.getD 22 undef :: tm.getD 23 undef :: tm.getD 24 undef :: tm.getD 25 undef :: tm.getD 26 undef :: tm.getD 27 undef :: tm.getD 28 undef :: tm.getD 29 undef :: tm.getD 30 undef :: tm.getD 31 undef :: tm.getD 32 undef :: tm.getD 33 undef :: tm.getD 34 undef :: tm.getD 35 undef :: tm.getD 36 undef :: tm.getD 37 undef :: tm.getD 38 undef :: tm.getD 39 undef :: tm.getD 40 undef :: tm.getD 41 undef :: tm.getD 42 undef :: tm.getD 43 undef :: tm.getD 44 undef :: tm.getD 45 undef :: tm.getD 46 undef :: tm.getD 47 undef :: tm.getD 48 undef :: tm.getD 49 undef :: tm.getD 50 undef :: tm.getD 51 undef :: tm.getD 52 undef :: tm.getD 53 undef :: tm.getD 54 undef :: tm.getD 55 undef :: tm.getD 56 undef :: tm.getD 57 undef :: tm.getD 58 undef :: tm.getD 59 undef :: tm.getD 60 undef :: tm.getD 61 undef :: tm.getD 62 undef :: tm.getD 63 undef :: tm.getD 64 undef :: tm.getD 65 undef :: tm.getD 66 undef :: tm.getD 67 undef :: tm.getD 68 undef :: tm.getD 69 undef :: tm.getD 70 undef :: tm.getD 71 undef :: tm.getD 72 undef :: tm.getD 73 undef :: tm.getD 74 undef :: tm.getD 75 undef :: tm.getD 76 undef :: tm.getD 77 undef :: tm.getD 78 undef :: tm.getD 79 undef :: tm.getD 80 undef :: tm.getD 81 undef :: tm.getD 82 undef :: tm.getD 83 undef :: tm.getD 84 undef :: tm.getD 85 undef :: tm.getD 86 undef :: tm.getD 87 undef :: tm.getD 88 undef :: tm.getD 89 undef :: tm.getD 90 undef :: tm.getD 91 undef :: tm.getD 92 undef :: tm.getD 93 undef :: tm.getD 94 undef :: tm.getD 95 undef :: tm.getD 96 undef :: tm.getD 97 undef :: tm.getD 98 undef :: tm.getD 99 undef :: tm.getD 100 undef :: tm.getD 101 undef :: []) = _; rw [e0, e1, e2, e3, e4, e5, e6, e7, e8, e9, e10, e11, e12, e13, e14, e15, e16, e17, e18, e19, e20, e21, e22, e23, e24, e25, e26, e27, e28, e29, e30, e31, e32, e33, e34, e35, e36, e37, e38, e39, e58, e59, e60, e61, e62, e63, e64, e65, e66, e67, e68, e69, e70, e71, e72, e73, e74, e75, e76, e77, e78, e79, e80, e81, e82, e83, e84, e85, e86, e87, e88, e89, e90, e91, e92, e93, e94, e95, e96, e97, e98, e99, e100, e101]; try rfl)
        clear hs hk hG e0 e1 e2 e3 e4 e5 e6 e7 e8 e9 e10 e11 e12 e13 e14 e15 e16 e17 e18 e19 e20 e21 e22 e23 e24 e25 e26 e27 e28 e29 e30 e31 e32 e33 e34 e35 e36 e37 e38 e39 e58 e59 e60 e61 e62 e63 e64 e65 e66 e67 e68 e69 e70 e71 e72 e73 e74 e75 e76 e77 e78 e79 e80 e81 e82 e83 e84 e85 e86 e87 e88 e89 e90 e91 e92 e93 e94 e95 e96 e97 e98 e99 e100 e101
        generalize tm.getD 40 undef = t40 at htm g40
        generalize tm.getD 41 undef = t41 at htm g41
        generalize tm.getD 42 undef = t42 at htm g42
        generalize tm.getD 43 undef = t43 at htm g43
        generalize tm.getD 44 undef = t44 at htm g44
        generalize tm.getD 45 undef = t45 at htm g45
        generalize tm.getD 46 undef = t46 at htm g46
        generalize tm.getD 47 undef = t47 at htm g47
        generalize tm.getD 48 undef = t48 at htm g48
        generalize tm.getD 49 undef = t49 at htm g49
        generalize tm.getD 50 undef = t50 at htm g50
        generalize tm.getD 51 undef = t51 at htm g51
        generalize tm.getD 52 undef = t52 at htm g52
        generalize tm.getD 53 undef = t53 at htm g53
        generalize tm.getD 54 undef = t54 at htm g54
        generalize tm.getD 55 undef = t55 at htm g55
        generalize tm.getD 56 undef = t56 at htm g56
        generalize tm.getD 57 undef = t57 at htm g57
        subst htm
        subst g40
        subst g42
        subst g45
        subst g46
        subst g47
        subst g52
        subst g53
        subst g57
        simp only [List.drop_succ_cons, List.drop_zero]
        have hA3 : Below w.heap.size w W := hA2.trans (hB.mono hA2.size)
        have hft := het.below hB
        have hftc := hetc.below hB
        have hfmid := hemid.below hB
        have hfwant := hewant.below hB
        clear g41 g43 g44 g48 g49 g50 g51 g54 g55 g56 het hetc hemid hewant hB hA2
        obtain ⟨y0, hy⟩ : ∃ y0, ((((riseI t tc want) == 0) && (rleM t mid)) && (rleM mid want)) = y0 := ⟨_, rfl⟩
        simp only [hy]
        cases y0 with
        | false =>
          clear hy
          go_upto_region 10 with fail
          obtain ⟨W2, hW2⟩ : ∃ W2, W2 = (W.alloc (.cells #[.int .i64 1, .slice none 0 0] 24)).alloc (.cells #[.int .i64 4, .slice none 0 0] 24) := ⟨_, rfl⟩
          have hbQ : Below W.heap.size W W2 := by rw [hW2]; go_grown
          have hQ7 : LBox (1, []) W2 W.heap.size 0 := by rw [hW2]; exact lbox0 (by simp <;> omega) (by simp [go_sem]) (by simp [go_sem])
          have hQ8 : LBox (4, []) W2 (W.heap.size + 1) 0 := by rw [hW2]; exact lbox0 (by simp <;> omega) (by simp [go_sem]) (by simp [go_sem])
          have hQt := hft.below hbQ
          have hQtc := hftc.below hbQ
          have hQmid := hfmid.below hbQ
          have hQwant := hfwant.below hbQ
          have hAQ : Below w.heap.size w W2 := hA3.trans (hbQ.mono hA3.size)
          obtain ⟨nq, hnq⟩ : ∃ nq, nq = W.heap.size := ⟨_, rfl⟩
          rw [← hW2]
          rw [← hnq] at hQ7 hQ8 ⊢
          clear hW2 hbQ hnq hA3 hft hftc hfmid hfwant
          refine wp_region_monoF 11 (fun kq v W => match kq with | 75 => v = .pointer (some ⟨w.heap.size, 0, none⟩) | 76 => LV t v W | 77 => v = .pointer (some ⟨w.heap.size, 2, none⟩) | 78 => LV tc v W | 79 => LV ((1, []) : ML) v W | 80 => LV ((4, []) : ML) v W | 81 => v = .pointer (some ⟨w.heap.size, 0, none⟩) | 82 => LV t v W | 83 => v = .pointer (some ⟨w.heap.size, 2, none⟩) | 84 => LV tc v W | 85 => v = .int .i64 (enterI t tc ((1, []) : ML) ((4, []) : ML) t tc) | _ => True) (by kernel_rfl) (by kernel_rfl) (by simp) ?_ ?_ ?_
          · intro kq v W W' h hb
            revert h
            try dsimp only
            split
            · intro h; exact h
            · intro h; exact LV.below h hb
            · intro h; exact h
            · intro h; exact LV.below h hb
            · intro h; exact LV.below h hb
            · intro h; exact LV.below h hb
            · intro h; exact h
            · intro h; exact LV.below h hb
            · intro h; exact h
            · intro h; exact LV.below h hb
            · intro h; exact h
            · intro h; trivial
          · intro a' W hB hs hk i o d ho hd hG
            match i, ho with
            | 0, ho =>
              obtain rfl : _ = o := Option.some.inj ho
              obtain rfl : 75 = d := Option.some.inj hd
              exact .inr ⟨rfl, .inl ⟨_, W, run_fa0 (hk 3 (by kernel_rfl)), Below.refl _ _, rfl⟩⟩
            | 1, ho =>
              obtain rfl : _ = o := Option.some.inj ho
              obtain rfl : 76 = d := Option.some.inj hd
              have g75 : (a'.eval (.tmp 75)) = .pointer (some ⟨w.heap.size, 0, none⟩) := hG ⟨0, .data⟩ (by simp) rfl 75 rfl
              obtain ⟨v, hr, hv⟩ := run_loadL (ev := a'.eval) (W := W) g75 (hQt.below hB)
              exact .inr ⟨rfl, .inl ⟨v, W, hr, Below.refl _ _, hv⟩⟩
            | 2, ho =>
              obtain rfl : _ = o := Option.some.inj ho
              obtain rfl : 77 = d := Option.some.inj hd
              exact .inr ⟨rfl, .inl ⟨_, W, run_fa1 (hk 3 (by kernel_rfl)), Below.refl _ _, rfl⟩⟩
            | 3, ho =>
              obtain rfl : _ = o := Option.some.inj ho
              obtain rfl : 78 = d := Option.some.inj hd
              have g77 : (a'.eval (.tmp 77)) = .pointer (some ⟨w.heap.size, 2, none⟩) := hG ⟨2, .data⟩ (by simp) rfl 77 rfl
              obtain ⟨v, hr, hv⟩ := run_loadL (ev := a'.eval) (W := W) g77 (hQtc.below hB)
              exact .inr ⟨rfl, .inl ⟨v, W, hr, Below.refl _ _, hv⟩⟩
            | 4, ho =>
              obtain rfl : _ = o := Option.some.inj ho
              obtain rfl : 79 = d := Option.some.inj hd
              obtain ⟨v, hr, hv⟩ := run_loadL (ev := a'.eval) (W := W) (hk 7 (by kernel_rfl)) (hQ7.below hB)
              exact .inr ⟨rfl, .inl ⟨v, W, hr, Below.refl _ _, hv⟩⟩
            | 5, ho =>
              obtain rfl : _ = o := Option.some.inj ho
              obtain rfl : 80 = d := Option.some.inj hd
              obtain ⟨v, hr, hv⟩ := run_loadL (ev := a'.eval) (W := W) (hk 8 (by kernel_rfl)) (hQ8.below hB)
              exact .inr ⟨rfl, .inl ⟨v, W, hr, Below.refl _ _, hv⟩⟩
            | 6, ho =>
              obtain rfl : _ = o := Option.some.inj ho
              obtain rfl : 81 = d := Option.some.inj hd
              exact .inr ⟨rfl, .inl ⟨_, W, run_fa0 (hk 3 (by kernel_rfl)), Below.refl _ _, rfl⟩⟩
            | 7, ho =>
              obtain rfl : _ = o := Option.some.inj ho
              obtain rfl : 82 = d := Option.some.inj hd
              have g81 : (a'.eval (.tmp 81)) = .pointer (some ⟨w.heap.size, 0, none⟩) := hG ⟨6, .data⟩ (by simp) rfl 81 rfl
              obtain ⟨v, hr, hv⟩ := run_loadL (ev := a'.eval) (W := W) g81 (hQt.below hB)
              exact .inr ⟨rfl, .inl ⟨v, W, hr, Below.refl _ _, hv⟩⟩
            | 8, ho =>
              obtain rfl : _ = o := Option.some.inj ho
              obtain rfl : 83 = d := Option.some.inj hd
              exact .inr ⟨rfl, .inl ⟨_, W, run_fa1 (hk 3 (by kernel_rfl)), Below.refl _ _, rfl⟩⟩
            | 9, ho =>
              obtain rfl : _ = o := Option.some.inj ho
              obtain rfl : 84 = d := Option.some.inj hd
              have g83 : (a'.eval (.tmp 83)) = .pointer (some ⟨w.heap.size, 2, none⟩) := hG ⟨8, .data⟩ (by simp) rfl 83 rfl
              obtain ⟨v, hr, hv⟩ := run_loadL (ev := a'.eval) (W := W) g83 (hQtc.below hB)
              exact .inr ⟨rfl, .inl ⟨v, W, hr, Below.refl _ _, hv⟩⟩
            | 10, ho =>
              obtain rfl : _ = o := Option.some.inj ho
              obtain rfl : 85 = d := Option.some.inj hd
              have g76 : LV t (a'.eval (.tmp 76)) W := hG ⟨1, .data⟩ (by simp) rfl 76 rfl
              have g78 : LV tc (a'.eval (.tmp 78)) W := hG ⟨3, .data⟩ (by simp) rfl 78 rfl
              have g79 : LV ((1, []) : ML) (a'.eval (.tmp 79)) W := hG ⟨4, .data⟩ (by simp) rfl 79 rfl
              have g80 : LV ((4, []) : ML) (a'.eval (.tmp 80)) W := hG ⟨5, .data⟩ (by simp) rfl 80 rfl
              have g82 : LV t (a'.eval (.tmp 82)) W := hG ⟨7, .data⟩ (by simp) rfl 82 rfl
              have g84 : LV tc (a'.eval (.tmp 84)) W := hG ⟨9, .data⟩ (by simp) rfl 84 rfl
              exact .inr ⟨rfl, .inr ⟨_, _, run_call rfl map_6 ent_passage_Enter, Enter_c g76 g78 g79 g80 g82 g84⟩⟩
            | j + 11, ho => simp at ho
          · intro a' W hB hs hdf hk hG
            obtain ⟨tm, df⟩ := a'
            obtain rfl : df = [] := hdf
            have e0 : tm.getD 0 undef = .agg #[.int .i64 t.fst, .slice pt t.snd.length ct, .int .i64 tc.fst, .slice ptc tc.snd.length ctc] := hk 0 (by kernel_rfl)
            have e1 : tm.getD 1 undef = .agg #[.int .i64 mid.fst, .slice pmid mid.snd.length cmid] := hk 1 (by kernel_rfl)
            have e2 : tm.getD 2 undef = .agg #[.int .i64 want.fst, .slice pwant want.snd.length cwant] := hk 2 (by kernel_rfl)
            have e3 : tm.getD 3 undef = .pointer (some ⟨w.heap.size, 0, none⟩) := hk 3 (by kernel_rfl)
            have e4 : tm.getD 4 undef = .pointer (some ⟨w.heap.size + 1, 0, none⟩) := hk 4 (by kernel_rfl)
            have e5 : tm.getD 5 undef = .pointer (some ⟨w.heap.size + 1 + 1, 0, none⟩) := hk 5 (by kernel_rfl)
            have e6 : tm.getD 6 undef = .bool false := hk 6 (by kernel_rfl)
            have e7 : tm.getD 7 undef = .pointer (some ⟨nq, 0, none⟩) := hk 7 (by kernel_rfl)
            have e8 : tm.getD 8 undef = .pointer (some ⟨nq + 1, 0, none⟩) := hk 8 (by kernel_rfl)
            have e9 : tm.getD 9 undef = undef := hk 9 (by kernel_rfl)
            have e10 : tm.getD 10 undef = undef := hk 10 (by kernel_rfl)
            have e11 : tm.getD 11 undef = .bool true := hk 11 (by kernel_rfl)
            have e12 : tm.getD 12 undef = .bool false := hk 12 (by kernel_rfl)
            have e13 : tm.getD 13 undef = .pointer (some ⟨w.heap.size, 2, none⟩) := hk 13 (by kernel_rfl)
            have e14 : tm.getD 14 undef = t14 := hk 14 (by kernel_rfl)
            have e15 : tm.getD 15 undef = t15 := hk 15 (by kernel_rfl)
            have e16 : tm.getD 16 undef = .bool ([tc].all rightM) := hk 16 (by kernel_rfl)
            have e17 : tm.getD 17 undef = .bool ![tc].all rightM := hk 17 (by kernel_rfl)
            have e18 : tm.getD 18 undef = .bool ![tc].all rightM := hk 18 (by kernel_rfl)
            have e19 : tm.getD 19 undef = t19 := hk 19 (by kernel_rfl)
            have e20 : tm.getD 20 undef = t20 := hk 20 (by kernel_rfl)
            have e21 : tm.getD 21 undef = t21 := hk 21 (by kernel_rfl)
            have e22 : tm.getD 22 undef = t22 := hk 22 (by kernel_rfl)
            have e23 : tm.getD 23 undef = .bool (![tc].all rightM || !plainS t.fst t.snd) := hk 23 (by kernel_rfl)
            have e24 : tm.getD 24 undef = .bool (![tc].all rightM || !plainS t.fst t.snd) := hk 24 (by kernel_rfl)
            have e25 : tm.getD 25 undef = t25 := hk 25 (by kernel_rfl)
            have e26 : tm.getD 26 undef = t26 := hk 26 (by kernel_rfl)
            have e27 : tm.getD 27 undef = t27 := hk 27 (by kernel_rfl)
            have e28 : tm.getD 28 undef = .bool (![tc].all rightM || !plainS t.fst t.snd || !plainS mid.fst mid.snd) := hk 28 (by kernel_rfl)
            have e29 : tm.getD 29 undef = .bool (![tc].all rightM || !plainS t.fst t.snd || !plainS mid.fst mid.snd) := hk 29 (by kernel_rfl)
            have e30 : tm.getD 30 undef = t30 := hk 30 (by kernel_rfl)
            have e31 : tm.getD 31 undef = t31 := hk 31 (by kernel_rfl)
            have e32 : tm.getD 32 undef = t32 := hk 32 (by kernel_rfl)
            have e33 : tm.getD 33 undef = .bool (![tc].all rightM || !plainS t.fst t.snd || !plainS mid.fst mid.snd || !plainS want.fst want.snd) := hk 33 (by kernel_rfl)
            have e34 : tm.getD 34 undef = .bool (![tc].all rightM || !plainS t.fst t.snd || !plainS mid.fst mid.snd || !plainS want.fst want.snd) := hk 34 (by kernel_rfl)
            have e35 : tm.getD 35 undef = t35 := hk 35 (by kernel_rfl)
            have e36 : tm.getD 36 undef = t36 := hk 36 (by kernel_rfl)
            have e37 : tm.getD 37 undef = t37 := hk 37 (by kernel_rfl)
            have e38 : tm.getD 38 undef = t38 := hk 38 (by kernel_rfl)
            have e39 : tm.getD 39 undef = .bool false := hk 39 (by kernel_rfl)
            have e40 : tm.getD 40 undef = .pointer (some ⟨w.heap.size, 0, none⟩) := hk 40 (by kernel_rfl)
            have e41 : tm.getD 41 undef = t41 := hk 41 (by kernel_rfl)
            have e42 : tm.getD 42 undef = .pointer (some ⟨w.heap.size, 2, none⟩) := hk 42 (by kernel_rfl)
            have e43 : tm.getD 43 undef = t43 := hk 43 (by kernel_rfl)
            have e44 : tm.getD 44 undef = t44 := hk 44 (by kernel_rfl)
            have e45 : tm.getD 45 undef = .int .i64 (riseI t tc want) := hk 45 (by kernel_rfl)
            have e46 : tm.getD 46 undef = .bool (riseI t tc want == 0) := hk 46 (by kernel_rfl)
            have e47 : tm.getD 47 undef = .bool (riseI t tc want == 0) := hk 47 (by kernel_rfl)
            have e48 : tm.getD 48 undef = t48 := hk 48 (by kernel_rfl)
            have e49 : tm.getD 49 undef = t49 := hk 49 (by kernel_rfl)
            have e50 : tm.getD 50 undef = t50 := hk 50 (by kernel_rfl)
            have e51 : tm.getD 51 undef = t51 := hk 51 (by kernel_rfl)
            have e52 : tm.getD 52 undef = .bool (riseI t tc want == 0 && rleM t mid) := hk 52 (by kernel_rfl)
            have e53 : tm.getD 53 undef = .bool (riseI t tc want == 0 && rleM t mid) := hk 53 (by kernel_rfl)
            have e54 : tm.getD 54 undef = t54 := hk 54 (by kernel_rfl)
            have e55 : tm.getD 55 undef = t55 := hk 55 (by kernel_rfl)
            have e56 : tm.getD 56 undef = t56 := hk 56 (by kernel_rfl)
            have e57 : tm.getD 57 undef = .bool false := hk 57 (by kernel_rfl)
            have e58 : tm.getD 58 undef = undef := hk 58 (by kernel_rfl)
            have e59 : tm.getD 59 undef = undef := hk 59 (by kernel_rfl)
            have e60 : tm.getD 60 undef = undef := hk 60 (by kernel_rfl)
            have e61 : tm.getD 61 undef = undef := hk 61 (by kernel_rfl)
            have e62 : tm.getD 62 undef = undef := hk 62 (by kernel_rfl)
            have e63 : tm.getD 63 undef = undef := hk 63 (by kernel_rfl)
            have e64 : tm.getD 64 undef = undef := hk 64 (by kernel_rfl)
            have e65 : tm.getD 65 undef = undef := hk 65 (by kernel_rfl)
            have e66 : tm.getD 66 undef = undef := hk 66 (by kernel_rfl)
            have e67 : tm.getD 67 undef = undef := hk 67 (by kernel_rfl)
            have e68 : tm.getD 68 undef = undef := hk 68 (by kernel_rfl)
            have e69 : tm.getD 69 undef = undef := hk 69 (by kernel_rfl)
            have e70 : tm.getD 70 undef = undef := hk 70 (by kernel_rfl)
            have e71 : tm.getD 71 undef = undef := hk 71 (by kernel_rfl)
            have e72 : tm.getD 72 undef = undef := hk 72 (by kernel_rfl)
            have e73 : tm.getD 73 undef = .agg #[.int .i64 1, .slice none 0 0] := hk 73 (by kernel_rfl)
            have e74 : tm.getD 74 undef = .agg #[.int .i64 4, .slice none 0 0] := hk 74 (by kernel_rfl)
            have e86 : tm.getD 86 undef = undef := hk 86 (by kernel_rfl)
            have e87 : tm.getD 87 undef = undef := hk 87 (by kernel_rfl)
            have e88 : tm.getD 88 undef = undef := hk 88 (by kernel_rfl)
            have e89 : tm.getD 89 undef = undef := hk 89 (by kernel_rfl)
            have e90 : tm.getD 90 undef = undef := hk 90 (by kernel_rfl)
            have e91 : tm.getD 91 undef = undef := hk 91 (by kernel_rfl)
            have e92 : tm.getD 92 undef = undef := hk 92 (by kernel_rfl)
            have e93 : tm.getD 93 undef = undef := hk 93 (by kernel_rfl)
            have e94 : tm.getD 94 undef = undef := hk 94 (by kernel_rfl)
            have e95 : tm.getD 95 undef = undef := hk 95 (by kernel_rfl)
            have e96 : tm.getD 96 undef = undef := hk 96 (by kernel_rfl)
            have e97 : tm.getD 97 undef = undef := hk 97 (by kernel_rfl)
            have e98 : tm.getD 98 undef = undef := hk 98 (by kernel_rfl)
            have e99 : tm.getD 99 undef = undef := hk 99 (by kernel_rfl)
            have e100 : tm.getD 100 undef = undef := hk 100 (by kernel_rfl)
            have e101 : tm.getD 101 undef = undef := hk 101 (by kernel_rfl)
            have g75 : (tm.getD 75 undef) = .pointer (some ⟨w.heap.size, 0, none⟩) := hG 0 75 (by decide) rfl
            have g76 : LV t (tm.getD 76 undef) W := hG 1 76 (by decide) rfl
            have g77 : (tm.getD 77 undef) = .pointer (some ⟨w.heap.size, 2, none⟩) := hG 2 77 (by decide) rfl
            have g78 : LV tc (tm.getD 78 undef) W := hG 3 78 (by decide) rfl
            have g79 : LV ((1, []) : ML) (tm.getD 79 undef) W := hG 4 79 (by decide) rfl
            have g80 : LV ((4, []) : ML) (tm.getD 80 undef) W := hG 5 80 (by decide) rfl
            have g81 : (tm.getD 81 undef) = .pointer (some ⟨w.heap.size, 0, none⟩) := hG 6 81 (by decide) rfl
            have g82 : LV t (tm.getD 82 undef) W := hG 7 82 (by decide) rfl
            have g83 : (tm.getD 83 undef) = .pointer (some ⟨w.heap.size, 2, none⟩) := hG 8 83 (by decide) rfl
            have g84 : LV tc (tm.getD 84 undef) W := hG 9 84 (by decide) rfl
            have g85 : (tm.getD 85 undef) = .int .i64 (enterI t tc ((1, []) : ML) ((4, []) : ML) t tc) := hG 10 85 (by decide) rfl
            have htm := arr_of tm ((.agg #[.int .i64 t.fst, .slice pt t.snd.length ct, .int .i64 tc.fst, .slice ptc tc.snd.length ctc] : Value) :: (.agg #[.int .i64 mid.fst, .slice pmid mid.snd.length cmid] : Value) :: (.agg #[.int .i64 want.fst, .slice pwant want.snd.length cwant] : Value) :: (.pointer (some ⟨w.heap.size, 0, none⟩) : Value) :: (.pointer (some ⟨w.heap.size + 1, 0, none⟩) : Value) :: (.pointer (some ⟨w.heap.size + 1 + 1, 0, none⟩) : Value) :: (.bool false : Value) :: (.pointer (some ⟨nq, 0, none⟩) : Value) :: (.pointer (some ⟨nq + 1, 0, none⟩) : Value) :: (undef : Value) :: (undef : Value) :: (.bool true : Value) :: (.bool false : Value) :: (.pointer (some ⟨w.heap.size, 2, none⟩) : Value) :: (t14 : Value) :: (t15 : Value) :: (.bool ([tc].all rightM) : Value) :: (.bool ![tc].all rightM : Value) :: (.bool ![tc].all rightM : Value) :: (t19 : Value) :: (t20 : Value) :: (t21 : Value) :: (t22 : Value) :: (.bool (![tc].all rightM || !plainS t.fst t.snd) : Value) :: (.bool (![tc].all rightM || !plainS t.fst t.snd) : Value) :: (t25 : Value) :: (t26 : Value) :: (t27 : Value) :: (.bool (![tc].all rightM || !plainS t.fst t.snd || !plainS mid.fst mid.snd) : Value) :: (.bool (![tc].all rightM || !plainS t.fst t.snd || !plainS mid.fst mid.snd) : Value) :: (t30 : Value) :: (t31 : Value) :: (t32 : Value) :: (.bool (![tc].all rightM || !plainS t.fst t.snd || !plainS mid.fst mid.snd || !plainS want.fst want.snd) : Value) :: (.bool (![tc].all rightM || !plainS t.fst t.snd || !plainS mid.fst mid.snd || !plainS want.fst want.snd) : Value) :: (t35 : Value) :: (t36 : Value) :: (t37 : Value) :: (t38 : Value) :: (.bool false : Value) :: (.pointer (some ⟨w.heap.size, 0, none⟩) : Value) :: (t41 : Value) :: (.pointer (some ⟨w.heap.size, 2, none⟩) : Value) :: (t43 : Value) :: (t44 : Value) :: (.int .i64 (riseI t tc want) : Value) :: (.bool (riseI t tc want == 0) : Value) :: (.bool (riseI t tc want == 0) : Value) :: (t48 : Value) :: (t49 : Value) :: (t50 : Value) :: (t51 : Value) :: (.bool (riseI t tc want == 0 && rleM t mid) : Value) :: (.bool (riseI t tc want == 0 && rleM t mid) : Value) :: (t54 : Value) :: (t55 : Value) :: (t56 : Value) :: (.bool false : Value) :: (undef : Value) :: (undef : Value) :: (undef : Value) :: (undef : Value) :: (undef : Value) :: (undef : Value) :: (undef : Value) :: (undef : Value) :: (undef : Value) :: (undef : Value) :: (undef : Value) :: (undef : Value) :: (undef : Value) :: (undef : Value) :: (undef : Value) :: (.agg #[.int .i64 1, .slice none 0 0] : Value) :: (.agg #[.int .i64 4, .slice none 0 0] : Value) :: (tm.getD 75 undef : Value) :: (tm.getD 76 undef : Value) :: (tm.getD 77 undef : Value) :: (tm.getD 78 undef : Value) :: (tm.getD 79 undef : Value) :: (tm.getD 80 undef : Value) :: (tm.getD 81 undef : Value) :: (tm.getD 82 undef : Value) :: (tm.getD 83 undef : Value) :: (tm.getD 84 undef : Value) :: (tm.getD 85 undef : Value) :: (undef : Value) :: (undef : Value) :: (undef : Value) :: (undef : Value) :: (undef : Value) :: (undef : Value) :: (undef : Value) :: (undef : Value) :: (undef : Value) :: (undef : Value) :: (undef : Value) :: (undef : Value) :: (undef : Value) :: (undef : Value) :: (undef : Value) :: (undef : Value) :: []) hs (by show (tm.getD 0 undef :: tm.getD 1 undef :: tm.getD 2 undef :: tm.getD 3 undef :: tm.getD 4 undef :: tm.getD 5 undef :: tm.getD 6 undef :: tm.getD 7 undef :: tm.getD 8 undef :: tm.getD 9 undef :: tm.getD 10 undef :: tm.getD 11 undef :: tm.getD 12 undef :: tm.getD 13 undef :: tm.getD 14 undef :: tm.getD 15 undef :: tm.getD 16 undef :: tm.getD 17 undef :: tm.getD 18 undef :: tm.getD 19 undef :: tm.getD 20 undef :: tm.getD 21 undef :: tm.getD 22 undef :: tm.getD 23 undef :: tm.getD 24 undef :: tm.getD 25 undef :: tm.getD 26 undef :: tm.getD 27 undef :: tm.getD 28 undef :: tm.getD 29 undef :: tm.getD 30 undef :: tm.getD 31 undef :: tm.getD 32 undef :: tm.getD 33 undef :: tm.getD 34 undef :: tm.getD 35 undef :: tm.getD 36 undef :: tm.getD 37 undef :: tm.getD 38 undef :: tm.getD 39 undef :: tm.getD 40 undef :: tm.getD 41 undef :: tm.getD 42 undef :: tm.getD 43 undef :: tm.getD 44 undef :: tm.getD 45 undef :: tm.getD 46 undef :: tm.getD 47 undef :: tm.getD 48 undef :: tm.getD 49 undef :: tm.getD 50 undef :: tm.getD 51 undef :: tm.getD 52 undef :: tm.getD 53 undef :: tm.getD 54 undef :: tm.getD 55 undef :: tm.getD 56 undef :: tm.getD 57 undef :: tm.getD 58 undef :: tm.getD 59 undef :: tm.getD 60 undef :: tm.getD 61 undef :: tm.getD 62 undef :: tm.getD 63 undef :: tm.getD 64 undef :: tm.getD 65 undef :: tm.getD 66 undef :: tm.getD 67 undef :: tm.getD 68 undef :: tm.getD 69 undef :: tm.getD 70 undef :: tm.getD 71 undef :: tm.getD 72 undef :: tm.getD 73 undef :: tm.getD 74 undef :: tm.getD 75 undef :: tm.getD 76 undef :: tm.getD 77 undef :: tm.getD 78 undef :: tm.getD 79 undef :: tm.getD 80 undef :: tm.getD 81 undef :: tm.getD 82 undef :: tm.getD 83 undef :: tm.getD 84 undef :: tm.getD 85 undef :: tm.getD 86 undef :: tm.getD 87 undef :: tm.getD 88 undef :: tm.getD 89 undef :: tm.getD 90 undef :: tm.getD 91 undef :: tm.getD 92 undef :: tm.getD 93 undef :: tm.getD 94 undef :: tm.getD 95 undef :: tm.getD 96 undef :: tm.getD 97 undef :: tm.getD 98 undef :: tm.getD 99 undef :: tm.getD 100 undef :: tm.getD 101 undef :: []) = _; rw [e0, e1, e2, e3, e4, e5, e6, e7, e8, e9, e10, e11, e12, e13, e14, e15, e16, e17, e18, e19, e20, e21, e22, e23, e24, e25, e26, e27, e28, e29, e30, e31, e32, e33, e34, e35, e36, e37, e38, e39, e40, e41, e42, e43, e44, e45, e46, e47, e48, e49, e50, e51, e52, e53, e54, e55, e56, e57, e58, e59, e60, e61, e62, e63, e64, e65, e66, e67, e68, e69, e70, e71, e72, e73, e74, e86, e87, e88, e89, e90, e91, e92, e93, e94, e95, e96, e97, e98, e99, e100, e101]; try rfl)
            clear hs hk hG e0 e1 e2 e3 e4 e5 e6 e7 e8 e9 e10 e11 e12 e13 e14 e15 e16 e17 e18 e19 e20 e21 e22 e23 e24 e25 e26 e27 e28 e29 e30 e31 e32 e33 e34 e35 e36 e37 e38 e39 e40 e41 e42 e43 e44 e45 e46 e47 e48 e49 e50 e51 e52 e53 e54 e55 e56 e57 e58 e59 e60 e61 e62 e63 e64 e65 e66 e67 e68 e69 e70 e71 e72 e73 e74 e86 e87 e88 e89 e90 e91 e92 e93 e94 e95 e96 e97 e98 e99 e100 e101
            generalize tm.getD 75 undef = t75 at htm g75
            generalize tm.getD 76 undef = t76 at htm g76
            generalize tm.getD 77 undef = t77 at htm g77
            generalize tm.getD 78 undef = t78 at htm g78
            generalize tm.getD 79 undef = t79 at htm g79
            generalize tm.getD 80 undef = t80 at htm g80
            generalize tm.getD 81 undef = t81 at htm g81
            generalize tm.getD 82 undef = t82 at htm g82
            generalize tm.getD 83 undef = t83 at htm g83
            generalize tm.getD 84 undef = t84 at htm g84
            generalize tm.getD 85 undef = t85 at htm g85
            subst htm
            subst g75
            subst g77
            subst g81
            subst g83
            subst g85
            simp only [List.drop_succ_cons, List.drop_zero]
            have hAR : Below w.heap.size w W := hAQ.trans (hB.mono hAQ.size)
            have hRt := hQt.below hB
            have hRtc := hQtc.below hB
            have hRmid := hQmid.below hB
            have hRwant := hQwant.below hB
            have hRN7 := hQ7.below hB
            have hRN8 := hQ8.below hB
            clear g76 g78 g79 g80 g82 g84 hQt hQtc hQmid hQwant hB hAQ
            clear hQ7 hQ8
            go_wp2_with fail
            refine wp_region_mono 12 (fun kq v W => match kq with | 86 => v = .pointer (some ⟨w.heap.size, 0, none⟩) | 87 => LV t v W | 88 => v = .pointer (some ⟨w.heap.size, 2, none⟩) | 89 => LV tc v W | 90 => v = .bool (rleM t tc) | 91 => v = .bool (rleM t tc) | 92 => ((rleM t tc) = true → LV ((1, []) : ML) v W) | 93 => ((rleM t tc) = true → v = .pointer (some ⟨w.heap.size, 0, none⟩)) | 94 => ((rleM t tc) = true → LV t v W) | 95 => ((rleM t tc) = true → LV (upM t) v W) | 96 => ((rleM t tc) = true → v = .bool (rleM ((1, []) : ML) (upM t))) | 97 => v = .bool ((rleM t tc) && (rleM ((1, []) : ML) (upM t))) | _ => True) (by kernel_rfl) (by kernel_rfl) (by kernel_rfl) (by kernel_rfl) (by simp) (by kernel_rfl) ?_ ?_ ?_
            · intro kq v W W' h hb
              revert h
              try dsimp only
              split
              · intro h; exact h
              · intro h; exact LV.below h hb
              · intro h; exact h
              · intro h; exact LV.below h hb
              · intro h; exact h
              · intro h; exact h
              · intro h' e; have h := h' e; exact LV.below h hb
              · intro h' e; have h := h' e; exact h
              · intro h' e; have h := h' e; exact LV.below h hb
              · intro h' e; have h := h' e; exact LV.below h hb
              · intro h' e; have h := h' e; exact h
              · intro h; exact h
              · intro h; trivial
            · intro a' W hB hs hk i o d ho hd hG
              match i, ho with
              | 0, ho =>
                obtain rfl : _ = o := Option.some.inj ho
                obtain rfl : 86 = d := Option.some.inj hd
                exact .inr ⟨rfl, .inl ⟨_, W, run_fa0 (hk 3 (by kernel_rfl)), Below.refl _ _, rfl⟩⟩
              | 1, ho =>
                obtain rfl : _ = o := Option.some.inj ho
                obtain rfl : 87 = d := Option.some.inj hd
                have g86 : (a'.eval (.tmp 86)) = .pointer (some ⟨w.heap.size, 0, none⟩) := hG ⟨0, .data⟩ (by simp) rfl 86 rfl
                obtain ⟨v, hr, hv⟩ := run_loadL (ev := a'.eval) (W := W) g86 (hRt.below hB)
                exact .inr ⟨rfl, .inl ⟨v, W, hr, Below.refl _ _, hv⟩⟩
              | 2, ho =>
                obtain rfl : _ = o := Option.some.inj ho
                obtain rfl : 88 = d := Option.some.inj hd
                exact .inr ⟨rfl, .inl ⟨_, W, run_fa1 (hk 3 (by kernel_rfl)), Below.refl _ _, rfl⟩⟩
              | 3, ho =>
                obtain rfl : _ = o := Option.some.inj ho
                obtain rfl : 89 = d := Option.some.inj hd
                have g88 : (a'.eval (.tmp 88)) = .pointer (some ⟨w.heap.size, 2, none⟩) := hG ⟨2, .data⟩ (by simp) rfl 88 rfl
                obtain ⟨v, hr, hv⟩ := run_loadL (ev := a'.eval) (W := W) g88 (hRtc.below hB)
                exact .inr ⟨rfl, .inl ⟨v, W, hr, Below.refl _ _, hv⟩⟩
              | 4, ho =>
                obtain rfl : _ = o := Option.some.inj ho
                obtain rfl : 90 = d := Option.some.inj hd
                have g87 : LV t (a'.eval (.tmp 87)) W := hG ⟨1, .data⟩ (by simp) rfl 87 rfl
                have g89 : LV tc (a'.eval (.tmp 89)) W := hG ⟨3, .data⟩ (by simp) rfl 89 rfl
                exact .inr ⟨rfl, .inr ⟨_, _, run_call rfl map_2 ent_gatehouseref01_Leq, rLeq_c g87 g89⟩⟩
              | 5, ho =>
                obtain rfl : _ = o := Option.some.inj ho
                obtain rfl : 91 = d := Option.some.inj hd
                have g90 : (a'.eval (.tmp 90)) = .bool (rleM t tc) := hG ⟨4, .data⟩ (by simp) rfl 90 rfl
                exact .inr ⟨rfl, .inl ⟨_, W, run_move rfl, Below.refl _ _, g90⟩⟩
              | 6, ho =>
                obtain rfl : _ = o := Option.some.inj ho
                obtain rfl : 92 = d := Option.some.inj hd
                have gg : a'.eval (.tmp 91) = .bool (rleM t tc) := hG ⟨5, .guard⟩ (by simp) rfl 91 rfl
                by_cases hgc_ : (rleM t tc) = true
                · obtain ⟨v, hr, hv⟩ := run_loadL (ev := a'.eval) (W := W) (hk 7 (by kernel_rfl)) (hRN7.below hB)
                  exact .inr ⟨want_yes (n := 102) (d := 91) rfl hs (by decide) rfl (gg.trans (by rw [hgc_])), .inl ⟨v, W, hr, Below.refl _ _, fun _ => hv⟩⟩
                · exact .inl ⟨want_no (n := 102) (d := 91) rfl hs (by decide) rfl gg hgc_, fun e => absurd e hgc_⟩
              | 7, ho =>
                obtain rfl : _ = o := Option.some.inj ho
                obtain rfl : 93 = d := Option.some.inj hd
                have gg : a'.eval (.tmp 91) = .bool (rleM t tc) := hG ⟨5, .guard⟩ (by simp) rfl 91 rfl
                by_cases hgc_ : (rleM t tc) = true
                · exact .inr ⟨want_yes (n := 102) (d := 91) rfl hs (by decide) rfl (gg.trans (by rw [hgc_])), .inl ⟨_, W, run_fa0 (hk 3 (by kernel_rfl)), Below.refl _ _, fun _ => rfl⟩⟩
                · exact .inl ⟨want_no (n := 102) (d := 91) rfl hs (by decide) rfl gg hgc_, fun e => absurd e hgc_⟩
              | 8, ho =>
                obtain rfl : _ = o := Option.some.inj ho
                obtain rfl : 94 = d := Option.some.inj hd
                have gg : a'.eval (.tmp 91) = .bool (rleM t tc) := hG ⟨5, .guard⟩ (by simp) rfl 91 rfl
                by_cases hgc_ : (rleM t tc) = true
                · have g93 : (a'.eval (.tmp 93)) = .pointer (some ⟨w.heap.size, 0, none⟩) := hG ⟨7, .data⟩ (by simp) rfl 93 rfl hgc_
                  obtain ⟨v, hr, hv⟩ := run_loadL (ev := a'.eval) (W := W) g93 (hRt.below hB)
                  exact .inr ⟨want_yes (n := 102) (d := 91) rfl hs (by decide) rfl (gg.trans (by rw [hgc_])), .inl ⟨v, W, hr, Below.refl _ _, fun _ => hv⟩⟩
                · exact .inl ⟨want_no (n := 102) (d := 91) rfl hs (by decide) rfl gg hgc_, fun e => absurd e hgc_⟩
              | 9, ho =>
                obtain rfl : _ = o := Option.some.inj ho
                obtain rfl : 95 = d := Option.some.inj hd
                have gg : a'.eval (.tmp 91) = .bool (rleM t tc) := hG ⟨5, .guard⟩ (by simp) rfl 91 rfl
                by_cases hgc_ : (rleM t tc) = true
                · have g94 : LV t (a'.eval (.tmp 94)) W := hG ⟨8, .data⟩ (by simp) rfl 94 rfl hgc_
                  exact .inr ⟨want_yes (n := 102) (d := 91) rfl hs (by decide) rfl (gg.trans (by rw [hgc_])), .inr ⟨_, _, run_call rfl map_1 ent_gatehouseref01_Up, (rUp_c g94).mono (fun e W' ⟨v, he, hb, hv⟩ => ⟨v, he, hb, fun _ => hv⟩)⟩⟩
                · exact .inl ⟨want_no (n := 102) (d := 91) rfl hs (by decide) rfl gg hgc_, fun e => absurd e hgc_⟩
              | 10, ho =>
                obtain rfl : _ = o := Option.some.inj ho
                obtain rfl : 96 = d := Option.some.inj hd
                have gg : a'.eval (.tmp 91) = .bool (rleM t tc) := hG ⟨5, .guard⟩ (by simp) rfl 91 rfl
                by_cases hgc_ : (rleM t tc) = true
                · have g92 : LV ((1, []) : ML) (a'.eval (.tmp 92)) W := hG ⟨6, .data⟩ (by simp) rfl 92 rfl hgc_
                  have g95 : LV (upM t) (a'.eval (.tmp 95)) W := hG ⟨9, .data⟩ (by simp) rfl 95 rfl hgc_
                  exact .inr ⟨want_yes (n := 102) (d := 91) rfl hs (by decide) rfl (gg.trans (by rw [hgc_])), .inr ⟨_, _, run_call rfl map_2 ent_gatehouseref01_Leq, (rLeq_c g92 g95).mono (fun e W' ⟨v, he, hb, hv⟩ => ⟨v, he, hb, fun _ => hv⟩)⟩⟩
                · exact .inl ⟨want_no (n := 102) (d := 91) rfl hs (by decide) rfl gg hgc_, fun e => absurd e hgc_⟩
              | 11, ho =>
                obtain rfl : _ = o := Option.some.inj ho
                obtain rfl : 97 = d := Option.some.inj hd
                have g91 : (a'.eval (.tmp 91)) = .bool (rleM t tc) := hG ⟨5, .data⟩ (by simp) rfl 91 rfl
                by_cases hq : (rleM t tc) = true
                · exact .inr ⟨rfl, .inl ⟨_, W, run_pick_yes (g91.trans (by rw [hq])) (hG ⟨10, .data⟩ (by simp) rfl 96 rfl hq), Below.refl _ _, by rw [hq]; rfl⟩⟩
                · have hq' : (rleM t tc) = false := by simpa using hq
                  exact .inr ⟨rfl, .inl ⟨_, W, run_pick_no (g91.trans (by rw [hq'])) rfl, Below.refl _ _, by rw [hq']; rfl⟩⟩
              | j + 12, ho => simp at ho
            · intro a' W hB hs hdf hk hG
              obtain ⟨tm, df⟩ := a'
              obtain rfl : df = [] := hdf
              have e0 : tm.getD 0 undef = .agg #[.int .i64 t.fst, .slice pt t.snd.length ct, .int .i64 tc.fst, .slice ptc tc.snd.length ctc] := hk 0 (by kernel_rfl)
              have e1 : tm.getD 1 undef = .agg #[.int .i64 mid.fst, .slice pmid mid.snd.length cmid] := hk 1 (by kernel_rfl)
              have e2 : tm.getD 2 undef = .agg #[.int .i64 want.fst, .slice pwant want.snd.length cwant] := hk 2 (by kernel_rfl)
              have e3 : tm.getD 3 undef = .pointer (some ⟨w.heap.size, 0, none⟩) := hk 3 (by kernel_rfl)
              have e4 : tm.getD 4 undef = .pointer (some ⟨w.heap.size + 1, 0, none⟩) := hk 4 (by kernel_rfl)
              have e5 : tm.getD 5 undef = .pointer (some ⟨w.heap.size + 1 + 1, 0, none⟩) := hk 5 (by kernel_rfl)
              have e6 : tm.getD 6 undef = .bool false := hk 6 (by kernel_rfl)
              have e7 : tm.getD 7 undef = .pointer (some ⟨nq, 0, none⟩) := hk 7 (by kernel_rfl)
              have e8 : tm.getD 8 undef = .pointer (some ⟨nq + 1, 0, none⟩) := hk 8 (by kernel_rfl)
              have e9 : tm.getD 9 undef = .int .i64 (enterI t tc (1, []) (4, []) t tc) := hk 9 (by kernel_rfl)
              have e10 : tm.getD 10 undef = undef := hk 10 (by kernel_rfl)
              have e11 : tm.getD 11 undef = .bool true := hk 11 (by kernel_rfl)
              have e12 : tm.getD 12 undef = .bool false := hk 12 (by kernel_rfl)
              have e13 : tm.getD 13 undef = .pointer (some ⟨w.heap.size, 2, none⟩) := hk 13 (by kernel_rfl)
              have e14 : tm.getD 14 undef = t14 := hk 14 (by kernel_rfl)
              have e15 : tm.getD 15 undef = t15 := hk 15 (by kernel_rfl)
              have e16 : tm.getD 16 undef = .bool ([tc].all rightM) := hk 16 (by kernel_rfl)
              have e17 : tm.getD 17 undef = .bool ![tc].all rightM := hk 17 (by kernel_rfl)
              have e18 : tm.getD 18 undef = .bool ![tc].all rightM := hk 18 (by kernel_rfl)
              have e19 : tm.getD 19 undef = t19 := hk 19 (by kernel_rfl)
              have e20 : tm.getD 20 undef = t20 := hk 20 (by kernel_rfl)
              have e21 : tm.getD 21 undef = t21 := hk 21 (by kernel_rfl)
              have e22 : tm.getD 22 undef = t22 := hk 22 (by kernel_rfl)
              have e23 : tm.getD 23 undef = .bool (![tc].all rightM || !plainS t.fst t.snd) := hk 23 (by kernel_rfl)
              have e24 : tm.getD 24 undef = .bool (![tc].all rightM || !plainS t.fst t.snd) := hk 24 (by kernel_rfl)
              have e25 : tm.getD 25 undef = t25 := hk 25 (by kernel_rfl)
              have e26 : tm.getD 26 undef = t26 := hk 26 (by kernel_rfl)
              have e27 : tm.getD 27 undef = t27 := hk 27 (by kernel_rfl)
              have e28 : tm.getD 28 undef = .bool (![tc].all rightM || !plainS t.fst t.snd || !plainS mid.fst mid.snd) := hk 28 (by kernel_rfl)
              have e29 : tm.getD 29 undef = .bool (![tc].all rightM || !plainS t.fst t.snd || !plainS mid.fst mid.snd) := hk 29 (by kernel_rfl)
              have e30 : tm.getD 30 undef = t30 := hk 30 (by kernel_rfl)
              have e31 : tm.getD 31 undef = t31 := hk 31 (by kernel_rfl)
              have e32 : tm.getD 32 undef = t32 := hk 32 (by kernel_rfl)
              have e33 : tm.getD 33 undef = .bool (![tc].all rightM || !plainS t.fst t.snd || !plainS mid.fst mid.snd || !plainS want.fst want.snd) := hk 33 (by kernel_rfl)
              have e34 : tm.getD 34 undef = .bool (![tc].all rightM || !plainS t.fst t.snd || !plainS mid.fst mid.snd || !plainS want.fst want.snd) := hk 34 (by kernel_rfl)
              have e35 : tm.getD 35 undef = t35 := hk 35 (by kernel_rfl)
              have e36 : tm.getD 36 undef = t36 := hk 36 (by kernel_rfl)
              have e37 : tm.getD 37 undef = t37 := hk 37 (by kernel_rfl)
              have e38 : tm.getD 38 undef = t38 := hk 38 (by kernel_rfl)
              have e39 : tm.getD 39 undef = .bool false := hk 39 (by kernel_rfl)
              have e40 : tm.getD 40 undef = .pointer (some ⟨w.heap.size, 0, none⟩) := hk 40 (by kernel_rfl)
              have e41 : tm.getD 41 undef = t41 := hk 41 (by kernel_rfl)
              have e42 : tm.getD 42 undef = .pointer (some ⟨w.heap.size, 2, none⟩) := hk 42 (by kernel_rfl)
              have e43 : tm.getD 43 undef = t43 := hk 43 (by kernel_rfl)
              have e44 : tm.getD 44 undef = t44 := hk 44 (by kernel_rfl)
              have e45 : tm.getD 45 undef = .int .i64 (riseI t tc want) := hk 45 (by kernel_rfl)
              have e46 : tm.getD 46 undef = .bool (riseI t tc want == 0) := hk 46 (by kernel_rfl)
              have e47 : tm.getD 47 undef = .bool (riseI t tc want == 0) := hk 47 (by kernel_rfl)
              have e48 : tm.getD 48 undef = t48 := hk 48 (by kernel_rfl)
              have e49 : tm.getD 49 undef = t49 := hk 49 (by kernel_rfl)
              have e50 : tm.getD 50 undef = t50 := hk 50 (by kernel_rfl)
              have e51 : tm.getD 51 undef = t51 := hk 51 (by kernel_rfl)
              have e52 : tm.getD 52 undef = .bool (riseI t tc want == 0 && rleM t mid) := hk 52 (by kernel_rfl)
              have e53 : tm.getD 53 undef = .bool (riseI t tc want == 0 && rleM t mid) := hk 53 (by kernel_rfl)
              have e54 : tm.getD 54 undef = t54 := hk 54 (by kernel_rfl)
              have e55 : tm.getD 55 undef = t55 := hk 55 (by kernel_rfl)
              have e56 : tm.getD 56 undef = t56 := hk 56 (by kernel_rfl)
              have e57 : tm.getD 57 undef = .bool false := hk 57 (by kernel_rfl)
              have e58 : tm.getD 58 undef = undef := hk 58 (by kernel_rfl)
              have e59 : tm.getD 59 undef = undef := hk 59 (by kernel_rfl)
              have e60 : tm.getD 60 undef = undef := hk 60 (by kernel_rfl)
              have e61 : tm.getD 61 undef = undef := hk 61 (by kernel_rfl)
              have e62 : tm.getD 62 undef = undef := hk 62 (by kernel_rfl)
              have e63 : tm.getD 63 undef = undef := hk 63 (by kernel_rfl)
              have e64 : tm.getD 64 undef = undef := hk 64 (by kernel_rfl)
              have e65 : tm.getD 65 undef = undef := hk 65 (by kernel_rfl)
              have e66 : tm.getD 66 undef = undef := hk 66 (by kernel_rfl)
              have e67 : tm.getD 67 undef = undef := hk 67 (by kernel_rfl)
              have e68 : tm.getD 68 undef = undef := hk 68 (by kernel_rfl)
              have e69 : tm.getD 69 undef = undef := hk 69 (by kernel_rfl)
              have e70 : tm.getD 70 undef = undef := hk 70 (by kernel_rfl)
              have e71 : tm.getD 71 undef = undef := hk 71 (by kernel_rfl)
              have e72 : tm.getD 72 undef = undef := hk 72 (by kernel_rfl)
              have e73 : tm.getD 73 undef = .agg #[.int .i64 1, .slice none 0 0] := hk 73 (by kernel_rfl)
              have e74 : tm.getD 74 undef = .agg #[.int .i64 4, .slice none 0 0] := hk 74 (by kernel_rfl)
              have e75 : tm.getD 75 undef = .pointer (some ⟨w.heap.size, 0, none⟩) := hk 75 (by kernel_rfl)
              have e76 : tm.getD 76 undef = t76 := hk 76 (by kernel_rfl)
              have e77 : tm.getD 77 undef = .pointer (some ⟨w.heap.size, 2, none⟩) := hk 77 (by kernel_rfl)
              have e78 : tm.getD 78 undef = t78 := hk 78 (by kernel_rfl)
              have e79 : tm.getD 79 undef = t79 := hk 79 (by kernel_rfl)
              have e80 : tm.getD 80 undef = t80 := hk 80 (by kernel_rfl)
              have e81 : tm.getD 81 undef = .pointer (some ⟨w.heap.size, 0, none⟩) := hk 81 (by kernel_rfl)
              have e82 : tm.getD 82 undef = t82 := hk 82 (by kernel_rfl)
              have e83 : tm.getD 83 undef = .pointer (some ⟨w.heap.size, 2, none⟩) := hk 83 (by kernel_rfl)
              have e84 : tm.getD 84 undef = t84 := hk 84 (by kernel_rfl)
              have e85 : tm.getD 85 undef = .int .i64 (enterI t tc (1, []) (4, []) t tc) := hk 85 (by kernel_rfl)
              have e98 : tm.getD 98 undef = undef := hk 98 (by kernel_rfl)
              have e99 : tm.getD 99 undef = undef := hk 99 (by kernel_rfl)
              have e100 : tm.getD 100 undef = undef := hk 100 (by kernel_rfl)
              have e101 : tm.getD 101 undef = undef := hk 101 (by kernel_rfl)
              have g86 : (tm.getD 86 undef) = .pointer (some ⟨w.heap.size, 0, none⟩) := hG 0 86 (by decide) rfl
              have g87 : LV t (tm.getD 87 undef) W := hG 1 87 (by decide) rfl
              have g88 : (tm.getD 88 undef) = .pointer (some ⟨w.heap.size, 2, none⟩) := hG 2 88 (by decide) rfl
              have g89 : LV tc (tm.getD 89 undef) W := hG 3 89 (by decide) rfl
              have g90 : (tm.getD 90 undef) = .bool (rleM t tc) := hG 4 90 (by decide) rfl
              have g91 : (tm.getD 91 undef) = .bool (rleM t tc) := hG 5 91 (by decide) rfl
              have g92 : (rleM t tc) = true → LV ((1, []) : ML) (tm.getD 92 undef) W := hG 6 92 (by decide) rfl
              have g93 : (rleM t tc) = true → (tm.getD 93 undef) = .pointer (some ⟨w.heap.size, 0, none⟩) := hG 7 93 (by decide) rfl
              have g94 : (rleM t tc) = true → LV t (tm.getD 94 undef) W := hG 8 94 (by decide) rfl
              have g95 : (rleM t tc) = true → LV (upM t) (tm.getD 95 undef) W := hG 9 95 (by decide) rfl
              have g96 : (rleM t tc) = true → (tm.getD 96 undef) = .bool (rleM ((1, []) : ML) (upM t)) := hG 10 96 (by decide) rfl
              have g97 : (tm.getD 97 undef) = .bool ((rleM t tc) && (rleM ((1, []) : ML) (upM t))) := hG 11 97 (by decide) rfl
              have htm := arr_of tm ((.agg #[.int .i64 t.fst, .slice pt t.snd.length ct, .int .i64 tc.fst, .slice ptc tc.snd.length ctc] : Value) :: (.agg #[.int .i64 mid.fst, .slice pmid mid.snd.length cmid] : Value) :: (.agg #[.int .i64 want.fst, .slice pwant want.snd.length cwant] : Value) :: (.pointer (some ⟨w.heap.size, 0, none⟩) : Value) :: (.pointer (some ⟨w.heap.size + 1, 0, none⟩) : Value) :: (.pointer (some ⟨w.heap.size + 1 + 1, 0, none⟩) : Value) :: (.bool false : Value) :: (.pointer (some ⟨nq, 0, none⟩) : Value) :: (.pointer (some ⟨nq + 1, 0, none⟩) : Value) :: (.int .i64 (enterI t tc (1, []) (4, []) t tc) : Value) :: (undef : Value) :: (.bool true : Value) :: (.bool false : Value) :: (.pointer (some ⟨w.heap.size, 2, none⟩) : Value) :: (t14 : Value) :: (t15 : Value) :: (.bool ([tc].all rightM) : Value) :: (.bool ![tc].all rightM : Value) :: (.bool ![tc].all rightM : Value) :: (t19 : Value) :: (t20 : Value) :: (t21 : Value) :: (t22 : Value) :: (.bool (![tc].all rightM || !plainS t.fst t.snd) : Value) :: (.bool (![tc].all rightM || !plainS t.fst t.snd) : Value) :: (t25 : Value) :: (t26 : Value) :: (t27 : Value) :: (.bool (![tc].all rightM || !plainS t.fst t.snd || !plainS mid.fst mid.snd) : Value) :: (.bool (![tc].all rightM || !plainS t.fst t.snd || !plainS mid.fst mid.snd) : Value) :: (t30 : Value) :: (t31 : Value) :: (t32 : Value) :: (.bool (![tc].all rightM || !plainS t.fst t.snd || !plainS mid.fst mid.snd || !plainS want.fst want.snd) : Value) :: (.bool (![tc].all rightM || !plainS t.fst t.snd || !plainS mid.fst mid.snd || !plainS want.fst want.snd) : Value) :: (t35 : Value) :: (t36 : Value) :: (t37 : Value) :: (t38 : Value) :: (.bool false : Value) :: (.pointer (some ⟨w.heap.size, 0, none⟩) : Value) :: (t41 : Value) :: (.pointer (some ⟨w.heap.size, 2, none⟩) : Value) :: (t43 : Value) :: (t44 : Value) :: (.int .i64 (riseI t tc want) : Value) :: (.bool (riseI t tc want == 0) : Value) :: (.bool (riseI t tc want == 0) : Value) :: (t48 : Value) :: (t49 : Value) :: (t50 : Value) :: (t51 : Value) :: (.bool (riseI t tc want == 0 && rleM t mid) : Value) :: (.bool (riseI t tc want == 0 && rleM t mid) : Value) :: (t54 : Value) :: (t55 : Value) :: (t56 : Value) :: (.bool false : Value) :: (undef : Value) :: (undef : Value) :: (undef : Value) :: (undef : Value) :: (undef : Value) :: (undef : Value) :: (undef : Value) :: (undef : Value) :: (undef : Value) :: (undef : Value) :: (undef : Value) :: (undef : Value) :: (undef : Value) :: (undef : Value) :: (undef : Value) :: (.agg #[.int .i64 1, .slice none 0 0] : Value) :: (.agg #[.int .i64 4, .slice none 0 0] : Value) :: (.pointer (some ⟨w.heap.size, 0, none⟩) : Value) :: (t76 : Value) :: (.pointer (some ⟨w.heap.size, 2, none⟩) : Value) :: (t78 : Value) :: (t79 : Value) :: (t80 : Value) :: (.pointer (some ⟨w.heap.size, 0, none⟩) : Value) :: (t82 : Value) :: (.pointer (some ⟨w.heap.size, 2, none⟩) : Value) :: (t84 : Value) :: (.int .i64 (enterI t tc (1, []) (4, []) t tc) : Value) :: (tm.getD 86 undef : Value) :: (tm.getD 87 undef : Value) :: (tm.getD 88 undef : Value) :: (tm.getD 89 undef : Value) :: (tm.getD 90 undef : Value) :: (tm.getD 91 undef : Value) :: (tm.getD 92 undef : Value) :: (tm.getD 93 undef : Value) :: (tm.getD 94 undef : Value) :: (tm.getD 95 undef : Value) :: (tm.getD 96 undef : Value) :: (tm.getD 97 undef : Value) :: (undef : Value) :: (undef : Value) :: (undef : Value) :: (undef : Value) :: []) hs (by show (tm.getD 0 undef :: tm.getD 1 undef :: tm.getD 2 undef :: tm.getD 3 undef :: tm.getD 4 undef :: tm.getD 5 undef :: tm.getD 6 undef :: tm.getD 7 undef :: tm.getD 8 undef :: tm.getD 9 undef :: tm.getD 10 undef :: tm.getD 11 undef :: tm.getD 12 undef :: tm.getD 13 undef :: tm.getD 14 undef :: tm.getD 15 undef :: tm.getD 16 undef :: tm.getD 17 undef :: tm.getD 18 undef :: tm.getD 19 undef :: tm.getD 20 undef :: tm.getD 21 undef :: tm.getD 22 undef :: tm.getD 23 undef :: tm.getD 24 undef :: tm.getD 25 undef :: tm.getD 26 undef :: tm.getD 27 undef :: tm.getD 28 undef :: tm.getD 29 undef :: tm.getD 30 undef :: tm.getD 31 undef :: tm.getD 32 undef :: tm.getD 33 undef :: tm.getD 34 undef :: tm.getD 35 undef :: tm.getD 36 undef :: tm.getD 37 undef :: tm.getD 38 undef :: tm.getD 39 undef :: tm.getD 40 undef :: tm.getD 41 undef :: tm.getD 42 undef :: tm.getD 43 undef :: tm.getD 44 undef :: tm.getD 45 undef :: tm.getD 46 undef :: tm.getD 47 undef :: tm.getD 48 undef :: tm.getD 49 undef :: tm.getD 50 undef :: tm.getD 51 undef :: tm.getD 52 undef :: tm.getD 53 undef :: tm.getD 54 undef :: tm.getD 55 undef :: tm.getD 56 undef :: tm.getD 57 undef :: tm.getD 58 undef :: tm.getD 59 undef :: tm.getD 60 undef :: tm.getD 61 undef :: tm.getD 62 undef :: tm.getD 63 undef :: tm.getD 64 undef :: tm.getD 65 undef :: tm.getD 66 undef :: tm.getD 67 undef :: tm.getD 68 undef :: tm.getD 69 undef :: tm.getD 70 undef :: tm.getD 71 undef :: tm.getD 72 undef :: tm.getD 73 undef :: tm.getD 74 undef :: tm.getD 75 undef :: tm.getD 76 undef :: tm.getD 77 undef :: tm.getD 78 undef :: tm.getD 79 undef :: tm.getD 80 undef :: tm.getD 81 undef :: tm.getD 82 undef :: tm.getD 83 undef :: tm.getD 84 undef :: tm.getD 85 undef :: tm.getD 86 undef :: tm.getD 87 undef :: tm.getD 88 undef :: tm.getD 89 undef :: tm.getD 90 undef :: tm.getD 91 undef :: tm.getD 92 undef :: tm.getD 93 undef :: tm.getD 94 undef :: tm.getD 95 undef :: tm.getD 96 undef :: tm.getD 97 undef :: tm.getD 98 undef :: tm.getD 99 undef :: tm.getD 100 undef :: tm.getD 101 undef :: []) = _; rw [e0, e1, e2, e3, e4, e5, e6, e7, e8, e9, e10, e11, e12, e13, e14, e15, e16, e17, e18, e19, e20, e21, e22, e23, e24, e25, e26, e27, e28, e29, e30, e31, e32, e33, e34, e35, e36, e37, e38, e39, e40, e41, e42, e43, e44, e45, e46, e47, e48, e49, e50, e51, e52, e53, e54, e55, e56, e57, e58, e59, e60, e61, e62, e63, e64, e65, e66, e67, e68, e69, e70, e71, e72, e73, e74, e75, e76, e77, e78, e79, e80, e81, e82, e83, e84, e85, e98, e99, e100, e101]; try rfl)
              clear hs hk hG e0 e1 e2 e3 e4 e5 e6 e7 e8 e9 e10 e11 e12 e13 e14 e15 e16 e17 e18 e19 e20 e21 e22 e23 e24 e25 e26 e27 e28 e29 e30 e31 e32 e33 e34 e35 e36 e37 e38 e39 e40 e41 e42 e43 e44 e45 e46 e47 e48 e49 e50 e51 e52 e53 e54 e55 e56 e57 e58 e59 e60 e61 e62 e63 e64 e65 e66 e67 e68 e69 e70 e71 e72 e73 e74 e75 e76 e77 e78 e79 e80 e81 e82 e83 e84 e85 e98 e99 e100 e101
              generalize tm.getD 86 undef = t86 at htm g86
              generalize tm.getD 87 undef = t87 at htm g87
              generalize tm.getD 88 undef = t88 at htm g88
              generalize tm.getD 89 undef = t89 at htm g89
              generalize tm.getD 90 undef = t90 at htm g90
              generalize tm.getD 91 undef = t91 at htm g91
              generalize tm.getD 92 undef = t92 at htm g92
              generalize tm.getD 93 undef = t93 at htm g93
              generalize tm.getD 94 undef = t94 at htm g94
              generalize tm.getD 95 undef = t95 at htm g95
              generalize tm.getD 96 undef = t96 at htm g96
              generalize tm.getD 97 undef = t97 at htm g97
              subst htm
              subst g86
              subst g88
              subst g90
              subst g91
              subst g97
              simp only [List.drop_succ_cons, List.drop_zero]
              have hAS : Below w.heap.size w W := hAR.trans (hB.mono hAR.size)
              have hSt := hRt.below hB
              have hStc := hRtc.below hB
              have hSmid := hRmid.below hB
              have hSwant := hRwant.below hB
              have hSN7 := hRN7.below hB
              have hSN8 := hRN8.below hB
              clear g87 g89 g92 g93 g94 g95 g96 hRt hRtc hRmid hRwant hB hAR
              have HV := HS.out
              obtain ⟨ea, hea⟩ : ∃ ea, enterI t tc ((1, []) : ML) ((4, []) : ML) t tc = ea := ⟨_, rfl⟩
              obtain ⟨eb, heb⟩ : ∃ eb, (rleM t tc && rleM ((1, []) : ML) (upM t)) = eb := ⟨_, rfl⟩
              rw [hea, heb] at HV
              simp only [hea, heb]
              clear hea heb HS HM hRN7 hRN8 hSN7 hSN8 hSt hStc hSmid hSwant
              have HV2 : ((ea == 0) == eb) = true := HV
              cases eb with
              | true =>
                have hz : (ea == 0) = true := by simpa using HV2
                go_wp2
                go_ret
                first | exact ⟨rfl, hAS⟩ | exact ⟨by simp [hz], hAS⟩ | exact hAS
              | false =>
                have hz : (ea == 0) = false := by simpa using HV2
                go_wp2
                go_ret
                first | exact ⟨rfl, hAS⟩ | exact ⟨by simp [hz], hAS⟩ | exact hAS
        | true =>
          have HN := Lib.hid (HM.out hy)
          clear hy
          go_upto_region 6 with fail
          refine wp_region_monoF 15 (fun kq v W => match kq with | 58 => v = .pointer (some ⟨w.heap.size, 0, none⟩) | 59 => LV t v W | 60 => v = .pointer (some ⟨w.heap.size, 2, none⟩) | 61 => LV tc v W | 62 => LV mid v W | 63 => v = .int .i64 (riseI t tc mid) | 64 => v = .bool ((riseI t tc mid) != 0) | 65 => v = .bool ((riseI t tc mid) != 0) | 66 => (((riseI t tc mid) != 0) = false → LV mid v W) | 67 => (((riseI t tc mid) != 0) = false → v = .pointer (some ⟨w.heap.size, 2, none⟩)) | 68 => (((riseI t tc mid) != 0) = false → LV tc v W) | 69 => (((riseI t tc mid) != 0) = false → LV want v W) | 70 => (((riseI t tc mid) != 0) = false → v = .int .i64 (riseI mid tc want)) | 71 => (((riseI t tc mid) != 0) = false → v = .bool ((riseI mid tc want) != 0)) | 72 => v = .bool (((riseI t tc mid) != 0) || ((riseI mid tc want) != 0)) | _ => True) (by kernel_rfl) (by kernel_rfl) (by simp) ?_ ?_ ?_
          · intro kq v W W' h hb
            revert h
            try dsimp only
            split
            · intro h; exact h
            · intro h; exact LV.below h hb
            · intro h; exact h
            · intro h; exact LV.below h hb
            · intro h; exact LV.below h hb
            · intro h; exact h
            · intro h; exact h
            · intro h; exact h
            · intro h' e; have h := h' e; exact LV.below h hb
            · intro h' e; have h := h' e; exact h
            · intro h' e; have h := h' e; exact LV.below h hb
            · intro h' e; have h := h' e; exact LV.below h hb
            · intro h' e; have h := h' e; exact h
            · intro h' e; have h := h' e; exact h
            · intro h; exact h
            · intro h; trivial
          · intro a' W hB hs hk i o d ho hd hG
            match i, ho with
            | 0, ho =>
              obtain rfl : _ = o := Option.some.inj ho
              obtain rfl : 58 = d := Option.some.inj hd
              exact .inr ⟨rfl, .inl ⟨_, W, run_fa0 (hk 3 (by kernel_rfl)), Below.refl _ _, rfl⟩⟩
            | 1, ho =>
              obtain rfl : _ = o := Option.some.inj ho
              obtain rfl : 59 = d := Option.some.inj hd
              have g58 : (a'.eval (.tmp 58)) = .pointer (some ⟨w.heap.size, 0, none⟩) := hG ⟨0, .data⟩ (by simp) rfl 58 rfl
              obtain ⟨v, hr, hv⟩ := run_loadL (ev := a'.eval) (W := W) g58 (hft.below hB)
              exact .inr ⟨rfl, .inl ⟨v, W, hr, Below.refl _ _, hv⟩⟩
            | 2, ho =>
              obtain rfl : _ = o := Option.some.inj ho
              obtain rfl : 60 = d := Option.some.inj hd
              exact .inr ⟨rfl, .inl ⟨_, W, run_fa1 (hk 3 (by kernel_rfl)), Below.refl _ _, rfl⟩⟩
            | 3, ho =>
              obtain rfl : _ = o := Option.some.inj ho
              obtain rfl : 61 = d := Option.some.inj hd
              have g60 : (a'.eval (.tmp 60)) = .pointer (some ⟨w.heap.size, 2, none⟩) := hG ⟨2, .data⟩ (by simp) rfl 60 rfl
              obtain ⟨v, hr, hv⟩ := run_loadL (ev := a'.eval) (W := W) g60 (hftc.below hB)
              exact .inr ⟨rfl, .inl ⟨v, W, hr, Below.refl _ _, hv⟩⟩
            | 4, ho =>
              obtain rfl : _ = o := Option.some.inj ho
              obtain rfl : 62 = d := Option.some.inj hd
              obtain ⟨v, hr, hv⟩ := run_loadL (ev := a'.eval) (W := W) (hk 4 (by kernel_rfl)) (hfmid.below hB)
              exact .inr ⟨rfl, .inl ⟨v, W, hr, Below.refl _ _, hv⟩⟩
            | 5, ho =>
              obtain rfl : _ = o := Option.some.inj ho
              obtain rfl : 63 = d := Option.some.inj hd
              have g59 : LV t (a'.eval (.tmp 59)) W := hG ⟨1, .data⟩ (by simp) rfl 59 rfl
              have g61 : LV tc (a'.eval (.tmp 61)) W := hG ⟨3, .data⟩ (by simp) rfl 61 rfl
              have g62 : LV mid (a'.eval (.tmp 62)) W := hG ⟨4, .data⟩ (by simp) rfl 62 rfl
              exact .inr ⟨rfl, .inr ⟨_, _, run_call rfl map_3 ent_passage_Rise, Rise_c g59 g61 g62⟩⟩
            | 6, ho =>
              obtain rfl : _ = o := Option.some.inj ho
              obtain rfl : 64 = d := Option.some.inj hd
              have g63 : (a'.eval (.tmp 63)) = .int .i64 (riseI t tc mid) := hG ⟨5, .data⟩ (by simp) rfl 63 rfl
              exact .inr ⟨rfl, .inl ⟨_, W, run_neE g63 rfl, Below.refl _ _, rfl⟩⟩
            | 7, ho =>
              obtain rfl : _ = o := Option.some.inj ho
              obtain rfl : 65 = d := Option.some.inj hd
              have g64 : (a'.eval (.tmp 64)) = .bool ((riseI t tc mid) != 0) := hG ⟨6, .data⟩ (by simp) rfl 64 rfl
              exact .inr ⟨rfl, .inl ⟨_, W, run_move rfl, Below.refl _ _, g64⟩⟩
            | 8, ho =>
              obtain rfl : _ = o := Option.some.inj ho
              obtain rfl : 66 = d := Option.some.inj hd
              have gg : a'.eval (.tmp 65) = .bool ((riseI t tc mid) != 0) := hG ⟨7, .guard⟩ (by simp) rfl 65 rfl
              by_cases hgc_ : ((riseI t tc mid) != 0) = false
              · obtain ⟨v, hr, hv⟩ := run_loadL (ev := a'.eval) (W := W) (hk 4 (by kernel_rfl)) (hfmid.below hB)
                exact .inr ⟨want_yes (n := 102) (d := 65) rfl hs (by decide) rfl (gg.trans (by rw [hgc_])), .inl ⟨v, W, hr, Below.refl _ _, fun _ => hv⟩⟩
              · exact .inl ⟨want_no (n := 102) (d := 65) rfl hs (by decide) rfl gg hgc_, fun e => absurd e hgc_⟩
            | 9, ho =>
              obtain rfl : _ = o := Option.some.inj ho
              obtain rfl : 67 = d := Option.some.inj hd
              have gg : a'.eval (.tmp 65) = .bool ((riseI t tc mid) != 0) := hG ⟨7, .guard⟩ (by simp) rfl 65 rfl
              by_cases hgc_ : ((riseI t tc mid) != 0) = false
              · exact .inr ⟨want_yes (n := 102) (d := 65) rfl hs (by decide) rfl (gg.trans (by rw [hgc_])), .inl ⟨_, W, run_fa1 (hk 3 (by kernel_rfl)), Below.refl _ _, fun _ => rfl⟩⟩
              · exact .inl ⟨want_no (n := 102) (d := 65) rfl hs (by decide) rfl gg hgc_, fun e => absurd e hgc_⟩
            | 10, ho =>
              obtain rfl : _ = o := Option.some.inj ho
              obtain rfl : 68 = d := Option.some.inj hd
              have gg : a'.eval (.tmp 65) = .bool ((riseI t tc mid) != 0) := hG ⟨7, .guard⟩ (by simp) rfl 65 rfl
              by_cases hgc_ : ((riseI t tc mid) != 0) = false
              · have g67 : (a'.eval (.tmp 67)) = .pointer (some ⟨w.heap.size, 2, none⟩) := hG ⟨9, .data⟩ (by simp) rfl 67 rfl hgc_
                obtain ⟨v, hr, hv⟩ := run_loadL (ev := a'.eval) (W := W) g67 (hftc.below hB)
                exact .inr ⟨want_yes (n := 102) (d := 65) rfl hs (by decide) rfl (gg.trans (by rw [hgc_])), .inl ⟨v, W, hr, Below.refl _ _, fun _ => hv⟩⟩
              · exact .inl ⟨want_no (n := 102) (d := 65) rfl hs (by decide) rfl gg hgc_, fun e => absurd e hgc_⟩
            | 11, ho =>
              obtain rfl : _ = o := Option.some.inj ho
              obtain rfl : 69 = d := Option.some.inj hd
              have gg : a'.eval (.tmp 65) = .bool ((riseI t tc mid) != 0) := hG ⟨7, .guard⟩ (by simp) rfl 65 rfl
              by_cases hgc_ : ((riseI t tc mid) != 0) = false
              · obtain ⟨v, hr, hv⟩ := run_loadL (ev := a'.eval) (W := W) (hk 5 (by kernel_rfl)) (hfwant.below hB)
                exact .inr ⟨want_yes (n := 102) (d := 65) rfl hs (by decide) rfl (gg.trans (by rw [hgc_])), .inl ⟨v, W, hr, Below.refl _ _, fun _ => hv⟩⟩
              · exact .inl ⟨want_no (n := 102) (d := 65) rfl hs (by decide) rfl gg hgc_, fun e => absurd e hgc_⟩
            | 12, ho =>
              obtain rfl : _ = o := Option.some.inj ho
              obtain rfl : 70 = d := Option.some.inj hd
              have gg : a'.eval (.tmp 65) = .bool ((riseI t tc mid) != 0) := hG ⟨7, .guard⟩ (by simp) rfl 65 rfl
              by_cases hgc_ : ((riseI t tc mid) != 0) = false
              · have g66 : LV mid (a'.eval (.tmp 66)) W := hG ⟨8, .data⟩ (by simp) rfl 66 rfl hgc_
                have g68 : LV tc (a'.eval (.tmp 68)) W := hG ⟨10, .data⟩ (by simp) rfl 68 rfl hgc_
                have g69 : LV want (a'.eval (.tmp 69)) W := hG ⟨11, .data⟩ (by simp) rfl 69 rfl hgc_
                exact .inr ⟨want_yes (n := 102) (d := 65) rfl hs (by decide) rfl (gg.trans (by rw [hgc_])), .inr ⟨_, _, run_call rfl map_3 ent_passage_Rise, (Rise_c g66 g68 g69).mono (fun e W' ⟨v, he, hb, hv⟩ => ⟨v, he, hb, fun _ => hv⟩)⟩⟩
              · exact .inl ⟨want_no (n := 102) (d := 65) rfl hs (by decide) rfl gg hgc_, fun e => absurd e hgc_⟩
            | 13, ho =>
              obtain rfl : _ = o := Option.some.inj ho
              obtain rfl : 71 = d := Option.some.inj hd
              have gg : a'.eval (.tmp 65) = .bool ((riseI t tc mid) != 0) := hG ⟨7, .guard⟩ (by simp) rfl 65 rfl
              by_cases hgc_ : ((riseI t tc mid) != 0) = false
              · have g70 : (a'.eval (.tmp 70)) = .int .i64 (riseI mid tc want) := hG ⟨12, .data⟩ (by simp) rfl 70 rfl hgc_
                exact .inr ⟨want_yes (n := 102) (d := 65) rfl hs (by decide) rfl (gg.trans (by rw [hgc_])), .inl ⟨_, W, run_neE g70 rfl, Below.refl _ _, fun _ => rfl⟩⟩
              · exact .inl ⟨want_no (n := 102) (d := 65) rfl hs (by decide) rfl gg hgc_, fun e => absurd e hgc_⟩
            | 14, ho =>
              obtain rfl : _ = o := Option.some.inj ho
              obtain rfl : 72 = d := Option.some.inj hd
              have g65 : (a'.eval (.tmp 65)) = .bool ((riseI t tc mid) != 0) := hG ⟨7, .data⟩ (by simp) rfl 65 rfl
              by_cases hq : ((riseI t tc mid) != 0) = true
              · exact .inr ⟨rfl, .inl ⟨_, W, run_pick_yes (g65.trans (by rw [hq])) rfl, Below.refl _ _, by rw [hq]; rfl⟩⟩
              · have hq' : ((riseI t tc mid) != 0) = false := by simpa using hq
                exact .inr ⟨rfl, .inl ⟨_, W, run_pick_no (g65.trans (by rw [hq'])) (hG ⟨13, .data⟩ (by simp) rfl 71 rfl hq'), Below.refl _ _, by rw [hq']; rfl⟩⟩
            | j + 15, ho => simp at ho
          · intro a' W hB hs hdf hk hG
            obtain ⟨tm, df⟩ := a'
            obtain rfl : df = [] := hdf
            have e0 : tm.getD 0 undef = .agg #[.int .i64 t.fst, .slice pt t.snd.length ct, .int .i64 tc.fst, .slice ptc tc.snd.length ctc] := hk 0 (by kernel_rfl)
            have e1 : tm.getD 1 undef = .agg #[.int .i64 mid.fst, .slice pmid mid.snd.length cmid] := hk 1 (by kernel_rfl)
            have e2 : tm.getD 2 undef = .agg #[.int .i64 want.fst, .slice pwant want.snd.length cwant] := hk 2 (by kernel_rfl)
            have e3 : tm.getD 3 undef = .pointer (some ⟨w.heap.size, 0, none⟩) := hk 3 (by kernel_rfl)
            have e4 : tm.getD 4 undef = .pointer (some ⟨w.heap.size + 1, 0, none⟩) := hk 4 (by kernel_rfl)
            have e5 : tm.getD 5 undef = .pointer (some ⟨w.heap.size + 1 + 1, 0, none⟩) := hk 5 (by kernel_rfl)
            have e6 : tm.getD 6 undef = .bool false := hk 6 (by kernel_rfl)
            have e7 : tm.getD 7 undef = undef := hk 7 (by kernel_rfl)
            have e8 : tm.getD 8 undef = undef := hk 8 (by kernel_rfl)
            have e9 : tm.getD 9 undef = undef := hk 9 (by kernel_rfl)
            have e10 : tm.getD 10 undef = undef := hk 10 (by kernel_rfl)
            have e11 : tm.getD 11 undef = .bool true := hk 11 (by kernel_rfl)
            have e12 : tm.getD 12 undef = .bool false := hk 12 (by kernel_rfl)
            have e13 : tm.getD 13 undef = .pointer (some ⟨w.heap.size, 2, none⟩) := hk 13 (by kernel_rfl)
            have e14 : tm.getD 14 undef = t14 := hk 14 (by kernel_rfl)
            have e15 : tm.getD 15 undef = t15 := hk 15 (by kernel_rfl)
            have e16 : tm.getD 16 undef = .bool ([tc].all rightM) := hk 16 (by kernel_rfl)
            have e17 : tm.getD 17 undef = .bool ![tc].all rightM := hk 17 (by kernel_rfl)
            have e18 : tm.getD 18 undef = .bool ![tc].all rightM := hk 18 (by kernel_rfl)
            have e19 : tm.getD 19 undef = t19 := hk 19 (by kernel_rfl)
            have e20 : tm.getD 20 undef = t20 := hk 20 (by kernel_rfl)
            have e21 : tm.getD 21 undef = t21 := hk 21 (by kernel_rfl)
            have e22 : tm.getD 22 undef = t22 := hk 22 (by kernel_rfl)
            have e23 : tm.getD 23 undef = .bool (![tc].all rightM || !plainS t.fst t.snd) := hk 23 (by kernel_rfl)
            have e24 : tm.getD 24 undef = .bool (![tc].all rightM || !plainS t.fst t.snd) := hk 24 (by kernel_rfl)
            have e25 : tm.getD 25 undef = t25 := hk 25 (by kernel_rfl)
            have e26 : tm.getD 26 undef = t26 := hk 26 (by kernel_rfl)
            have e27 : tm.getD 27 undef = t27 := hk 27 (by kernel_rfl)
            have e28 : tm.getD 28 undef = .bool (![tc].all rightM || !plainS t.fst t.snd || !plainS mid.fst mid.snd) := hk 28 (by kernel_rfl)
            have e29 : tm.getD 29 undef = .bool (![tc].all rightM || !plainS t.fst t.snd || !plainS mid.fst mid.snd) := hk 29 (by kernel_rfl)
            have e30 : tm.getD 30 undef = t30 := hk 30 (by kernel_rfl)
            have e31 : tm.getD 31 undef = t31 := hk 31 (by kernel_rfl)
            have e32 : tm.getD 32 undef = t32 := hk 32 (by kernel_rfl)
            have e33 : tm.getD 33 undef = .bool (![tc].all rightM || !plainS t.fst t.snd || !plainS mid.fst mid.snd || !plainS want.fst want.snd) := hk 33 (by kernel_rfl)
            have e34 : tm.getD 34 undef = .bool (![tc].all rightM || !plainS t.fst t.snd || !plainS mid.fst mid.snd || !plainS want.fst want.snd) := hk 34 (by kernel_rfl)
            have e35 : tm.getD 35 undef = t35 := hk 35 (by kernel_rfl)
            have e36 : tm.getD 36 undef = t36 := hk 36 (by kernel_rfl)
            have e37 : tm.getD 37 undef = t37 := hk 37 (by kernel_rfl)
            have e38 : tm.getD 38 undef = t38 := hk 38 (by kernel_rfl)
            have e39 : tm.getD 39 undef = .bool false := hk 39 (by kernel_rfl)
            have e40 : tm.getD 40 undef = .pointer (some ⟨w.heap.size, 0, none⟩) := hk 40 (by kernel_rfl)
            have e41 : tm.getD 41 undef = t41 := hk 41 (by kernel_rfl)
            have e42 : tm.getD 42 undef = .pointer (some ⟨w.heap.size, 2, none⟩) := hk 42 (by kernel_rfl)
            have e43 : tm.getD 43 undef = t43 := hk 43 (by kernel_rfl)
            have e44 : tm.getD 44 undef = t44 := hk 44 (by kernel_rfl)
            have e45 : tm.getD 45 undef = .int .i64 (riseI t tc want) := hk 45 (by kernel_rfl)
            have e46 : tm.getD 46 undef = .bool (riseI t tc want == 0) := hk 46 (by kernel_rfl)
            have e47 : tm.getD 47 undef = .bool (riseI t tc want == 0) := hk 47 (by kernel_rfl)
            have e48 : tm.getD 48 undef = t48 := hk 48 (by kernel_rfl)
            have e49 : tm.getD 49 undef = t49 := hk 49 (by kernel_rfl)
            have e50 : tm.getD 50 undef = t50 := hk 50 (by kernel_rfl)
            have e51 : tm.getD 51 undef = t51 := hk 51 (by kernel_rfl)
            have e52 : tm.getD 52 undef = .bool (riseI t tc want == 0 && rleM t mid) := hk 52 (by kernel_rfl)
            have e53 : tm.getD 53 undef = .bool (riseI t tc want == 0 && rleM t mid) := hk 53 (by kernel_rfl)
            have e54 : tm.getD 54 undef = t54 := hk 54 (by kernel_rfl)
            have e55 : tm.getD 55 undef = t55 := hk 55 (by kernel_rfl)
            have e56 : tm.getD 56 undef = t56 := hk 56 (by kernel_rfl)
            have e57 : tm.getD 57 undef = .bool true := hk 57 (by kernel_rfl)
            have e73 : tm.getD 73 undef = undef := hk 73 (by kernel_rfl)
            have e74 : tm.getD 74 undef = undef := hk 74 (by kernel_rfl)
            have e75 : tm.getD 75 undef = undef := hk 75 (by kernel_rfl)
            have e76 : tm.getD 76 undef = undef := hk 76 (by kernel_rfl)
            have e77 : tm.getD 77 undef = undef := hk 77 (by kernel_rfl)
            have e78 : tm.getD 78 undef = undef := hk 78 (by kernel_rfl)
            have e79 : tm.getD 79 undef = undef := hk 79 (by kernel_rfl)
            have e80 : tm.getD 80 undef = undef := hk 80 (by kernel_rfl)
            have e81 : tm.getD 81 undef = undef := hk 81 (by kernel_rfl)
            have e82 : tm.getD 82 undef = undef := hk 82 (by kernel_rfl)
            have e83 : tm.getD 83 undef = undef := hk 83 (by kernel_rfl)
            have e84 : tm.getD 84 undef = undef := hk 84 (by kernel_rfl)
            have e85 : tm.getD 85 undef = undef := hk 85 (by kernel_rfl)
            have e86 : tm.getD 86 undef = undef := hk 86 (by kernel_rfl)
            have e87 : tm.getD 87 undef = undef := hk 87 (by kernel_rfl)
            have e88 : tm.getD 88 undef = undef := hk 88 (by kernel_rfl)
            have e89 : tm.getD 89 undef = undef := hk 89 (by kernel_rfl)
            have e90 : tm.getD 90 undef = undef := hk 90 (by kernel_rfl)
            have e91 : tm.getD 91 undef = undef := hk 91 (by kernel_rfl)
            have e92 : tm.getD 92 undef = undef := hk 92 (by kernel_rfl)
            have e93 : tm.getD 93 undef = undef := hk 93 (by kernel_rfl)
            have e94 : tm.getD 94 undef = undef := hk 94 (by kernel_rfl)
            have e95 : tm.getD 95 undef = undef := hk 95 (by kernel_rfl)
            have e96 : tm.getD 96 undef = undef := hk 96 (by kernel_rfl)
            have e97 : tm.getD 97 undef = undef := hk 97 (by kernel_rfl)
            have e98 : tm.getD 98 undef = undef := hk 98 (by kernel_rfl)
            have e99 : tm.getD 99 undef = undef := hk 99 (by kernel_rfl)
            have e100 : tm.getD 100 undef = undef := hk 100 (by kernel_rfl)
            have e101 : tm.getD 101 undef = undef := hk 101 (by kernel_rfl)
            have g58 : (tm.getD 58 undef) = .pointer (some ⟨w.heap.size, 0, none⟩) := hG 0 58 (by decide) rfl
            have g59 : LV t (tm.getD 59 undef) W := hG 1 59 (by decide) rfl
            have g60 : (tm.getD 60 undef) = .pointer (some ⟨w.heap.size, 2, none⟩) := hG 2 60 (by decide) rfl
            have g61 : LV tc (tm.getD 61 undef) W := hG 3 61 (by decide) rfl
            have g62 : LV mid (tm.getD 62 undef) W := hG 4 62 (by decide) rfl
            have g63 : (tm.getD 63 undef) = .int .i64 (riseI t tc mid) := hG 5 63 (by decide) rfl
            have g64 : (tm.getD 64 undef) = .bool ((riseI t tc mid) != 0) := hG 6 64 (by decide) rfl
            have g65 : (tm.getD 65 undef) = .bool ((riseI t tc mid) != 0) := hG 7 65 (by decide) rfl
            have g66 : ((riseI t tc mid) != 0) = false → LV mid (tm.getD 66 undef) W := hG 8 66 (by decide) rfl
            have g67 : ((riseI t tc mid) != 0) = false → (tm.getD 67 undef) = .pointer (some ⟨w.heap.size, 2, none⟩) := hG 9 67 (by decide) rfl
            have g68 : ((riseI t tc mid) != 0) = false → LV tc (tm.getD 68 undef) W := hG 10 68 (by decide) rfl
            have g69 : ((riseI t tc mid) != 0) = false → LV want (tm.getD 69 undef) W := hG 11 69 (by decide) rfl
            have g70 : ((riseI t tc mid) != 0) = false → (tm.getD 70 undef) = .int .i64 (riseI mid tc want) := hG 12 70 (by decide) rfl
            have g71 : ((riseI t tc mid) != 0) = false → (tm.getD 71 undef) = .bool ((riseI mid tc want) != 0) := hG 13 71 (by decide) rfl
            have g72 : (tm.getD 72 undef) = .bool (((riseI t tc mid) != 0) || ((riseI mid tc want) != 0)) := hG 14 72 (by decide) rfl
            have htm := arr_of tm ((.agg #[.int .i64 t.fst, .slice pt t.snd.length ct, .int .i64 tc.fst, .slice ptc tc.snd.length ctc] : Value) :: (.agg #[.int .i64 mid.fst, .slice pmid mid.snd.length cmid] : Value) :: (.agg #[.int .i64 want.fst, .slice pwant want.snd.length cwant] : Value) :: (.pointer (some ⟨w.heap.size, 0, none⟩) : Value) :: (.pointer (some ⟨w.heap.size + 1, 0, none⟩) : Value) :: (.pointer (some ⟨w.heap.size + 1 + 1, 0, none⟩) : Value) :: (.bool false : Value) :: (undef : Value) :: (undef : Value) :: (undef : Value) :: (undef : Value) :: (.bool true : Value) :: (.bool false : Value) :: (.pointer (some ⟨w.heap.size, 2, none⟩) : Value) :: (t14 : Value) :: (t15 : Value) :: (.bool ([tc].all rightM) : Value) :: (.bool ![tc].all rightM : Value) :: (.bool ![tc].all rightM : Value) :: (t19 : Value) :: (t20 : Value) :: (t21 : Value) :: (t22 : Value) :: (.bool (![tc].all rightM || !plainS t.fst t.snd) : Value) :: (.bool (![tc].all rightM || !plainS t.fst t.snd) : Value) :: (t25 : Value) :: (t26 : Value) :: (t27 : Value) :: (.bool (![tc].all rightM || !plainS t.fst t.snd || !plainS mid.fst mid.snd) : Value) :: (.bool (![tc].all rightM || !plainS t.fst t.snd || !plainS mid.fst mid.snd) : Value) :: (t30 : Value) :: (t31 : Value) :: (t32 : Value) :: (.bool (![tc].all rightM || !plainS t.fst t.snd || !plainS mid.fst mid.snd || !plainS want.fst want.snd) : Value) :: (.bool (![tc].all rightM || !plainS t.fst t.snd || !plainS mid.fst mid.snd || !plainS want.fst want.snd) : Value) :: (t35 : Value) :: (t36 : Value) :: (t37 : Value) :: (t38 : Value) :: (.bool false : Value) :: (.pointer (some ⟨w.heap.size, 0, none⟩) : Value) :: (t41 : Value) :: (.pointer (some ⟨w.heap.size, 2, none⟩) : Value) :: (t43 : Value) :: (t44 : Value) :: (.int .i64 (riseI t tc want) : Value) :: (.bool (riseI t tc want == 0) : Value) :: (.bool (riseI t tc want == 0) : Value) :: (t48 : Value) :: (t49 : Value) :: (t50 : Value) :: (t51 : Value) :: (.bool (riseI t tc want == 0 && rleM t mid) : Value) :: (.bool (riseI t tc want == 0 && rleM t mid) : Value) :: (t54 : Value) :: (t55 : Value) :: (t56 : Value) :: (.bool true : Value) :: (tm.getD 58 undef : Value) :: (tm.getD 59 undef : Value) :: (tm.getD 60 undef : Value) :: (tm.getD 61 undef : Value) :: (tm.getD 62 undef : Value) :: (tm.getD 63 undef : Value) :: (tm.getD 64 undef : Value) :: (tm.getD 65 undef : Value) :: (tm.getD 66 undef : Value) :: (tm.getD 67 undef : Value) :: (tm.getD 68 undef : Value) :: (tm.getD 69 undef : Value) :: (tm.getD 70 undef : Value) :: (tm.getD 71 undef : Value) :: (tm.getD 72 undef : Value) :: (undef : Value) :: (undef : Value) :: (undef : Value) :: (undef : Value) :: (undef : Value) :: (undef : Value) :: (undef : Value) :: (undef : Value) :: (undef : Value) :: (undef : Value) :: (undef : Value) :: (undef : Value) :: (undef : Value) :: (undef : Value) :: (undef : Value) :: (undef : Value) :: (undef : Value) :: (undef : Value) :: (undef : Value) :: (undef : Value) :: (undef : Value) :: (undef : Value) :: (undef : Value) :: (undef : Value) :: (undef : Value) :: (undef : Value) :: (undef : Value) :: (undef : Value) :: (undef : Value) :: []) hs (by show (tm.getD 0 undef :: tm.getD 1 undef :: tm.getD 2 undef :: tm.getD 3 undef :: tm.getD 4 undef :: tm.getD 5 undef :: tm.getD 6 undef :: tm.getD 7 undef :: tm.getD 8 undef :: tm.getD 9 undef :: tm.getD 10 undef :: tm.getD 11 undef :: tm.getD 12 undef :: tm.getD 13 undef :: tm.getD 14 undef :: tm.getD 15 undef :: tm.getD 16 undef :: tm.getD 17 undef :: tm.getD 18 undef :: tm.getD 19 undef :: tm.getD 20 undef :: tm.getD 21 undef :: tm.getD 22 undef :: tm.getD 23 undef :: tm.getD 24 undef :: tm.getD 25 undef :: tm.getD 26 undef :: tm.getD 27 undef :: tm.getD 28 undef :: tm.getD 29 undef :: tm.getD 30 undef :: tm.getD 31 undef :: tm.getD 32 undef :: tm.getD 33 undef :: tm.getD 34 undef :: tm.getD 35 undef :: tm.getD 36 undef :: tm.getD 37 undef :: tm.getD 38 undef :: tm.getD 39 undef :: tm.getD 40 undef :: tm.getD 41 undef :: tm.getD 42 undef :: tm.getD 43 undef :: tm.getD 44 undef :: tm.getD 45 undef :: tm.getD 46 undef :: tm.getD 47 undef :: tm.getD 48 undef :: tm.getD 49 undef :: tm.getD 50 undef :: tm.getD 51 undef :: tm.getD 52 undef :: tm.getD 53 undef :: tm.getD 54 undef :: tm.getD 55 undef :: tm.getD 56 undef :: tm.getD 57 undef :: tm.getD 58 undef :: tm.getD 59 undef :: tm.getD 60 undef :: tm.getD 61 undef :: tm.getD 62 undef :: tm.getD 63 undef :: tm.getD 64 undef :: tm.getD 65 undef :: tm.getD 66 undef :: tm.getD 67 undef :: tm.getD 68 undef :: tm.getD 69 undef :: tm.getD 70 undef :: tm.getD 71 undef :: tm.getD 72 undef :: tm.getD 73 undef :: tm.getD 74 undef :: tm.getD 75 undef :: tm.getD 76 undef :: tm.getD 77 undef :: tm.getD 78 undef :: tm.getD 79 undef :: tm.getD 80 undef :: tm.getD 81 undef :: tm.getD 82 undef :: tm.getD 83 undef :: tm.getD 84 undef :: tm.getD 85 undef :: tm.getD 86 undef :: tm.getD 87 undef :: tm.getD 88 undef :: tm.getD 89 undef :: tm.getD 90 undef :: tm.getD 91 undef :: tm.getD 92 undef :: tm.getD 93 undef :: tm.getD 94 undef :: tm.getD 95 undef :: tm.getD 96 undef :: tm.getD 97 undef :: tm.getD 98 undef :: tm.getD 99 undef :: tm.getD 100 undef :: tm.getD 101 undef :: []) = _; rw [e0, e1, e2, e3, e4, e5, e6, e7, e8, e9, e10, e11, e12, e13, e14, e15, e16, e17, e18, e19, e20, e21, e22, e23, e24, e25, e26, e27, e28, e29, e30, e31, e32, e33, e34, e35, e36, e37, e38, e39, e40, e41, e42, e43, e44, e45, e46, e47, e48, e49, e50, e51, e52, e53, e54, e55, e56, e57, e73, e74, e75, e76, e77, e78, e79, e80, e81, e82, e83, e84, e85, e86, e87, e88, e89, e90, e91, e92, e93, e94, e95, e96, e97, e98, e99, e100, e101]; try rfl)
            clear hs hk hG e0 e1 e2 e3 e4 e5 e6 e7 e8 e9 e10 e11 e12 e13 e14 e15 e16 e17 e18 e19 e20 e21 e22 e23 e24 e25 e26 e27 e28 e29 e30 e31 e32 e33 e34 e35 e36 e37 e38 e39 e40 e41 e42 e43 e44 e45 e46 e47 e48 e49 e50 e51 e52 e53 e54 e55 e56 e57 e73 e74 e75 e76 e77 e78 e79 e80 e81 e82 e83 e84 e85 e86 e87 e88 e89 e90 e91 e92 e93 e94 e95 e96 e97 e98 e99 e100 e101
            generalize tm.getD 58 undef = t58 at htm g58
            generalize tm.getD 59 undef = t59 at htm g59
            generalize tm.getD 60 undef = t60 at htm g60
            generalize tm.getD 61 undef = t61 at htm g61
            generalize tm.getD 62 undef = t62 at htm g62
            generalize tm.getD 63 undef = t63 at htm g63
            generalize tm.getD 64 undef = t64 at htm g64
            generalize tm.getD 65 undef = t65 at htm g65
            generalize tm.getD 66 undef = t66 at htm g66
            generalize tm.getD 67 undef = t67 at htm g67
            generalize tm.getD 68 undef = t68 at htm g68
            generalize tm.getD 69 undef = t69 at htm g69
            generalize tm.getD 70 undef = t70 at htm g70
            generalize tm.getD 71 undef = t71 at htm g71
            generalize tm.getD 72 undef = t72 at htm g72
            subst htm
            subst g58
            subst g60
            subst g63
            subst g64
            subst g65
            subst g72
            simp only [List.drop_succ_cons, List.drop_zero]
            have hA4 : Below w.heap.size w W := hA3.trans (hB.mono hA3.size)
            have hgt := hft.below hB
            have hgtc := hftc.below hB
            have hgmid := hfmid.below hB
            have hgwant := hfwant.below hB
            clear g59 g61 g62 g66 g67 g68 g69 g70 g71 hft hftc hfmid hfwant hB hA3
            simp only [HN.out]
            clear HN
            go_upto_region 10 with fail
            obtain ⟨W2, hW2⟩ : ∃ W2, W2 = (W.alloc (.cells #[.int .i64 1, .slice none 0 0] 24)).alloc (.cells #[.int .i64 4, .slice none 0 0] 24) := ⟨_, rfl⟩
            have hbQ : Below W.heap.size W W2 := by rw [hW2]; go_grown
            have hQ7 : LBox (1, []) W2 W.heap.size 0 := by rw [hW2]; exact lbox0 (by simp <;> omega) (by simp [go_sem]) (by simp [go_sem])
            have hQ8 : LBox (4, []) W2 (W.heap.size + 1) 0 := by rw [hW2]; exact lbox0 (by simp <;> omega) (by simp [go_sem]) (by simp [go_sem])
            have hQt := hgt.below hbQ
            have hQtc := hgtc.below hbQ
            have hQmid := hgmid.below hbQ
            have hQwant := hgwant.below hbQ
            have hAQ : Below w.heap.size w W2 := hA4.trans (hbQ.mono hA4.size)
            obtain ⟨nq, hnq⟩ : ∃ nq, nq = W.heap.size := ⟨_, rfl⟩
            rw [← hW2]
            rw [← hnq] at hQ7 hQ8 ⊢
            clear hW2 hbQ hnq hA4 hgt hgtc hgmid hgwant
            refine wp_region_monoF 11 (fun kq v W => match kq with | 75 => v = .pointer (some ⟨w.heap.size, 0, none⟩) | 76 => LV t v W | 77 => v = .pointer (some ⟨w.heap.size, 2, none⟩) | 78 => LV tc v W | 79 => LV ((1, []) : ML) v W | 80 => LV ((4, []) : ML) v W | 81 => v = .pointer (some ⟨w.heap.size, 0, none⟩) | 82 => LV t v W | 83 => v = .pointer (some ⟨w.heap.size, 2, none⟩) | 84 => LV tc v W | 85 => v = .int .i64 (enterI t tc ((1, []) : ML) ((4, []) : ML) t tc) | _ => True) (by kernel_rfl) (by kernel_rfl) (by simp) ?_ ?_ ?_
            · intro kq v W W' h hb
              revert h
              try dsimp only
              split
              · intro h; exact h
              · intro h; exact LV.below h hb
              · intro h; exact h
              · intro h; exact LV.below h hb
              · intro h; exact LV.below h hb
              · intro h; exact LV.below h hb
              · intro h; exact h
              · intro h; exact LV.below h hb
              · intro h; exact h
              · intro h; exact LV.below h hb
              · intro h; exact h
              · intro h; trivial
            · intro a' W hB hs hk i o d ho hd hG
              match i, ho with
              | 0, ho =>
                obtain rfl : _ = o := Option.some.inj ho
                obtain rfl : 75 = d := Option.some.inj hd
                exact .inr ⟨rfl, .inl ⟨_, W, run_fa0 (hk 3 (by kernel_rfl)), Below.refl _ _, rfl⟩⟩
              | 1, ho =>
                obtain rfl : _ = o := Option.some.inj ho
                obtain rfl : 76 = d := Option.some.inj hd
                have g75 : (a'.eval (.tmp 75)) = .pointer (some ⟨w.heap.size, 0, none⟩) := hG ⟨0, .data⟩ (by simp) rfl 75 rfl
                obtain ⟨v, hr, hv⟩ := run_loadL (ev := a'.eval) (W := W) g75 (hQt.below hB)
                exact .inr ⟨rfl, .inl ⟨v, W, hr, Below.refl _ _, hv⟩⟩
              | 2, ho =>
                obtain rfl : _ = o := Option.some.inj ho
                obtain rfl : 77 = d := Option.some.inj hd
                exact .inr ⟨rfl, .inl ⟨_, W, run_fa1 (hk 3 (by kernel_rfl)), Below.refl _ _, rfl⟩⟩
              | 3, ho =>
                obtain rfl : _ = o := Option.some.inj ho
                obtain rfl : 78 = d := Option.some.inj hd
                have g77 : (a'.eval (.tmp 77)) = .pointer (some ⟨w.heap.size, 2, none⟩) := hG ⟨2, .data⟩ (by simp) rfl 77 rfl
                obtain ⟨v, hr, hv⟩ := run_loadL (ev := a'.eval) (W := W) g77 (hQtc.below hB)
                exact .inr ⟨rfl, .inl ⟨v, W, hr, Below.refl _ _, hv⟩⟩
              | 4, ho =>
                obtain rfl : _ = o := Option.some.inj ho
                obtain rfl : 79 = d := Option.some.inj hd
                obtain ⟨v, hr, hv⟩ := run_loadL (ev := a'.eval) (W := W) (hk 7 (by kernel_rfl)) (hQ7.below hB)
                exact .inr ⟨rfl, .inl ⟨v, W, hr, Below.refl _ _, hv⟩⟩
              | 5, ho =>
                obtain rfl : _ = o := Option.some.inj ho
                obtain rfl : 80 = d := Option.some.inj hd
                obtain ⟨v, hr, hv⟩ := run_loadL (ev := a'.eval) (W := W) (hk 8 (by kernel_rfl)) (hQ8.below hB)
                exact .inr ⟨rfl, .inl ⟨v, W, hr, Below.refl _ _, hv⟩⟩
              | 6, ho =>
                obtain rfl : _ = o := Option.some.inj ho
                obtain rfl : 81 = d := Option.some.inj hd
                exact .inr ⟨rfl, .inl ⟨_, W, run_fa0 (hk 3 (by kernel_rfl)), Below.refl _ _, rfl⟩⟩
              | 7, ho =>
                obtain rfl : _ = o := Option.some.inj ho
                obtain rfl : 82 = d := Option.some.inj hd
                have g81 : (a'.eval (.tmp 81)) = .pointer (some ⟨w.heap.size, 0, none⟩) := hG ⟨6, .data⟩ (by simp) rfl 81 rfl
                obtain ⟨v, hr, hv⟩ := run_loadL (ev := a'.eval) (W := W) g81 (hQt.below hB)
                exact .inr ⟨rfl, .inl ⟨v, W, hr, Below.refl _ _, hv⟩⟩
              | 8, ho =>
                obtain rfl : _ = o := Option.some.inj ho
                obtain rfl : 83 = d := Option.some.inj hd
                exact .inr ⟨rfl, .inl ⟨_, W, run_fa1 (hk 3 (by kernel_rfl)), Below.refl _ _, rfl⟩⟩
              | 9, ho =>
                obtain rfl : _ = o := Option.some.inj ho
                obtain rfl : 84 = d := Option.some.inj hd
                have g83 : (a'.eval (.tmp 83)) = .pointer (some ⟨w.heap.size, 2, none⟩) := hG ⟨8, .data⟩ (by simp) rfl 83 rfl
                obtain ⟨v, hr, hv⟩ := run_loadL (ev := a'.eval) (W := W) g83 (hQtc.below hB)
                exact .inr ⟨rfl, .inl ⟨v, W, hr, Below.refl _ _, hv⟩⟩
              | 10, ho =>
                obtain rfl : _ = o := Option.some.inj ho
                obtain rfl : 85 = d := Option.some.inj hd
                have g76 : LV t (a'.eval (.tmp 76)) W := hG ⟨1, .data⟩ (by simp) rfl 76 rfl
                have g78 : LV tc (a'.eval (.tmp 78)) W := hG ⟨3, .data⟩ (by simp) rfl 78 rfl
                have g79 : LV ((1, []) : ML) (a'.eval (.tmp 79)) W := hG ⟨4, .data⟩ (by simp) rfl 79 rfl
                have g80 : LV ((4, []) : ML) (a'.eval (.tmp 80)) W := hG ⟨5, .data⟩ (by simp) rfl 80 rfl
                have g82 : LV t (a'.eval (.tmp 82)) W := hG ⟨7, .data⟩ (by simp) rfl 82 rfl
                have g84 : LV tc (a'.eval (.tmp 84)) W := hG ⟨9, .data⟩ (by simp) rfl 84 rfl
                exact .inr ⟨rfl, .inr ⟨_, _, run_call rfl map_6 ent_passage_Enter, Enter_c g76 g78 g79 g80 g82 g84⟩⟩
              | j + 11, ho => simp at ho
            · intro a' W hB hs hdf hk hG
              obtain ⟨tm, df⟩ := a'
              obtain rfl : df = [] := hdf
              have e0 : tm.getD 0 undef = .agg #[.int .i64 t.fst, .slice pt t.snd.length ct, .int .i64 tc.fst, .slice ptc tc.snd.length ctc] := hk 0 (by kernel_rfl)
              have e1 : tm.getD 1 undef = .agg #[.int .i64 mid.fst, .slice pmid mid.snd.length cmid] := hk 1 (by kernel_rfl)
              have e2 : tm.getD 2 undef = .agg #[.int .i64 want.fst, .slice pwant want.snd.length cwant] := hk 2 (by kernel_rfl)
              have e3 : tm.getD 3 undef = .pointer (some ⟨w.heap.size, 0, none⟩) := hk 3 (by kernel_rfl)
              have e4 : tm.getD 4 undef = .pointer (some ⟨w.heap.size + 1, 0, none⟩) := hk 4 (by kernel_rfl)
              have e5 : tm.getD 5 undef = .pointer (some ⟨w.heap.size + 1 + 1, 0, none⟩) := hk 5 (by kernel_rfl)
              have e6 : tm.getD 6 undef = .bool false := hk 6 (by kernel_rfl)
              have e7 : tm.getD 7 undef = .pointer (some ⟨nq, 0, none⟩) := hk 7 (by kernel_rfl)
              have e8 : tm.getD 8 undef = .pointer (some ⟨nq + 1, 0, none⟩) := hk 8 (by kernel_rfl)
              have e9 : tm.getD 9 undef = undef := hk 9 (by kernel_rfl)
              have e10 : tm.getD 10 undef = undef := hk 10 (by kernel_rfl)
              have e11 : tm.getD 11 undef = .bool true := hk 11 (by kernel_rfl)
              have e12 : tm.getD 12 undef = .bool false := hk 12 (by kernel_rfl)
              have e13 : tm.getD 13 undef = .pointer (some ⟨w.heap.size, 2, none⟩) := hk 13 (by kernel_rfl)
              have e14 : tm.getD 14 undef = t14 := hk 14 (by kernel_rfl)
              have e15 : tm.getD 15 undef = t15 := hk 15 (by kernel_rfl)
              have e16 : tm.getD 16 undef = .bool ([tc].all rightM) := hk 16 (by kernel_rfl)
              have e17 : tm.getD 17 undef = .bool ![tc].all rightM := hk 17 (by kernel_rfl)
              have e18 : tm.getD 18 undef = .bool ![tc].all rightM := hk 18 (by kernel_rfl)
              have e19 : tm.getD 19 undef = t19 := hk 19 (by kernel_rfl)
              have e20 : tm.getD 20 undef = t20 := hk 20 (by kernel_rfl)
              have e21 : tm.getD 21 undef = t21 := hk 21 (by kernel_rfl)
              have e22 : tm.getD 22 undef = t22 := hk 22 (by kernel_rfl)
              have e23 : tm.getD 23 undef = .bool (![tc].all rightM || !plainS t.fst t.snd) := hk 23 (by kernel_rfl)
              have e24 : tm.getD 24 undef = .bool (![tc].all rightM || !plainS t.fst t.snd) := hk 24 (by kernel_rfl)
              have e25 : tm.getD 25 undef = t25 := hk 25 (by kernel_rfl)
              have e26 : tm.getD 26 undef = t26 := hk 26 (by kernel_rfl)
              have e27 : tm.getD 27 undef = t27 := hk 27 (by kernel_rfl)
              have e28 : tm.getD 28 undef = .bool (![tc].all rightM || !plainS t.fst t.snd || !plainS mid.fst mid.snd) := hk 28 (by kernel_rfl)
              have e29 : tm.getD 29 undef = .bool (![tc].all rightM || !plainS t.fst t.snd || !plainS mid.fst mid.snd) := hk 29 (by kernel_rfl)
              have e30 : tm.getD 30 undef = t30 := hk 30 (by kernel_rfl)
              have e31 : tm.getD 31 undef = t31 := hk 31 (by kernel_rfl)
              have e32 : tm.getD 32 undef = t32 := hk 32 (by kernel_rfl)
              have e33 : tm.getD 33 undef = .bool (![tc].all rightM || !plainS t.fst t.snd || !plainS mid.fst mid.snd || !plainS want.fst want.snd) := hk 33 (by kernel_rfl)
              have e34 : tm.getD 34 undef = .bool (![tc].all rightM || !plainS t.fst t.snd || !plainS mid.fst mid.snd || !plainS want.fst want.snd) := hk 34 (by kernel_rfl)
              have e35 : tm.getD 35 undef = t35 := hk 35 (by kernel_rfl)
              have e36 : tm.getD 36 undef = t36 := hk 36 (by kernel_rfl)
              have e37 : tm.getD 37 undef = t37 := hk 37 (by kernel_rfl)
              have e38 : tm.getD 38 undef = t38 := hk 38 (by kernel_rfl)
              have e39 : tm.getD 39 undef = .bool false := hk 39 (by kernel_rfl)
              have e40 : tm.getD 40 undef = .pointer (some ⟨w.heap.size, 0, none⟩) := hk 40 (by kernel_rfl)
              have e41 : tm.getD 41 undef = t41 := hk 41 (by kernel_rfl)
              have e42 : tm.getD 42 undef = .pointer (some ⟨w.heap.size, 2, none⟩) := hk 42 (by kernel_rfl)
              have e43 : tm.getD 43 undef = t43 := hk 43 (by kernel_rfl)
              have e44 : tm.getD 44 undef = t44 := hk 44 (by kernel_rfl)
              have e45 : tm.getD 45 undef = .int .i64 (riseI t tc want) := hk 45 (by kernel_rfl)
              have e46 : tm.getD 46 undef = .bool (riseI t tc want == 0) := hk 46 (by kernel_rfl)
              have e47 : tm.getD 47 undef = .bool (riseI t tc want == 0) := hk 47 (by kernel_rfl)
              have e48 : tm.getD 48 undef = t48 := hk 48 (by kernel_rfl)
              have e49 : tm.getD 49 undef = t49 := hk 49 (by kernel_rfl)
              have e50 : tm.getD 50 undef = t50 := hk 50 (by kernel_rfl)
              have e51 : tm.getD 51 undef = t51 := hk 51 (by kernel_rfl)
              have e52 : tm.getD 52 undef = .bool (riseI t tc want == 0 && rleM t mid) := hk 52 (by kernel_rfl)
              have e53 : tm.getD 53 undef = .bool (riseI t tc want == 0 && rleM t mid) := hk 53 (by kernel_rfl)
              have e54 : tm.getD 54 undef = t54 := hk 54 (by kernel_rfl)
              have e55 : tm.getD 55 undef = t55 := hk 55 (by kernel_rfl)
              have e56 : tm.getD 56 undef = t56 := hk 56 (by kernel_rfl)
              have e57 : tm.getD 57 undef = .bool true := hk 57 (by kernel_rfl)
              have e58 : tm.getD 58 undef = .pointer (some ⟨w.heap.size, 0, none⟩) := hk 58 (by kernel_rfl)
              have e59 : tm.getD 59 undef = t59 := hk 59 (by kernel_rfl)
              have e60 : tm.getD 60 undef = .pointer (some ⟨w.heap.size, 2, none⟩) := hk 60 (by kernel_rfl)
              have e61 : tm.getD 61 undef = t61 := hk 61 (by kernel_rfl)
              have e62 : tm.getD 62 undef = t62 := hk 62 (by kernel_rfl)
              have e63 : tm.getD 63 undef = .int .i64 (riseI t tc mid) := hk 63 (by kernel_rfl)
              have e64 : tm.getD 64 undef = .bool (riseI t tc mid != 0) := hk 64 (by kernel_rfl)
              have e65 : tm.getD 65 undef = .bool (riseI t tc mid != 0) := hk 65 (by kernel_rfl)
              have e66 : tm.getD 66 undef = t66 := hk 66 (by kernel_rfl)
              have e67 : tm.getD 67 undef = t67 := hk 67 (by kernel_rfl)
              have e68 : tm.getD 68 undef = t68 := hk 68 (by kernel_rfl)
              have e69 : tm.getD 69 undef = t69 := hk 69 (by kernel_rfl)
              have e70 : tm.getD 70 undef = t70 := hk 70 (by kernel_rfl)
              have e71 : tm.getD 71 undef = t71 := hk 71 (by kernel_rfl)
              have e72 : tm.getD 72 undef = .bool false := hk 72 (by kernel_rfl)
              have e73 : tm.getD 73 undef = .agg #[.int .i64 1, .slice none 0 0] := hk 73 (by kernel_rfl)
              have e74 : tm.getD 74 undef = .agg #[.int .i64 4, .slice none 0 0] := hk 74 (by kernel_rfl)
              have e86 : tm.getD 86 undef = undef := hk 86 (by kernel_rfl)
              have e87 : tm.getD 87 undef = undef := hk 87 (by kernel_rfl)
              have e88 : tm.getD 88 undef = undef := hk 88 (by kernel_rfl)
              have e89 : tm.getD 89 undef = undef := hk 89 (by kernel_rfl)
              have e90 : tm.getD 90 undef = undef := hk 90 (by kernel_rfl)
              have e91 : tm.getD 91 undef = undef := hk 91 (by kernel_rfl)
              have e92 : tm.getD 92 undef = undef := hk 92 (by kernel_rfl)
              have e93 : tm.getD 93 undef = undef := hk 93 (by kernel_rfl)
              have e94 : tm.getD 94 undef = undef := hk 94 (by kernel_rfl)
              have e95 : tm.getD 95 undef = undef := hk 95 (by kernel_rfl)
              have e96 : tm.getD 96 undef = undef := hk 96 (by kernel_rfl)
              have e97 : tm.getD 97 undef = undef := hk 97 (by kernel_rfl)
              have e98 : tm.getD 98 undef = undef := hk 98 (by kernel_rfl)
              have e99 : tm.getD 99 undef = undef := hk 99 (by kernel_rfl)
              have e100 : tm.getD 100 undef = undef := hk 100 (by kernel_rfl)
              have e101 : tm.getD 101 undef = undef := hk 101 (by kernel_rfl)
              have g75 : (tm.getD 75 undef) = .pointer (some ⟨w.heap.size, 0, none⟩) := hG 0 75 (by decide) rfl
              have g76 : LV t (tm.getD 76 undef) W := hG 1 76 (by decide) rfl
              have g77 : (tm.getD 77 undef) = .pointer (some ⟨w.heap.size, 2, none⟩) := hG 2 77 (by decide) rfl
              have g78 : LV tc (tm.getD 78 undef) W := hG 3 78 (by decide) rfl
              have g79 : LV ((1, []) : ML) (tm.getD 79 undef) W := hG 4 79 (by decide) rfl
              have g80 : LV ((4, []) : ML) (tm.getD 80 undef) W := hG 5 80 (by decide) rfl
              have g81 : (tm.getD 81 undef) = .pointer (some ⟨w.heap.size, 0, none⟩) := hG 6 81 (by decide) rfl
              have g82 : LV t (tm.getD 82 undef) W := hG 7 82 (by decide) rfl
              have g83 : (tm.getD 83 undef) = .pointer (some ⟨w.heap.size, 2, none⟩) := hG 8 83 (by decide) rfl
              have g84 : LV tc (tm.getD 84 undef) W := hG 9 84 (by decide) rfl
              have g85 : (tm.getD 85 undef) = .int .i64 (enterI t tc ((1, []) : ML) ((4, []) : ML) t tc) := hG 10 85 (by decide) rfl
              have htm := arr_of tm ((.agg #[.int .i64 t.fst, .slice pt t.snd.length ct, .int .i64 tc.fst, .slice ptc tc.snd.length ctc] : Value) :: (.agg #[.int .i64 mid.fst, .slice pmid mid.snd.length cmid] : Value) :: (.agg #[.int .i64 want.fst, .slice pwant want.snd.length cwant] : Value) :: (.pointer (some ⟨w.heap.size, 0, none⟩) : Value) :: (.pointer (some ⟨w.heap.size + 1, 0, none⟩) : Value) :: (.pointer (some ⟨w.heap.size + 1 + 1, 0, none⟩) : Value) :: (.bool false : Value) :: (.pointer (some ⟨nq, 0, none⟩) : Value) :: (.pointer (some ⟨nq + 1, 0, none⟩) : Value) :: (undef : Value) :: (undef : Value) :: (.bool true : Value) :: (.bool false : Value) :: (.pointer (some ⟨w.heap.size, 2, none⟩) : Value) :: (t14 : Value) :: (t15 : Value) :: (.bool ([tc].all rightM) : Value) :: (.bool ![tc].all rightM : Value) :: (.bool ![tc].all rightM : Value) :: (t19 : Value) :: (t20 : Value) :: (t21 : Value) :: (t22 : Value) :: (.bool (![tc].all rightM || !plainS t.fst t.snd) : Value) :: (.bool (![tc].all rightM || !plainS t.fst t.snd) : Value) :: (t25 : Value) :: (t26 : Value) :: (t27 : Value) :: (.bool (![tc].all rightM || !plainS t.fst t.snd || !plainS mid.fst mid.snd) : Value) :: (.bool (![tc].all rightM || !plainS t.fst t.snd || !plainS mid.fst mid.snd) : Value) :: (t30 : Value) :: (t31 : Value) :: (t32 : Value) :: (.bool (![tc].all rightM || !plainS t.fst t.snd || !plainS mid.fst mid.snd || !plainS want.fst want.snd) : Value) :: (.bool (![tc].all rightM || !plainS t.fst t.snd || !plainS mid.fst mid.snd || !plainS want.fst want.snd) : Value) :: (t35 : Value) :: (t36 : Value) :: (t37 : Value) :: (t38 : Value) :: (.bool false : Value) :: (.pointer (some ⟨w.heap.size, 0, none⟩) : Value) :: (t41 : Value) :: (.pointer (some ⟨w.heap.size, 2, none⟩) : Value) :: (t43 : Value) :: (t44 : Value) :: (.int .i64 (riseI t tc want) : Value) :: (.bool (riseI t tc want == 0) : Value) :: (.bool (riseI t tc want == 0) : Value) :: (t48 : Value) :: (t49 : Value) :: (t50 : Value) :: (t51 : Value) :: (.bool (riseI t tc want == 0 && rleM t mid) : Value) :: (.bool (riseI t tc want == 0 && rleM t mid) : Value) :: (t54 : Value) :: (t55 : Value) :: (t56 : Value) :: (.bool true : Value) :: (.pointer (some ⟨w.heap.size, 0, none⟩) : Value) :: (t59 : Value) :: (.pointer (some ⟨w.heap.size, 2, none⟩) : Value) :: (t61 : Value) :: (t62 : Value) :: (.int .i64 (riseI t tc mid) : Value) :: (.bool (riseI t tc mid != 0) : Value) :: (.bool (riseI t tc mid != 0) : Value) :: (t66 : Value) :: (t67 : Value) :: (t68 : Value) :: (t69 : Value) :: (t70 : Value) :: (t71 : Value) :: (.bool false : Value) :: (.agg #[.int .i64 1, .slice none 0 0] : Value) :: (.agg #[.int .i64 4, .slice none 0 0] : Value) :: (tm.getD 75 undef : Value) :: (tm.getD 76 undef : Value) :: (tm.getD 77 undef : Value) :: (tm.getD 78 undef : Value) :: (tm.getD 79 undef : Value) :: (tm.getD 80 undef : Value) :: (tm.getD 81 undef : Value) :: (tm.getD 82 undef : Value) :: (tm.getD 83 undef : Value) :: (tm.getD 84 undef : Value) :: (tm.getD 85 undef : Value) :: (undef : Value) :: (undef : Value) :: (undef : Value) :: (undef : Value) :: (undef : Value) :: (undef : Value) :: (undef : Value) :: (undef : Value) :: (undef : Value) :: (undef : Value) :: (undef : Value) :: (undef : Value) :: (undef : Value) :: (undef : Value) :: (undef : Value) :: (undef : Value) :: []) hs (by show (tm.getD 0 undef :: tm.getD 1 undef :: tm.getD 2 undef :: tm.getD 3 undef :: tm.getD 4 undef :: tm.getD 5 undef :: tm.getD 6 undef :: tm.getD 7 undef :: tm.getD 8 undef :: tm.getD 9 undef :: tm.getD 10 undef :: tm.getD 11 undef :: tm.getD 12 undef :: tm.getD 13 undef :: tm.getD 14 undef :: tm.getD 15 undef :: tm.getD 16 undef :: tm.getD 17 undef :: tm.getD 18 undef :: tm.getD 19 undef :: tm.getD 20 undef :: tm.getD 21 undef :: tm.getD 22 undef :: tm.getD 23 undef :: tm.getD 24 undef :: tm.getD 25 undef :: tm.getD 26 undef :: tm.getD 27 undef :: tm.getD 28 undef :: tm.getD 29 undef :: tm.getD 30 undef :: tm.getD 31 undef :: tm.getD 32 undef :: tm.getD 33 undef :: tm.getD 34 undef :: tm.getD 35 undef :: tm.getD 36 undef :: tm.getD 37 undef :: tm.getD 38 undef :: tm.getD 39 undef :: tm.getD 40 undef :: tm.getD 41 undef :: tm.getD 42 undef :: tm.getD 43 undef :: tm.getD 44 undef :: tm.getD 45 undef :: tm.getD 46 undef :: tm.getD 47 undef :: tm.getD 48 undef :: tm.getD 49 undef :: tm.getD 50 undef :: tm.getD 51 undef :: tm.getD 52 undef :: tm.getD 53 undef :: tm.getD 54 undef :: tm.getD 55 undef :: tm.getD 56 undef :: tm.getD 57 undef :: tm.getD 58 undef :: tm.getD 59 undef :: tm.getD 60 undef :: tm.getD 61 undef :: tm.getD 62 undef :: tm.getD 63 undef :: tm.getD 64 undef :: tm.getD 65 undef :: tm.getD 66 undef :: tm.getD 67 undef :: tm.getD 68 undef :: tm.getD 69 undef :: tm.getD 70 undef :: tm.getD 71 undef :: tm.getD 72 undef :: tm.getD 73 undef :: tm.getD 74 undef :: tm.getD 75 undef :: tm.getD 76 undef :: tm.getD 77 undef :: tm.getD 78 undef :: tm.getD 79 undef :: tm.getD 80 undef :: tm.getD 81 undef :: tm.getD 82 undef :: tm.getD 83 undef :: tm.getD 84 undef :: tm.getD 85 undef :: tm.getD 86 undef :: tm.getD 87 undef :: tm.getD 88 undef :: tm.getD 89 undef :: tm.getD 90 undef :: tm.getD 91 undef :: tm.getD 92 undef :: tm.getD 93 undef :: tm.getD 94 undef :: tm.getD 95 undef :: tm.getD 96 undef :: tm.getD 97 undef :: tm.getD 98 undef :: tm.getD 99 undef :: tm.getD 100 undef :: tm.getD 101 undef :: []) = _; rw [e0, e1, e2, e3, e4, e5, e6, e7, e8, e9, e10, e11, e12, e13, e14, e15, e16, e17, e18, e19, e20, e21, e22, e23, e24, e25, e26, e27, e28, e29, e30, e31, e32, e33, e34, e35, e36, e37, e38, e39, e40, e41, e42, e43, e44, e45, e46, e47, e48, e49, e50, e51, e52, e53, e54, e55, e56, e57, e58, e59, e60, e61, e62, e63, e64, e65, e66, e67, e68, e69, e70, e71, e72, e73, e74, e86, e87, e88, e89, e90, e91, e92, e93, e94, e95, e96, e97, e98, e99, e100, e101]; try rfl)
              clear hs hk hG e0 e1 e2 e3 e4 e5 e6 e7 e8 e9 e10 e11 e12 e13 e14 e15 e16 e17 e18 e19 e20 e21 e22 e23 e24 e25 e26 e27 e28 e29 e30 e31 e32 e33 e34 e35 e36 e37 e38 e39 e40 e41 e42 e43 e44 e45 e46 e47 e48 e49 e50 e51 e52 e53 e54 e55 e56 e57 e58 e59 e60 e61 e62 e63 e64 e65 e66 e67 e68 e69 e70 e71 e72 e73 e74 e86 e87 e88 e89 e90 e91 e92 e93 e94 e95 e96 e97 e98 e99 e100 e101
              generalize tm.getD 75 undef = t75 at htm g75
              generalize tm.getD 76 undef = t76 at htm g76
              generalize tm.getD 77 undef = t77 at htm g77
              generalize tm.getD 78 undef = t78 at htm g78
              generalize tm.getD 79 undef = t79 at htm g79
              generalize tm.getD 80 undef = t80 at htm g80
              generalize tm.getD 81 undef = t81 at htm g81
              generalize tm.getD 82 undef = t82 at htm g82
              generalize tm.getD 83 undef = t83 at htm g83
              generalize tm.getD 84 undef = t84 at htm g84
              generalize tm.getD 85 undef = t85 at htm g85
              subst htm
              subst g75
              subst g77
              subst g81
              subst g83
              subst g85
              simp only [List.drop_succ_cons, List.drop_zero]
              have hAR : Below w.heap.size w W := hAQ.trans (hB.mono hAQ.size)
              have hRt := hQt.below hB
              have hRtc := hQtc.below hB
              have hRmid := hQmid.below hB
              have hRwant := hQwant.below hB
              have hRN7 := hQ7.below hB
              have hRN8 := hQ8.below hB
              clear g76 g78 g79 g80 g82 g84 hQt hQtc hQmid hQwant hB hAQ
              clear hQ7 hQ8
              go_wp2_with fail
              refine wp_region_mono 12 (fun kq v W => match kq with | 86 => v = .pointer (some ⟨w.heap.size, 0, none⟩) | 87 => LV t v W | 88 => v = .pointer (some ⟨w.heap.size, 2, none⟩) | 89 => LV tc v W | 90 => v = .bool (rleM t tc) | 91 => v = .bool (rleM t tc) | 92 => ((rleM t tc) = true → LV ((1, []) : ML) v W) | 93 => ((rleM t tc) = true → v = .pointer (some ⟨w.heap.size, 0, none⟩)) | 94 => ((rleM t tc) = true → LV t v W) | 95 => ((rleM t tc) = true → LV (upM t) v W) | 96 => ((rleM t tc) = true → v = .bool (rleM ((1, []) : ML) (upM t))) | 97 => v = .bool ((rleM t tc) && (rleM ((1, []) : ML) (upM t))) | _ => True) (by kernel_rfl) (by kernel_rfl) (by kernel_rfl) (by kernel_rfl) (by simp) (by kernel_rfl) ?_ ?_ ?_
              · intro kq v W W' h hb
                revert h
                try dsimp only
                split
                · intro h; exact h
                · intro h; exact LV.below h hb
                · intro h; exact h
                · intro h; exact LV.below h hb
                · intro h; exact h
                · intro h; exact h
                · intro h' e; have h := h' e; exact LV.below h hb
                · intro h' e; have h := h' e; exact h
                · intro h' e; have h := h' e; exact LV.below h hb
                · intro h' e; have h := h' e; exact LV.below h hb
                · intro h' e; have h := h' e; exact h
                · intro h; exact h
                · intro h; trivial
              · intro a' W hB hs hk i o d ho hd hG
                match i, ho with
                | 0, ho =>
                  obtain rfl : _ = o := Option.some.inj ho
                  obtain rfl : 86 = d := Option.some.inj hd
                  exact .inr ⟨rfl, .inl ⟨_, W, run_fa0 (hk 3 (by kernel_rfl)), Below.refl _ _, rfl⟩⟩
                | 1, ho =>
                  obtain rfl : _ = o := Option.some.inj ho
                  obtain rfl : 87 = d := Option.some.inj hd
                  have g86 : (a'.eval (.tmp 86)) = .pointer (some ⟨w.heap.size, 0, none⟩) := hG ⟨0, .data⟩ (by simp) rfl 86 rfl
                  obtain ⟨v, hr, hv⟩ := run_loadL (ev := a'.eval) (W := W) g86 (hRt.below hB)
                  exact .inr ⟨rfl, .inl ⟨v, W, hr, Below.refl _ _, hv⟩⟩
                | 2, ho =>
                  obtain rfl : _ = o := Option.some.inj ho
                  obtain rfl : 88 = d := Option.some.inj hd
                  exact .inr ⟨rfl, .inl ⟨_, W, run_fa1 (hk 3 (by kernel_rfl)), Below.refl _ _, rfl⟩⟩
                | 3, ho =>
                  obtain rfl : _ = o := Option.some.inj ho
                  obtain rfl : 89 = d := Option.some.inj hd
                  have g88 : (a'.eval (.tmp 88)) = .pointer (some ⟨w.heap.size, 2, none⟩) := hG ⟨2, .data⟩ (by simp) rfl 88 rfl
                  obtain ⟨v, hr, hv⟩ := run_loadL (ev := a'.eval) (W := W) g88 (hRtc.below hB)
                  exact .inr ⟨rfl, .inl ⟨v, W, hr, Below.refl _ _, hv⟩⟩
                | 4, ho =>
                  obtain rfl : _ = o := Option.some.inj ho
                  obtain rfl : 90 = d := Option.some.inj hd
                  have g87 : LV t (a'.eval (.tmp 87)) W := hG ⟨1, .data⟩ (by simp) rfl 87 rfl
                  have g89 : LV tc (a'.eval (.tmp 89)) W := hG ⟨3, .data⟩ (by simp) rfl 89 rfl
                  exact .inr ⟨rfl, .inr ⟨_, _, run_call rfl map_2 ent_gatehouseref01_Leq, rLeq_c g87 g89⟩⟩
                | 5, ho =>
                  obtain rfl : _ = o := Option.some.inj ho
                  obtain rfl : 91 = d := Option.some.inj hd
                  have g90 : (a'.eval (.tmp 90)) = .bool (rleM t tc) := hG ⟨4, .data⟩ (by simp) rfl 90 rfl
                  exact .inr ⟨rfl, .inl ⟨_, W, run_move rfl, Below.refl _ _, g90⟩⟩
                | 6, ho =>
                  obtain rfl : _ = o := Option.some.inj ho
                  obtain rfl : 92 = d := Option.some.inj hd
                  have gg : a'.eval (.tmp 91) = .bool (rleM t tc) := hG ⟨5, .guard⟩ (by simp) rfl 91 rfl
                  by_cases hgc_ : (rleM t tc) = true
                  · obtain ⟨v, hr, hv⟩ := run_loadL (ev := a'.eval) (W := W) (hk 7 (by kernel_rfl)) (hRN7.below hB)
                    exact .inr ⟨want_yes (n := 102) (d := 91) rfl hs (by decide) rfl (gg.trans (by rw [hgc_])), .inl ⟨v, W, hr, Below.refl _ _, fun _ => hv⟩⟩
                  · exact .inl ⟨want_no (n := 102) (d := 91) rfl hs (by decide) rfl gg hgc_, fun e => absurd e hgc_⟩
                | 7, ho =>
                  obtain rfl : _ = o := Option.some.inj ho
                  obtain rfl : 93 = d := Option.some.inj hd
                  have gg : a'.eval (.tmp 91) = .bool (rleM t tc) := hG ⟨5, .guard⟩ (by simp) rfl 91 rfl
                  by_cases hgc_ : (rleM t tc) = true
                  · exact .inr ⟨want_yes (n := 102) (d := 91) rfl hs (by decide) rfl (gg.trans (by rw [hgc_])), .inl ⟨_, W, run_fa0 (hk 3 (by kernel_rfl)), Below.refl _ _, fun _ => rfl⟩⟩
                  · exact .inl ⟨want_no (n := 102) (d := 91) rfl hs (by decide) rfl gg hgc_, fun e => absurd e hgc_⟩
                | 8, ho =>
                  obtain rfl : _ = o := Option.some.inj ho
                  obtain rfl : 94 = d := Option.some.inj hd
                  have gg : a'.eval (.tmp 91) = .bool (rleM t tc) := hG ⟨5, .guard⟩ (by simp) rfl 91 rfl
                  by_cases hgc_ : (rleM t tc) = true
                  · have g93 : (a'.eval (.tmp 93)) = .pointer (some ⟨w.heap.size, 0, none⟩) := hG ⟨7, .data⟩ (by simp) rfl 93 rfl hgc_
                    obtain ⟨v, hr, hv⟩ := run_loadL (ev := a'.eval) (W := W) g93 (hRt.below hB)
                    exact .inr ⟨want_yes (n := 102) (d := 91) rfl hs (by decide) rfl (gg.trans (by rw [hgc_])), .inl ⟨v, W, hr, Below.refl _ _, fun _ => hv⟩⟩
                  · exact .inl ⟨want_no (n := 102) (d := 91) rfl hs (by decide) rfl gg hgc_, fun e => absurd e hgc_⟩
                | 9, ho =>
                  obtain rfl : _ = o := Option.some.inj ho
                  obtain rfl : 95 = d := Option.some.inj hd
                  have gg : a'.eval (.tmp 91) = .bool (rleM t tc) := hG ⟨5, .guard⟩ (by simp) rfl 91 rfl
                  by_cases hgc_ : (rleM t tc) = true
                  · have g94 : LV t (a'.eval (.tmp 94)) W := hG ⟨8, .data⟩ (by simp) rfl 94 rfl hgc_
                    exact .inr ⟨want_yes (n := 102) (d := 91) rfl hs (by decide) rfl (gg.trans (by rw [hgc_])), .inr ⟨_, _, run_call rfl map_1 ent_gatehouseref01_Up, (rUp_c g94).mono (fun e W' ⟨v, he, hb, hv⟩ => ⟨v, he, hb, fun _ => hv⟩)⟩⟩
                  · exact .inl ⟨want_no (n := 102) (d := 91) rfl hs (by decide) rfl gg hgc_, fun e => absurd e hgc_⟩
                | 10, ho =>
                  obtain rfl : _ = o := Option.some.inj ho
                  obtain rfl : 96 = d := Option.some.inj hd
                  have gg : a'.eval (.tmp 91) = .bool (rleM t tc) := hG ⟨5, .guard⟩ (by simp) rfl 91 rfl
                  by_cases hgc_ : (rleM t tc) = true
                  · have g92 : LV ((1, []) : ML) (a'.eval (.tmp 92)) W := hG ⟨6, .data⟩ (by simp) rfl 92 rfl hgc_
                    have g95 : LV (upM t) (a'.eval (.tmp 95)) W := hG ⟨9, .data⟩ (by simp) rfl 95 rfl hgc_
                    exact .inr ⟨want_yes (n := 102) (d := 91) rfl hs (by decide) rfl (gg.trans (by rw [hgc_])), .inr ⟨_, _, run_call rfl map_2 ent_gatehouseref01_Leq, (rLeq_c g92 g95).mono (fun e W' ⟨v, he, hb, hv⟩ => ⟨v, he, hb, fun _ => hv⟩)⟩⟩
                  · exact .inl ⟨want_no (n := 102) (d := 91) rfl hs (by decide) rfl gg hgc_, fun e => absurd e hgc_⟩
                | 11, ho =>
                  obtain rfl : _ = o := Option.some.inj ho
                  obtain rfl : 97 = d := Option.some.inj hd
                  have g91 : (a'.eval (.tmp 91)) = .bool (rleM t tc) := hG ⟨5, .data⟩ (by simp) rfl 91 rfl
                  by_cases hq : (rleM t tc) = true
                  · exact .inr ⟨rfl, .inl ⟨_, W, run_pick_yes (g91.trans (by rw [hq])) (hG ⟨10, .data⟩ (by simp) rfl 96 rfl hq), Below.refl _ _, by rw [hq]; rfl⟩⟩
                  · have hq' : (rleM t tc) = false := by simpa using hq
                    exact .inr ⟨rfl, .inl ⟨_, W, run_pick_no (g91.trans (by rw [hq'])) rfl, Below.refl _ _, by rw [hq']; rfl⟩⟩
                | j + 12, ho => simp at ho
              · intro a' W hB hs hdf hk hG
                obtain ⟨tm, df⟩ := a'
                obtain rfl : df = [] := hdf
                have e0 : tm.getD 0 undef = .agg #[.int .i64 t.fst, .slice pt t.snd.length ct, .int .i64 tc.fst, .slice ptc tc.snd.length ctc] := hk 0 (by kernel_rfl)
                have e1 : tm.getD 1 undef = .agg #[.int .i64 mid.fst, .slice pmid mid.snd.length cmid] := hk 1 (by kernel_rfl)
                have e2 : tm.getD 2 undef = .agg #[.int .i64 want.fst, .slice pwant want.snd.length cwant] := hk 2 (by kernel_rfl)
                have e3 : tm.getD 3 undef = .pointer (some ⟨w.heap.size, 0, none⟩) := hk 3 (by kernel_rfl)
                have e4 : tm.getD 4 undef = .pointer (some ⟨w.heap.size + 1, 0, none⟩) := hk 4 (by kernel_rfl)
                have e5 : tm.getD 5 undef = .pointer (some ⟨w.heap.size + 1 + 1, 0, none⟩) := hk 5 (by kernel_rfl)
                have e6 : tm.getD 6 undef = .bool false := hk 6 (by kernel_rfl)
                have e7 : tm.getD 7 undef = .pointer (some ⟨nq, 0, none⟩) := hk 7 (by kernel_rfl)
                have e8 : tm.getD 8 undef = .pointer (some ⟨nq + 1, 0, none⟩) := hk 8 (by kernel_rfl)
                have e9 : tm.getD 9 undef = .int .i64 (enterI t tc (1, []) (4, []) t tc) := hk 9 (by kernel_rfl)
                have e10 : tm.getD 10 undef = undef := hk 10 (by kernel_rfl)
                have e11 : tm.getD 11 undef = .bool true := hk 11 (by kernel_rfl)
                have e12 : tm.getD 12 undef = .bool false := hk 12 (by kernel_rfl)
                have e13 : tm.getD 13 undef = .pointer (some ⟨w.heap.size, 2, none⟩) := hk 13 (by kernel_rfl)
                have e14 : tm.getD 14 undef = t14 := hk 14 (by kernel_rfl)
                have e15 : tm.getD 15 undef = t15 := hk 15 (by kernel_rfl)
                have e16 : tm.getD 16 undef = .bool ([tc].all rightM) := hk 16 (by kernel_rfl)
                have e17 : tm.getD 17 undef = .bool ![tc].all rightM := hk 17 (by kernel_rfl)
                have e18 : tm.getD 18 undef = .bool ![tc].all rightM := hk 18 (by kernel_rfl)
                have e19 : tm.getD 19 undef = t19 := hk 19 (by kernel_rfl)
                have e20 : tm.getD 20 undef = t20 := hk 20 (by kernel_rfl)
                have e21 : tm.getD 21 undef = t21 := hk 21 (by kernel_rfl)
                have e22 : tm.getD 22 undef = t22 := hk 22 (by kernel_rfl)
                have e23 : tm.getD 23 undef = .bool (![tc].all rightM || !plainS t.fst t.snd) := hk 23 (by kernel_rfl)
                have e24 : tm.getD 24 undef = .bool (![tc].all rightM || !plainS t.fst t.snd) := hk 24 (by kernel_rfl)
                have e25 : tm.getD 25 undef = t25 := hk 25 (by kernel_rfl)
                have e26 : tm.getD 26 undef = t26 := hk 26 (by kernel_rfl)
                have e27 : tm.getD 27 undef = t27 := hk 27 (by kernel_rfl)
                have e28 : tm.getD 28 undef = .bool (![tc].all rightM || !plainS t.fst t.snd || !plainS mid.fst mid.snd) := hk 28 (by kernel_rfl)
                have e29 : tm.getD 29 undef = .bool (![tc].all rightM || !plainS t.fst t.snd || !plainS mid.fst mid.snd) := hk 29 (by kernel_rfl)
                have e30 : tm.getD 30 undef = t30 := hk 30 (by kernel_rfl)
                have e31 : tm.getD 31 undef = t31 := hk 31 (by kernel_rfl)
                have e32 : tm.getD 32 undef = t32 := hk 32 (by kernel_rfl)
                have e33 : tm.getD 33 undef = .bool (![tc].all rightM || !plainS t.fst t.snd || !plainS mid.fst mid.snd || !plainS want.fst want.snd) := hk 33 (by kernel_rfl)
                have e34 : tm.getD 34 undef = .bool (![tc].all rightM || !plainS t.fst t.snd || !plainS mid.fst mid.snd || !plainS want.fst want.snd) := hk 34 (by kernel_rfl)
                have e35 : tm.getD 35 undef = t35 := hk 35 (by kernel_rfl)
                have e36 : tm.getD 36 undef = t36 := hk 36 (by kernel_rfl)
                have e37 : tm.getD 37 undef = t37 := hk 37 (by kernel_rfl)
                have e38 : tm.getD 38 undef = t38 := hk 38 (by kernel_rfl)
                have e39 : tm.getD 39 undef = .bool false := hk 39 (by kernel_rfl)
                have e40 : tm.getD 40 undef = .pointer (some ⟨w.heap.size, 0, none⟩) := hk 40 (by kernel_rfl)
                have e41 : tm.getD 41 undef = t41 := hk 41 (by kernel_rfl)
                have e42 : tm.getD 42 undef = .pointer (some ⟨w.heap.size, 2, none⟩) := hk 42 (by kernel_rfl)
                have e43 : tm.getD 43 undef = t43 := hk 43 (by kernel_rfl)
                have e44 : tm.getD 44 undef = t44 := hk 44 (by kernel_rfl)
                have e45 : tm.getD 45 undef = .int .i64 (riseI t tc want) := hk 45 (by kernel_rfl)
                have e46 : tm.getD 46 undef = .bool (riseI t tc want == 0) := hk 46 (by kernel_rfl)
                have e47 : tm.getD 47 undef = .bool (riseI t tc want == 0) := hk 47 (by kernel_rfl)
                have e48 : tm.getD 48 undef = t48 := hk 48 (by kernel_rfl)
                have e49 : tm.getD 49 undef = t49 := hk 49 (by kernel_rfl)
                have e50 : tm.getD 50 undef = t50 := hk 50 (by kernel_rfl)
                have e51 : tm.getD 51 undef = t51 := hk 51 (by kernel_rfl)
                have e52 : tm.getD 52 undef = .bool (riseI t tc want == 0 && rleM t mid) := hk 52 (by kernel_rfl)
                have e53 : tm.getD 53 undef = .bool (riseI t tc want == 0 && rleM t mid) := hk 53 (by kernel_rfl)
                have e54 : tm.getD 54 undef = t54 := hk 54 (by kernel_rfl)
                have e55 : tm.getD 55 undef = t55 := hk 55 (by kernel_rfl)
                have e56 : tm.getD 56 undef = t56 := hk 56 (by kernel_rfl)
                have e57 : tm.getD 57 undef = .bool true := hk 57 (by kernel_rfl)
                have e58 : tm.getD 58 undef = .pointer (some ⟨w.heap.size, 0, none⟩) := hk 58 (by kernel_rfl)
                have e59 : tm.getD 59 undef = t59 := hk 59 (by kernel_rfl)
                have e60 : tm.getD 60 undef = .pointer (some ⟨w.heap.size, 2, none⟩) := hk 60 (by kernel_rfl)
                have e61 : tm.getD 61 undef = t61 := hk 61 (by kernel_rfl)
                have e62 : tm.getD 62 undef = t62 := hk 62 (by kernel_rfl)
                have e63 : tm.getD 63 undef = .int .i64 (riseI t tc mid) := hk 63 (by kernel_rfl)
                have e64 : tm.getD 64 undef = .bool (riseI t tc mid != 0) := hk 64 (by kernel_rfl)
                have e65 : tm.getD 65 undef = .bool (riseI t tc mid != 0) := hk 65 (by kernel_rfl)
                have e66 : tm.getD 66 undef = t66 := hk 66 (by kernel_rfl)
                have e67 : tm.getD 67 undef = t67 := hk 67 (by kernel_rfl)
                have e68 : tm.getD 68 undef = t68 := hk 68 (by kernel_rfl)
                have e69 : tm.getD 69 undef = t69 := hk 69 (by kernel_rfl)
                have e70 : tm.getD 70 undef = t70 := hk 70 (by kernel_rfl)
                have e71 : tm.getD 71 undef = t71 := hk 71 (by kernel_rfl)
                have e72 : tm.getD 72 undef = .bool false := hk 72 (by kernel_rfl)
                have e73 : tm.getD 73 undef = .agg #[.int .i64 1, .slice none 0 0] := hk 73 (by kernel_rfl)
                have e74 : tm.getD 74 undef = .agg #[.int .i64 4, .slice none 0 0] := hk 74 (by kernel_rfl)
                have e75 : tm.getD 75 undef = .pointer (some ⟨w.heap.size, 0, none⟩) := hk 75 (by kernel_rfl)
                have e76 : tm.getD 76 undef = t76 := hk 76 (by kernel_rfl)
                have e77 : tm.getD 77 undef = .pointer (some ⟨w.heap.size, 2, none⟩) := hk 77 (by kernel_rfl)
                have e78 : tm.getD 78 undef = t78 := hk 78 (by kernel_rfl)
                have e79 : tm.getD 79 undef = t79 := hk 79 (by kernel_rfl)
                have e80 : tm.getD 80 undef = t80 := hk 80 (by kernel_rfl)
                have e81 : tm.getD 81 undef = .pointer (some ⟨w.heap.size, 0, none⟩) := hk 81 (by kernel_rfl)
                have e82 : tm.getD 82 undef = t82 := hk 82 (by kernel_rfl)
                have e83 : tm.getD 83 undef = .pointer (some ⟨w.heap.size, 2, none⟩) := hk 83 (by kernel_rfl)
                have e84 : tm.getD 84 undef = t84 := hk 84 (by kernel_rfl)
                have e85 : tm.getD 85 undef = .int .i64 (enterI t tc (1, []) (4, []) t tc) := hk 85 (by kernel_rfl)
                have e98 : tm.getD 98 undef = undef := hk 98 (by kernel_rfl)
                have e99 : tm.getD 99 undef = undef := hk 99 (by kernel_rfl)
                have e100 : tm.getD 100 undef = undef := hk 100 (by kernel_rfl)
                have e101 : tm.getD 101 undef = undef := hk 101 (by kernel_rfl)
                have g86 : (tm.getD 86 undef) = .pointer (some ⟨w.heap.size, 0, none⟩) := hG 0 86 (by decide) rfl
                have g87 : LV t (tm.getD 87 undef) W := hG 1 87 (by decide) rfl
                have g88 : (tm.getD 88 undef) = .pointer (some ⟨w.heap.size, 2, none⟩) := hG 2 88 (by decide) rfl
                have g89 : LV tc (tm.getD 89 undef) W := hG 3 89 (by decide) rfl
                have g90 : (tm.getD 90 undef) = .bool (rleM t tc) := hG 4 90 (by decide) rfl
                have g91 : (tm.getD 91 undef) = .bool (rleM t tc) := hG 5 91 (by decide) rfl
                have g92 : (rleM t tc) = true → LV ((1, []) : ML) (tm.getD 92 undef) W := hG 6 92 (by decide) rfl
                have g93 : (rleM t tc) = true → (tm.getD 93 undef) = .pointer (some ⟨w.heap.size, 0, none⟩) := hG 7 93 (by decide) rfl
                have g94 : (rleM t tc) = true → LV t (tm.getD 94 undef) W := hG 8 94 (by decide) rfl
                have g95 : (rleM t tc) = true → LV (upM t) (tm.getD 95 undef) W := hG 9 95 (by decide) rfl
                have g96 : (rleM t tc) = true → (tm.getD 96 undef) = .bool (rleM ((1, []) : ML) (upM t)) := hG 10 96 (by decide) rfl
                have g97 : (tm.getD 97 undef) = .bool ((rleM t tc) && (rleM ((1, []) : ML) (upM t))) := hG 11 97 (by decide) rfl
                have htm := arr_of tm ((.agg #[.int .i64 t.fst, .slice pt t.snd.length ct, .int .i64 tc.fst, .slice ptc tc.snd.length ctc] : Value) :: (.agg #[.int .i64 mid.fst, .slice pmid mid.snd.length cmid] : Value) :: (.agg #[.int .i64 want.fst, .slice pwant want.snd.length cwant] : Value) :: (.pointer (some ⟨w.heap.size, 0, none⟩) : Value) :: (.pointer (some ⟨w.heap.size + 1, 0, none⟩) : Value) :: (.pointer (some ⟨w.heap.size + 1 + 1, 0, none⟩) : Value) :: (.bool false : Value) :: (.pointer (some ⟨nq, 0, none⟩) : Value) :: (.pointer (some ⟨nq + 1, 0, none⟩) : Value) :: (.int .i64 (enterI t tc (1, []) (4, []) t tc) : Value) :: (undef : Value) :: (.bool true : Value) :: (.bool false : Value) :: (.pointer (some ⟨w.heap.size, 2, none⟩) : Value) :: (t14 : Value) :: (t15 : Value) :: (.bool ([tc].all rightM) : Value) :: (.bool ![tc].all rightM : Value) :: (.bool ![tc].all rightM : Value) :: (t19 : Value) :: (t20 : Value) :: (t21 : Value) :: (t22 : Value) :: (.bool (![tc].all rightM || !plainS t.fst t.snd) : Value) :: (.bool (![tc].all rightM || !plainS t.fst t.snd) : Value) :: (t25 : Value) :: (t26 : Value) :: (t27 : Value) :: (.bool (![tc].all rightM || !plainS t.fst t.snd || !plainS mid.fst mid.snd) : Value) :: (.bool (![tc].all rightM || !plainS t.fst t.snd || !plainS mid.fst mid.snd) : Value) :: (t30 : Value) :: (t31 : Value) :: (t32 : Value) :: (.bool (![tc].all rightM || !plainS t.fst t.snd || !plainS mid.fst mid.snd || !plainS want.fst want.snd) : Value) :: (.bool (![tc].all rightM || !plainS t.fst t.snd || !plainS mid.fst mid.snd || !plainS want.fst want.snd) : Value) :: (t35 : Value) :: (t36 : Value) :: (t37 : Value) :: (t38 : Value) :: (.bool false : Value) :: (.pointer (some ⟨w.heap.size, 0, none⟩) : Value) :: (t41 : Value) :: (.pointer (some ⟨w.heap.size, 2, none⟩) : Value) :: (t43 : Value) :: (t44 : Value) :: (.int .i64 (riseI t tc want) : Value) :: (.bool (riseI t tc want == 0) : Value) :: (.bool (riseI t tc want == 0) : Value) :: (t48 : Value) :: (t49 : Value) :: (t50 : Value) :: (t51 : Value) :: (.bool (riseI t tc want == 0 && rleM t mid) : Value) :: (.bool (riseI t tc want == 0 && rleM t mid) : Value) :: (t54 : Value) :: (t55 : Value) :: (t56 : Value) :: (.bool true : Value) :: (.pointer (some ⟨w.heap.size, 0, none⟩) : Value) :: (t59 : Value) :: (.pointer (some ⟨w.heap.size, 2, none⟩) : Value) :: (t61 : Value) :: (t62 : Value) :: (.int .i64 (riseI t tc mid) : Value) :: (.bool (riseI t tc mid != 0) : Value) :: (.bool (riseI t tc mid != 0) : Value) :: (t66 : Value) :: (t67 : Value) :: (t68 : Value) :: (t69 : Value) :: (t70 : Value) :: (t71 : Value) :: (.bool false : Value) :: (.agg #[.int .i64 1, .slice none 0 0] : Value) :: (.agg #[.int .i64 4, .slice none 0 0] : Value) :: (.pointer (some ⟨w.heap.size, 0, none⟩) : Value) :: (t76 : Value) :: (.pointer (some ⟨w.heap.size, 2, none⟩) : Value) :: (t78 : Value) :: (t79 : Value) :: (t80 : Value) :: (.pointer (some ⟨w.heap.size, 0, none⟩) : Value) :: (t82 : Value) :: (.pointer (some ⟨w.heap.size, 2, none⟩) : Value) :: (t84 : Value) :: (.int .i64 (enterI t tc (1, []) (4, []) t tc) : Value) :: (tm.getD 86 undef : Value) :: (tm.getD 87 undef : Value) :: (tm.getD 88 undef : Value) :: (tm.getD 89 undef : Value) :: (tm.getD 90 undef : Value) :: (tm.getD 91 undef : Value) :: (tm.getD 92 undef : Value) :: (tm.getD 93 undef : Value) :: (tm.getD 94 undef : Value) :: (tm.getD 95 undef : Value) :: (tm.getD 96 undef : Value) :: (tm.getD 97 undef : Value) :: (undef : Value) :: (undef : Value) :: (undef : Value) :: (undef : Value) :: []) hs (by show (tm.getD 0 undef :: tm.getD 1 undef :: tm.getD 2 undef :: tm.getD 3 undef :: tm.getD 4 undef :: tm.getD 5 undef :: tm.getD 6 undef :: tm.getD 7 undef :: tm.getD 8 undef :: tm.getD 9 undef :: tm.getD 10 undef :: tm.getD 11 undef :: tm.getD 12 undef :: tm.getD 13 undef :: tm.getD 14 undef :: tm.getD 15 undef :: tm.getD 16 undef :: tm.getD 17 undef :: tm.getD 18 undef :: tm.getD 19 undef :: tm.getD 20 undef :: tm.getD 21 undef :: tm.getD 22 undef :: tm.getD 23 undef :: tm.getD 24 undef :: tm.getD 25 undef :: tm.getD 26 undef :: tm.getD 27 undef :: tm.getD 28 undef :: tm.getD 29 undef :: tm.getD 30 undef :: tm.getD 31 undef :: tm.getD 32 undef :: tm.getD 33 undef :: tm.getD 34 undef :: tm.getD 35 undef :: tm.getD 36 undef :: tm.getD 37 undef :: tm.getD 38 undef :: tm.getD 39 undef :: tm.getD 40 undef :: tm.getD 41 undef :: tm.getD 42 undef :: tm.getD 43 undef :: tm.getD 44 undef :: tm.getD 45 undef :: tm.getD 46 undef :: tm.getD 47 undef :: tm.getD 48 undef :: tm.getD 49 undef :: tm.getD 50 undef :: tm.getD 51 undef :: tm.getD 52 undef :: tm.getD 53 undef :: tm.getD 54 undef :: tm.getD 55 undef :: tm.getD 56 undef :: tm.getD 57 undef :: tm.getD 58 undef :: tm.getD 59 undef :: tm.getD 60 undef :: tm.getD 61 undef :: tm.getD 62 undef :: tm.getD 63 undef :: tm.getD 64 undef :: tm.getD 65 undef :: tm.getD 66 undef :: tm.getD 67 undef :: tm.getD 68 undef :: tm.getD 69 undef :: tm.getD 70 undef :: tm.getD 71 undef :: tm.getD 72 undef :: tm.getD 73 undef :: tm.getD 74 undef :: tm.getD 75 undef :: tm.getD 76 undef :: tm.getD 77 undef :: tm.getD 78 undef :: tm.getD 79 undef :: tm.getD 80 undef :: tm.getD 81 undef :: tm.getD 82 undef :: tm.getD 83 undef :: tm.getD 84 undef :: tm.getD 85 undef :: tm.getD 86 undef :: tm.getD 87 undef :: tm.getD 88 undef :: tm.getD 89 undef :: tm.getD 90 undef :: tm.getD 91 undef :: tm.getD 92 undef :: tm.getD 93 undef :: tm.getD 94 undef :: tm.getD 95 undef :: tm.getD 96 undef :: tm.getD 97 undef :: tm.getD 98 undef :: tm.getD 99 undef :: tm.getD 100 undef :: tm.getD 101 undef :: []) = _; rw [e0, e1, e2, e3, e4, e5, e6, e7, e8, e9, e10, e11, e12, e13, e14, e15, e16, e17, e18, e19, e20, e21, e22, e23, e24, e25, e26, e27, e28, e29, e30, e31, e32, e33, e34, e35, e36, e37, e38, e39, e40, e41, e42, e43, e44, e45, e46, e47, e48, e49, e50, e51, e52, e53, e54, e55, e56, e57, e58, e59, e60, e61, e62, e63, e64, e65, e66, e67, e68, e69, e70, e71, e72, e73, e74, e75, e76, e77, e78, e79, e80, e81, e82, e83, e84, e85, e98, e99, e100, e101]; try rfl)
                clear hs hk hG e0 e1 e2 e3 e4 e5 e6 e7 e8 e9 e10 e11 e12 e13 e14 e15 e16 e17 e18 e19 e20 e21 e22 e23 e24 e25 e26 e27 e28 e29 e30 e31 e32 e33 e34 e35 e36 e37 e38 e39 e40 e41 e42 e43 e44 e45 e46 e47 e48 e49 e50 e51 e52 e53 e54 e55 e56 e57 e58 e59 e60 e61 e62 e63 e64 e65 e66 e67 e68 e69 e70 e71 e72 e73 e74 e75 e76 e77 e78 e79 e80 e81 e82 e83 e84 e85 e98 e99 e100 e101
                generalize tm.getD 86 undef = t86 at htm g86
                generalize tm.getD 87 undef = t87 at htm g87
                generalize tm.getD 88 undef = t88 at htm g88
                generalize tm.getD 89 undef = t89 at htm g89
                generalize tm.getD 90 undef = t90 at htm g90
                generalize tm.getD 91 undef = t91 at htm g91
                generalize tm.getD 92 undef = t92 at htm g92
                generalize tm.getD 93 undef = t93 at htm g93
                generalize tm.getD 94 undef = t94 at htm g94
                generalize tm.getD 95 undef = t95 at htm g95
                generalize tm.getD 96 undef = t96 at htm g96
                generalize tm.getD 97 undef = t97 at htm g97
                subst htm
                subst g86
                subst g88
                subst g90
                subst g91
                subst g97
                simp only [List.drop_succ_cons, List.drop_zero]
                have hAS : Below w.heap.size w W := hAR.trans (hB.mono hAR.size)
                have hSt := hRt.below hB
                have hStc := hRtc.below hB
                have hSmid := hRmid.below hB
                have hSwant := hRwant.below hB
                have hSN7 := hRN7.below hB
                have hSN8 := hRN8.below hB
                clear g87 g89 g92 g93 g94 g95 g96 hRt hRtc hRmid hRwant hB hAR
                have HV := HS.out
                obtain ⟨ea, hea⟩ : ∃ ea, enterI t tc ((1, []) : ML) ((4, []) : ML) t tc = ea := ⟨_, rfl⟩
                obtain ⟨eb, heb⟩ : ∃ eb, (rleM t tc && rleM ((1, []) : ML) (upM t)) = eb := ⟨_, rfl⟩
                rw [hea, heb] at HV
                simp only [hea, heb]
                clear hea heb HS HM hRN7 hRN8 hSN7 hSN8 hSt hStc hSmid hSwant
                have HV2 : ((ea == 0) == eb) = true := HV
                cases eb with
                | true =>
                  have hz : (ea == 0) = true := by simpa using HV2
                  go_wp2
                  go_ret
                  first | exact ⟨rfl, hAS⟩ | exact ⟨by simp [hz], hAS⟩ | exact hAS
                | false =>
                  have hz : (ea == 0) = false := by simpa using HV2
                  go_wp2
                  go_ret
                  first | exact ⟨rfl, hAS⟩ | exact ⟨by simp [hz], hAS⟩ | exact hAS
end Go.Proofs.Ytnjmgholoigpkab
