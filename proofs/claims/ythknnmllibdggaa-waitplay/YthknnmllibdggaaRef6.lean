/- What Post, Take, Forget and Copy of the reference do: the rest. -/
import Derived.Test.YthknnmllibdggaaRef5
namespace Go.Proofs.Ythknnmllibdggaa
open Go.RowKit Go.Sort
theorem rPost_any (w : World) (qb : Nat) (G : Nat → Prop) (ra rl : List Who) (N : Nat) (t c : Int) (h : RFx w qb G ra rl N) (hN : N < 800000) (h8 : (ofL rl t).length ≤ 8) :
    Calls Try.prog 32 #[pv qb, .int .i64 t, .int .i64 c] w fun e w' => e = .returned (.tuple #[.bool (postW ra (ofL rl) t c), .int .i64 (postE (ofL rl) t c)]) ∧ Nr w w' qb G (if postE (ofL rl) t c = 0 then dropT t ra else ra) (if postE (ofL rl) t c = 0 then rl ++ [(t, 0, c)] else rl) (N + 1) := by
  cases hc : (okN t && (decide (0 ≤ c) && decide (c ≤ 255))) with
  | true => exact rPost_good w qb G ra rl N t c h hN hc h8
  | false =>
    refine (rPost_bad w qb t c hc).mono ?_
    rintro e w' ⟨rfl, rfl⟩
    have he : postE (ofL rl) t c = 1 := by unfold postE; rw [if_pos hc]
    unfold postW
    rw [he, if_neg (by decide), if_neg (by decide)]
    exact ⟨rfl, Nr.still h (Below.refl _ _) (by omega)⟩
set_option maxRecDepth 100000 in
set_option maxHeartbeats 4000000 in
theorem rTake_any (w : World) (qb : Nat) (G : Nat → Prop) (ra rl : List Who) (N : Nat) (t : Int) (h : RFx w qb G ra rl N) (hN : N < 800000) :
    Calls Try.prog 33 #[pv qb, .int .i64 t] w fun e w' => e = .returned (takeV (ofL rl) t) ∧ Nr w w' qb G ra (dropF rl t) N := by
  have HH := Lib.hid h
  have hOf := rOf_any w qb G ra rl N t h (by omega)
  have hl2 := h.lenL
  have HDL := Lib.hid (dropF_len rl t)
  have hno : ofL rl t = [] → dropF rl t = rl := fun e => dropF_no (by
    unfold waitsA; rw [List.any_eq_false]; intro x hx hh
    have : x ∈ rl.filter (fun x => x.1 == t) := List.mem_filter.2 ⟨hx, hh⟩
    unfold ofL selL at e
    rw [List.map_eq_nil_iff.1 e] at this
    simp at this)
  unfold takeV
  cases ho : ofL rl t with
  | nil =>
    rw [hno ho]
    rw [ho] at hOf
    have HOf := Lib.hid hOf
    clear h hOf hno ho
    go_enter Try.func33, Try.ntmps33
    go_wp2_with (go_at_call 38; refine HOf.out.mono ?_; rintro e w4 ⟨v4, rfl, hr4, hb4⟩; obtain ⟨sp4, cp4, rfl⟩ := row_form hr4; have HB4 := Lib.hid hb4; clear hr4 hb4)
    refine bodyPost_ret (v := .tuple #[.int .i64 0, .bool false]) (by simp [results, Try.results33, go_sem]) rfl ⟨rfl, ?_⟩
    exact Nr.still HH.out HB4.out (Nat.le_refl _)
  | cons c rest =>
    rw [ho] at hOf
    have HOf := Lib.hid hOf
    have hle : rest.length + 1 ≤ rl.length := by have := ofL_len rl t; rw [ho] at this; simpa using this
    clear h hOf hno ho
    go_enter Try.func33, Try.ntmps33
    go_wp2_with (go_at_call 38; refine HOf.out.mono ?_; rintro e w4 ⟨v4, rfl, hr4, hb4⟩; refine Hid.out ?_)
    refine Lib.hid ?_
    obtain ⟨sp4, cp4, rfl⟩ := row_form hr4
    obtain ⟨g, og, rfl, hgl, cg⟩ := row_ints hr4 0 (by simp)
    simp only [List.getElem_cons_zero, Nat.add_zero] at cg
    obtain ⟨m4, hm4⟩ : ∃ m4, (c :: rest).length = m4 := ⟨_, rfl⟩
    rw [hm4]
    have hm0 : ((m4 : Int) == 0) = false := by simp; rw [← hm4]; simp
    have hm1 : (0 : Int) < (m4 : Int) := by rw [← hm4]; simp
    obtain ⟨u1, u2, hq4, _, ho4, _, _⟩ := (HH.out.below hb4).rows
    have q1 : w4.cell? ⟨qb, 1, none⟩ = some u2 := by rw [cell_of_row _ _ _ _ _ _ hq4]; rfl
    have HD := Lib.hid (rdrop_any w4 0 u2 rl t ho4 (by omega))
    have HQ := Lib.hid hq4
    have HB4 := Lib.hid hb4
    have hgq : g ≠ qb := fun e => row_ne hr4 hq4 (by decide) (by simp [Value.ownBlock, e])
    have HCG := Lib.hid cg
    have HGL := Lib.hid hgl
    obtain ⟨sp2, cp2, rfl⟩ := row_form ho4
    clear hr4 hb4 hq4 ho4 HOf hm4 cg hgl
    go_wp2_with (go_at_call 53; refine HD.out.mono ?_; rintro e w11 ⟨v11, rfl, hr11, hb11⟩; refine Hid.out ?_)
    refine Lib.hid ?_
    obtain ⟨sp11, cp11, rfl⟩ := row_form hr11
    have hq11 := (hb11.block _ (heap_lt HQ.out)).trans HQ.out
    have z0 : w11.cell? ⟨qb, 1, none⟩ = some _ := (by rw [cell_of_row _ _ _ _ _ _ hq11]; rfl)
    have z1 : w11.frozen? ⟨qb, 1, none⟩ = false := (by simp [World.frozen?, hq11])
    obtain ⟨W5, hW5⟩ : ∃ W5, w11.setCell ⟨qb, 1, none⟩ (.slice sp11 (dropF rl t).length cp11) = W5 := ⟨_, rfl⟩
    have c5 : W5.cell? ⟨g, og, none⟩ = some (.int .i64 c) := by
      have h1 : w11.cell? ⟨g, og, none⟩ = some (.int .i64 c) := (hb11.cell (p := ⟨g, og, none⟩) HGL.out).trans HCG.out
      have h2 : W5.heap[g]? = w11.heap[g]? := by rw [← hW5]; exact heap_ne _ _ _ hgq
      unfold World.cell? at h1 ⊢
      rw [h2]; exact h1
    have HN5 : Hid (Nr w W5 qb G ra (dropF rl t) N) := by
      show Nr w W5 qb G ra (dropF rl t) N
      rw [← hW5]
      exact RFx.setL HH.out (HB4.out.trans (hb11.mono HB4.out.size)) (row_mono hr11 HB4.out.size) (by have := HDL.out; omega) (Nat.le_refl _)
    clear hr11 hb11 hq11 HD
    go_wp2_with fail
    refine bodyPost_ret (v := .tuple #[.int .i64 c, .bool true]) (by simp [results, Try.results33, go_sem]) rfl ⟨rfl, HN5.out⟩
set_option maxRecDepth 100000 in
set_option maxHeartbeats 4000000 in
theorem rForget_any (w : World) (qb : Nat) (G : Nat → Prop) (ra rl : List Who) (N : Nat) (t : Int) (h : RFx w qb G ra rl N) (hN : N < 800000) :
    Calls Try.prog 35 #[pv qb, .int .i64 t] w fun e w' => e = .returned (.bool (waitsA ra t)) ∧ ∃ rl', (∀ s, ofL rl' s = setI (ofL rl) t [] s) ∧ Nr w w' qb G (dropT t ra) rl' N := by
  have HH := Lib.hid h
  have hl1 := h.lenA
  have hl2 := h.lenL
  have hAt : ∃ z : Int, (decide (0 ≤ z)) = waitsA ra t ∧ Calls Try.prog 36 #[pv qb, .int .i64 t] w fun e w' => e = .returned (.int .i64 z) ∧ Below w.heap.size w w' := by
    cases hw : waitsA ra t with
    | false => exact ⟨-1, by decide, rAt_no w qb G ra _ _ t h (by omega) hw⟩
    | true =>
      obtain ⟨m, hm, he, hno, _⟩ := waits_yes hw
      exact ⟨m, by simp, rAt_yes w qb G ra _ _ t h (by omega) m hm he hno⟩
  obtain ⟨z, hz0, hAt⟩ := hAt
  have HAt := Lib.hid hAt
  clear hAt h
  rcases (show (0 ≤ z ∧ waitsA ra t = true) ∨ (¬ 0 ≤ z ∧ waitsA ra t = false) by
    by_cases h : 0 ≤ z
    · exact .inl ⟨h, by rw [← hz0]; simp [h]⟩
    · exact .inr ⟨h, by rw [← hz0]; simp [h]⟩) with ⟨hzz, hwb⟩ | ⟨hzz, hwb⟩
  all_goals
   rw [hwb]
   clear hwb hz0
   go_enter Try.func35, Try.ntmps35
   go_wp2_with (go_at_call 36; refine HAt.out.mono ?_; rintro e w4 ⟨rfl, hb4⟩; refine Hid.out ?_)
   refine Lib.hid ?_
   obtain ⟨u1, u2, hq4, ho4, _, _, _⟩ := (HH.out.below hb4).rows
   have q0 : w4.cell? ⟨qb, 0, none⟩ = some u1 := by rw [cell_of_row _ _ _ _ _ _ hq4]; rfl
   have HD := Lib.hid (rdrop_any w4 0 u1 ra t ho4 (by omega))
   have HQ := Lib.hid hq4
   have HB4 := Lib.hid hb4
   obtain ⟨sp4, cp4, rfl⟩ := row_form ho4
   clear hb4 hq4 ho4 HAt
   go_wp2_with (go_at_call 53; refine HD.out.mono ?_; rintro e w11 ⟨v11, rfl, hr11, hb11⟩; refine Hid.out ?_)
   refine Lib.hid ?_
   obtain ⟨sp11, cp11, rfl⟩ := row_form hr11
   have hq11 := (hb11.block _ (heap_lt HQ.out)).trans HQ.out
   have z0 : w11.cell? ⟨qb, 0, none⟩ = some _ := (by rw [cell_of_row _ _ _ _ _ _ hq11]; rfl)
   have z1 : w11.frozen? ⟨qb, 0, none⟩ = false := (by simp [World.frozen?, hq11])
   have hN5 : Nr w (w11.setCell ⟨qb, 0, none⟩ (.slice sp11 (dropF ra t).length cp11)) qb G (dropT t ra) rl N := by
     have hr12 := hr11
     rw [dropF_eq HH.out.nd] at hr12 ⊢
     exact RFx.setA HH.out (HB4.out.trans (hb11.mono HB4.out.size)) (row_mono hr12 HB4.out.size) (nd_dropT HH.out.nd t) (by have := dropT_len t ra; omega) (Nat.le_refl _)
   have HN5 := Lib.hid hN5
   clear hr11 hb11 hq11 HD hN5
   go_wp2_with fail
   go_loopw [] (fun wr => ∃ rl', (∀ s, s ≠ t → ofL rl' s = ofL rl s) ∧ rl'.length ≤ rl.length ∧ Nr w wr qb G (dropT t ra) rl' N) (fun wr => mlen wr qb)
   case atStart => exact ⟨rl, fun _ _ => rfl, Nat.le_refl _, HN5.out⟩
   case round =>
     clear HN5
     obtain ⟨rl1, hrl, hll, hnr⟩ := hrel
     obtain ⟨G1, h1, h2, h3, h4⟩ := hnr
     have hOf := rOf_any wr qb G1 _ rl1 N t h1 (by omega)
     by_cases he : ofL rl1 t = []
     · rw [he] at hOf
       have HOf := Lib.hid hOf
       have HE := Lib.hid he
       have HRL := Lib.hid hrl
       have HN1 : Hid (Nr w wr qb G (dropT t ra) rl1 N) := ⟨G1, h1, h2, h3, h4⟩
       clear hOf he hrl h1 h2 h3 h4
       go_wp2_with (go_at_call 38; refine HOf.out.mono ?_; rintro e w5 ⟨v5, rfl, hr5, hb5⟩; obtain ⟨sp5, cp5, rfl⟩ := row_form hr5; have HB5 := Lib.hid hb5; clear hr5 hb5)
       go_ret
       refine ⟨by first | rfl | (simp; omega), rl1, fun s => ?_, HN1.out.trans (fun G' h _ => Nr.still h HB5.out (Nat.le_refl _))⟩
       unfold setI
       by_cases e : s = t
       · rw [if_pos e, e]; exact HE.out
       · rw [if_neg e]; exact HRL.out s e
     · obtain ⟨n, hn⟩ : ∃ n, (ofL rl1 t).length = n := ⟨_, rfl⟩
       have hn0 : (0 : Int) < (n : Int) := by have := List.length_pos_iff.2 he; omega
       have HOf := Lib.hid hOf
       have HE := Lib.hid he
       have HRL := Lib.hid hrl
       have hml := h1.mlen
       have HML := Lib.hid hml
       have H1 := Lib.hid h1
       have HN1 : Hid (Nr w wr qb G (dropT t ra) rl1 N) := ⟨G1, h1, h2, h3, h4⟩
       clear hOf he hrl h2 h3 h4 hml h1
       go_wp2_with (go_at_call 38; refine HOf.out.mono ?_; rintro e w5 ⟨v5, rfl, hr5, hb5⟩; obtain ⟨sp5, cp5, rfl⟩ := row_form hr5; rw [hn]; have HB5 := Lib.hid hb5; clear hr5 hb5; refine Hid.out ?_)
       refine Lib.hid ?_
       obtain ⟨x1, x2, hq5, _, ho5, _, _⟩ := (H1.out.below HB5.out).rows
       have q1 : w5.cell? ⟨qb, 1, none⟩ = some x2 := by rw [cell_of_row _ _ _ _ _ _ hq5]; rfl
       have HD := Lib.hid (rdrop_any w5 0 x2 rl1 t ho5 (by omega))
       have HQ5 := Lib.hid hq5
       obtain ⟨sp6, cp6, rfl⟩ := row_form ho5
       clear hq5 ho5 HOf
       go_wp2_with (go_at_call 53; refine HD.out.mono ?_; rintro e w7 ⟨v7, rfl, hr7, hb7⟩; refine Hid.out ?_)
       refine Lib.hid ?_
       obtain ⟨sp7, cp7, rfl⟩ := row_form hr7
       have hq7 := (hb7.block _ (heap_lt HQ5.out)).trans HQ5.out
       have k0 : w7.cell? ⟨qb, 1, none⟩ = some _ := (by rw [cell_of_row _ _ _ _ _ _ hq7]; rfl)
       have k1 : w7.frozen? ⟨qb, 1, none⟩ = false := (by simp [World.frozen?, hq7])
       have hdl := dropF_len rl1 t
       have HN8 : Hid (Nr w (w7.setCell ⟨qb, 1, none⟩ (.slice sp7 (dropF rl1 t).length cp7)) qb G (dropT t ra) (dropF rl1 t) N) := HN1.out.trans (fun G' h' _ => RFx.setL h' (HB5.out.trans (hb7.mono HB5.out.size)) (row_mono hr7 HB5.out.size) (by have := h'.lenL; omega) (Nat.le_refl _))
       clear hr7 hb7 hq7 HD
       go_wp2_with fail
       go_roundw
       case rel => exact ⟨dropF rl1 t, fun s hs => by rw [ofL_drop]; unfold setI; rw [if_neg hs]; exact HRL.out s hs, by omega, HN8.out⟩
       case measure =>
         obtain ⟨G8, h8, _⟩ := HN8.out
         show mlen _ qb < mlen wr qb
         rw [HML.out, h8.mlen]
         exact dropF_lt HE.out
end Go.Proofs.Ythknnmllibdggaa
