/- SpaceRights. -/
import Derived.Test.YtddllchobojmlaaLives
import Derived.Test.YtddllchobojmlaaFacts2
namespace Go.Proofs.Ytddllchobojmlaa
open Go.RowKit Go.Sort
set_option maxRecDepth 100000 in
set_option maxHeartbeats 4000000 in
theorem SpaceRights_any (p : Option Addr) (cap : Nat) (l : List Mp) (a n : Int) (w : World) (ha : 0 ≤ a) (ha2 : a < 18446744073709551616) (hR : RAt w p cap l) (hcap : l.length * 48 ≤ 140737488355328) :
    Calls Try.prog 7 #[.slice p l.length cap, .int .u64 a, .int .i64 n] w fun e w' => e = .returned (.bool true) ∧ Below w.heap.size w w' := by
  go_enter Try.func7, Try.ntmps7
  go_wp2_with (go_at_call 9; refine (lives_any _).mono ?_; rintro e w1 ⟨rfl, hb1⟩; refine Hid.out ?_)
  refine Lib.hid ?_
  have HP := Lib.hid (Span_any p cap l a n 0 w1 ha ha2 (hR.below hb1))
  go_wp2_with (go_at_call 17; refine HP.out.mono ?_; rintro e w2 ⟨v2, rfl, ho2, hb2⟩; refine Hid.out ?_)
  refine Lib.hid ?_
  obtain ⟨p2, c2, rfl, hR2⟩ := own_pcs ho2
  clear ho2 HP
  have hB2 : Below w.heap.size w w2 := hb1.trans (hb2.mono hb1.size)
  have HRO := Lib.hid (read_of l a n)
  have HBR := Lib.hid (bare_read l a n)
  have hLn := spanL_len l a n 0
  obtain ⟨E0, hE0⟩ : ∃ E0, spanE l a n 0 = E0 := ⟨_, rfl⟩
  obtain ⟨PL, hPL⟩ : ∃ PL, spanL l a n 0 = PL := ⟨_, rfl⟩
  rw [hE0, hPL] at HBR
  rw [hE0]
  rw [hPL] at hR2 hLn ⊢
  have HRO' : Hid (∀ need, spanE l a n need = 0 → E0 = 0 ∧ PL = spanL l a n need) := fun need h => by
    have := HRO.out need h
    rwa [hE0, hPL] at this
  clear hE0 hPL HRO hb1 hb2
  go_wp2_with fail
  go_loopw [9] (fun x wr => ∃ q : Int, x = .int .i64 q ∧ 1 ≤ q ∧ q ≤ 3 ∧ Below w2.heap.size w2 wr) (fun x _ => (3 - intOf x).toNat)
  case atStart => exact ⟨1, rfl, by omega, by omega, Below.refl _ _⟩
  case round =>
    obtain ⟨q, rfl, hq1, hq3, hb⟩ := hrel
    have hbs := hb.size
    have hBr : Below w.heap.size w wr := hB2.trans (hb.mono hB2.size)
    by_cases hq2 : q ≤ 2
    · have HS := Span_any p cap l a n q wr ha ha2 (hR.below hBr)
      by_cases hF : spanE l a n q = 0
      · obtain ⟨h0, h1⟩ := HRO'.out q hF
        rw [hF, ← h1] at HS
        have HS' := Lib.hid HS
        have h00 : (E0 == 0) = true := by simp [h0]
        have h01 : (E0 != 0) = false := by simp [h0]
        have HSP : Hid (∀ W, Below w2.heap.size w2 W → ∀ q cq, PsAt W q PL → Calls Try.prog 20 #[.slice p2 PL.length c2, .slice q PL.length cq] W fun e w' => e = .returned (.bool true) ∧ Below W.heap.size W w') := fun W hW q cq hq => by
          have := SamePieces_any p2 q c2 cq _ _ W (by omega) (hR2.below hW) hq
          rwa [decide_eq_true rfl] at this
        clear HS hF h0 h1 hR2
        go_wp2_with (go_at_call 17; refine HS'.out.mono ?_; rintro e w3 ⟨v3, rfl, ho3, hb3⟩; refine Hid.out ?_)
        refine Lib.hid ?_
        obtain ⟨p3, c3, rfl, hR3⟩ := own_pcs ho3
        have HSQ := Lib.hid (HSP.out w3 (hb.trans (hb3.mono hbs)) p3 c3 hR3)
        clear HSP ho3 hR3 HS'
        go_wp2_with (go_at_call 20; refine HSQ.out.mono ?_; rintro e w4 ⟨rfl, hb4⟩)
        go_roundw
        case rel => exact ⟨q + 1, by go_num, by omega, by omega, (hb.trans (hb3.mono hbs)).trans (hb4.mono (by have := hb3.size; omega))⟩
        case measure => simp [intOf]; omega
      · obtain ⟨F, hFF⟩ : ∃ F, spanE l a n q = F := ⟨_, rfl⟩
        rw [hFF] at HS hF
        have hF0 : (F == 0) = false := by simpa using hF
        have HS' := Lib.hid HS
        clear HS hF hFF
        go_wp2_with (go_at_call 17; refine HS'.out.mono ?_; rintro e w3 ⟨v3, rfl, ho3, hb3⟩; refine Hid.out ?_)
        refine Lib.hid ?_
        go_wp2
        go_roundw
        case rel => exact ⟨q + 1, by go_num, by omega, by omega, hb.trans (hb3.mono hbs)⟩
        case measure => simp [intOf]; omega
    · obtain rfl : q = 3 := by omega
      go_wp2_with fail
      clear hq1 hq2 hq3
      obtain ⟨i0, hi, hz0, hz1, hz2⟩ := info_parts' mapInfo
      obtain ⟨W3, hW3⟩ : ∃ W3, wr = W3 := ⟨_, rfl⟩
      rw [hW3] at hBr hb hbs ⊢
      clear hW3
      have hR2' := hR2.below hb
      have hlm : l.length ≤ maxLen := Nat.le_trans hR.len hR.top
      unfold maxLen at hlm
      go_loopw [12, 56] (fun v i wr => ∃ k : Nat, k ≤ l.length ∧ i = .int .i64 k ∧ wr.ownsRow W3.heap.size 24 7 v k (flat ((l.take k).map bareM)) ∧ Below W3.heap.size W3 wr) (fun _ i _ => l.length - (intOf i).toNat)
      case atStart => exact ⟨0, Nat.zero_le _, rfl, World.ownsRow_nil _ _ _ _, Below.refl _ _⟩
      case round =>
        obtain ⟨k, hk, rfl, hown, hbr⟩ := hrel
        have hz := hbr.size
        by_cases hlt : k < l.length
        · obtain ⟨b, off, rfl, hbl, hq⟩ := (hR.below hBr).row k hlt
          obtain ⟨x0, x1, x2, x3, x4, x5, x6⟩ := hq.below hbr hbl
          have hbw : b < wr.heap.size := by omega
          have hki : (k : Int) < (l.length : Int) := by omega
          have HT := Lib.hid (show (l.take (k + 1)).map bareM = (l.take k).map bareM ++ [bareM l[k]] from by rw [List.take_succ_eq_append_getElem hlt, List.map_append]; rfl)
          have hOwn := (hown.alloc (.cells #[.int .i64 l[k].at_, .int .i64 l[k].pg, .int .i64 l[k].inn, .int .i64 l[k].id, .int .i64 l[k].fr, .bool false, .bool false] 24)).alloc (.cells #[.int .i64 l[k].at_, .int .i64 l[k].pg, .int .i64 l[k].inn, .int .i64 l[k].id, .int .i64 l[k].fr, .bool false, .bool false] 24)
          have HN : Hid (∀ j u, (mpC (bareM l[k]))[j]? = some u → ((wr.alloc (.cells #[.int .i64 l[k].at_, .int .i64 l[k].pg, .int .i64 l[k].inn, .int .i64 l[k].id, .int .i64 l[k].fr, .bool false, .bool false] 24)).alloc (.cells #[.int .i64 l[k].at_, .int .i64 l[k].pg, .int .i64 l[k].inn, .int .i64 l[k].id, .int .i64 l[k].fr, .bool false, .bool false] 24)).cell? ((⟨wr.heap.size + 1, 0, none⟩ : Addr).add j) = some u) := fun j u hu => by
            rw [addr_plus]
            have := (mpB_at (wr.alloc (.cells #[.int .i64 l[k].at_, .int .i64 l[k].pg, .int .i64 l[k].inn, .int .i64 l[k].id, .int .i64 l[k].fr, .bool false, .bool false] 24)) (bareM l[k])).nth j u hu
            simpa [mpB, bareM] using this
          have h63 : k + 1 ≤ maxLen := by unfold maxLen; omega
          have hby : (k + 1) * 48 ≤ 140737488355328 := by omega
          have hbW : W3.heap.size ≤ ((wr.alloc (.cells #[.int .i64 l[k].at_, .int .i64 l[k].pg, .int .i64 l[k].inn, .int .i64 l[k].id, .int .i64 l[k].fr, .bool false, .bool false] 24)).alloc (.cells #[.int .i64 l[k].at_, .int .i64 l[k].pg, .int .i64 l[k].inn, .int .i64 l[k].id, .int .i64 l[k].fr, .bool false, .bool false] 24)).heap.size := by simp; omega
          have hbX : Below W3.heap.size W3 ((wr.alloc (.cells #[.int .i64 l[k].at_, .int .i64 l[k].pg, .int .i64 l[k].inn, .int .i64 l[k].id, .int .i64 l[k].fr, .bool false, .bool false] 24)).alloc (.cells #[.int .i64 l[k].at_, .int .i64 l[k].pg, .int .i64 l[k].inn, .int .i64 l[k].id, .int .i64 l[k].fr, .bool false, .bool false] 24)) := (hbr.alloc hz _).alloc (by simp; omega) _
          have HL := Lib.hid hown.lt
          have h1c : ∀ u ∈ mpC (bareM l[k]), u.oneCell' = true := fun u hu => flat_one [bareM l[k]] u (by simpa [flat] using hu)
          have HOwn := Lib.hid hOwn
          clear hq hown hOwn
          go_wp2_with (at_builtin; refine wpList_append_own _ rfl _ _ 22 rfl W3.heap.size 24 i0 (.agg #[.int .i64 0, .int .i64 0, .int .i64 0, .int .i64 0, .int .i64 0, .bool false, .bool false]) 7 48 Try.underlying22 hi hz0 hz1 hz2 rfl (by decide) _ _ _ rfl HOwn.out ⟨wr.heap.size + 1, 0, none⟩ 1 1 (mpC (bareM l[k])) rfl rfl HN.out h1c h63 hby hbW ?_; intro v' w5 hown' hgrow5 hnil5; have HO := Lib.hid hown'; have HG := Lib.hid hgrow5; clear hown' hgrow5 hnil5)
          go_roundw
          case rel =>
            refine ⟨k + 1, by omega, by go_num, ?_, Below.grown hbX HG.out hbW (fun j hj => (HL.out j hj).1)⟩
            rw [HT.out, flat_append]
            have e : flat [bareM l[k]] = mpC (bareM l[k]) := by simp [flat]
            rw [e]; exact HO.out
          case measure => simp [intOf]; omega
        · obtain rfl : k = l.length := by omega
          have hkk : ¬ (l.length : Int) < (l.length : Int) := by omega
          rw [List.take_length] at hown
          obtain ⟨p4, c4, hv, hln, hR4⟩ := own_rat hown
          subst hv
          rw [← hln]
          have HS1 := Span_any p4 c4 (l.map bareM) a n 0 wr ha ha2 hR4
          rw [HBR.out.1, HBR.out.2, ← hln] at HS1
          have HS1' := Lib.hid HS1
          have HLN := Lib.hid hln
          clear HS1 hown hln
          go_wp2_with (go_at_call 17; refine HS1'.out.mono ?_; rintro e w5 ⟨v5, rfl, ho5, hb5⟩; refine Hid.out ?_)
          refine Lib.hid ?_
          obtain ⟨p5, c5, rfl, hR5⟩ := own_pcs ho5
          have HS2 := Span_any p4 c4 (l.map bareM) a n 1 w5 ha ha2 (hR4.below hb5)
          have hN1 := bare_not l a n 1 (.inl rfl)
          obtain ⟨F1, hF1⟩ : ∃ F1, spanE (l.map bareM) a n 1 = F1 := ⟨_, rfl⟩
          rw [hF1, ← HLN.out] at HS2
          rw [hF1] at hN1
          have HS2' := Lib.hid HS2
          clear HS2 HS1' ho5 hF1
          go_wp2_with (go_at_call 17; refine HS2'.out.mono ?_; rintro e w6 ⟨v6, rfl, ho6, hb6⟩; refine Hid.out ?_)
          refine Lib.hid ?_
          have HS3 := Span_any p4 c4 (l.map bareM) a n 2 w6 ha ha2 ((hR4.below hb5).below hb6)
          have hN2 := bare_not l a n 2 (.inr rfl)
          obtain ⟨F2, hF2⟩ : ∃ F2, spanE (l.map bareM) a n 2 = F2 := ⟨_, rfl⟩
          rw [hF2, ← HLN.out] at HS3
          rw [hF2] at hN2
          have HS3' := Lib.hid HS3
          clear HS3 HS2' ho6 hF2
          go_wp2_with (go_at_call 17; refine HS3'.out.mono ?_; rintro e w7 ⟨v7, rfl, ho7, hb7⟩; refine Hid.out ?_)
          refine Lib.hid ?_
          have hb37 : Below W3.heap.size W3 w7 := ((hbr.trans (hb5.mono hz)).trans (hb6.mono (by have := hb5.size; omega))).trans (hb7.mono (by have := hb5.size; have := hb6.size; omega))
          have HSQ := SamePieces_any p2 p5 c2 c5 PL PL w7 (by omega) (hR2'.below hb37) ((hR5.below hb6).below hb7)
          rw [decide_eq_true rfl] at HSQ
          have HSQ' := Lib.hid HSQ
          have g1 : (F1 != 0) = true := by simpa using hN1
          have g2 : (F2 != 0) = true := by simpa using hN2
          have g3 : (F1 == 0) = false := by simpa using hN1
          have g4 : (F2 == 0) = false := by simpa using hN2
          clear HSQ HS3' ho7 hR5 hR4 hR2 hR2' hN1 hN2
          go_wp2_with (go_at_call 20; refine HSQ'.out.mono ?_; rintro e w8 ⟨rfl, hb8⟩)
          go_ret
          exact ⟨rfl, (hBr.trans (hb37.mono hBr.size)).trans (hb8.mono (by have := hBr.size; have := hb37.size; omega))⟩
end Go.Proofs.Ytddllchobojmlaa
