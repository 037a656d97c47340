/- IsaLists walks, where the tail is of a size that can be. -/
import Derived.Test.YtgldkmabhmlijaaDoorListsM
import Derived.Test.YtgldkmabhmlijaaDoorDecodeM
import Derived.Test.YtgldkmabhmlijaaDoorLives
namespace Go.Proofs.YtgldkmabhmlijaaDoor
open Go.RowKit Go.Sort
theorem text_up3 (c : Cod) (hr : rightC c = true) : (textC c).length ≤ 100 := by
  obtain ⟨l1, l2, l3, l4, l5⟩ := right_lim hr
  have := txK_len c (sh c.op) 3 (fOk_of l2 l3 l4 l5)
  show (txK c (sh c.op) 3).length ≤ 100
  omega
theorem jnL_len : ∀ (l : List Cod), (∀ c ∈ l, rightC c = true) → (unl (l.map textC)).length ≤ 101 * l.length
  | [], _ => by simp [unl]
  | c :: l, h => by
    have h1 := text_up3 c (h c (by simp))
    have h2 := jnL_len l (fun x hx => h x (by simp [hx]))
    rw [List.map_cons, unl_cons, List.length_append, List.length_cons, List.length_cons]; omega
theorem jnL_up (l : List Cod) (h : ∀ c ∈ l, rightC c = true) : (jnL (l.map textC)).length ≤ 101 * l.length := by
  by_cases h0 : l = []
  · subst h0; simp [jnL, unl]
  · have := jnL_len l h
    rw [jnL_unl _ (by simpa using h0), List.length_append] at this
    simp at this; omega
theorem sts_cells {w : World} {base : Nat} {v : Value} {l : List ByteArray} (h : w.ownsRow base 9 1 v l.length (sts l)) : (∃ sp cap, v = .slice sp l.length cap) ∧ ∀ j (hj : j < l.length), ∃ g cap, v = .slice (some ⟨g, 0, none⟩) l.length cap ∧ g < w.heap.size ∧ w.cell? ⟨g, j, none⟩ = some (.string l[j]) := by
  have hlt := h.lt
  refine ⟨row_form h, fun j hj => ?_⟩
  rcases h.2 with ⟨_, h0⟩ | ⟨g, c, cur, hv, _, _⟩
  · omega
  · subst hv
    have hcl := h.cells (g := g) rfl
    refine ⟨g, c, rfl, (hlt g rfl).2, ?_⟩
    have := hcl j (.string l[j]) (by unfold sts; rw [List.getElem?_map, List.getElem?_eq_getElem hj]; rfl)
    rcases Nat.eq_zero_or_pos j with rfl | hj0
    · simpa [Addr.add] using this
    · have hj1 : j ≠ 0 := by omega
      simpa [Addr.add, hj1] using this
set_option maxRecDepth 100000 in
set_option maxHeartbeats 8000000 in
theorem IsaLists_any (p : Option Addr) (cp : Nat) (B : List Cod) (t : ByteArray) (w : World) (hE : Env w) (hB : CdsAt w p B) (hBl : B.length ≤ maxLen) (ht : t.size ≤ 1048576) : Calls Tryd.prog 3 #[.slice p B.length cp, .string t] w fun e w' => e = .returned (.bool true) ∧ Below w.heap.size w w' := by
  have HL := Lib.hid lives_any
  have HBd := Lib.hid hB
  have hBl2 : B.length ≤ 9223372036854775807 := hBl
  clear hB hBl
  go_enter Tryd.func3, Tryd.ntmps3
  go_wp2_with (first | (go_at_call 5; refine (HL.out _ hE).mono ?_; rintro e w1 ⟨rfl, hb1⟩))
  have HB0 := Lib.hid hb1
  clear hb1
  go_loopw [5, 6, 7, 28] (fun av tv nv iv wr => ∃ k : Nat, k ≤ B.length ∧ iv = .int .i64 k ∧ av = .string (tB (encs (pi2 B k))) ∧ tv = .string (tB (jnL ((pi2 B k).map textC))) ∧ nv = .int .i64 ((pi2 B k).length : Nat) ∧ Below w.heap.size w wr) (fun _ _ _ iv _ => B.length - (intOf iv).toNat)
  case atStart => exact ⟨0, by omega, rfl, rfl, rfl, rfl, HB0.out⟩
  case round =>
    obtain ⟨k, hk, rfl, rfl, rfl, rfl, hbr⟩ := hrel
    have hpl := pi2_len B k
    have hal : (tB (encs (pi2 B k))).size ≤ 1000 := by rw [tB_size, encs_len]; omega
    have htl : (tB (jnL ((pi2 B k).map textC))).size ≤ 30000 := by rw [tB_size]; have := jnL_up _ (pi2_right B k); omega
    obtain ⟨A, hA⟩ : ∃ A, A = tB (encs (pi2 B k)) := ⟨_, rfl⟩
    obtain ⟨T, hT⟩ : ∃ T, T = tB (jnL ((pi2 B k).map textC)) := ⟨_, rfl⟩
    obtain ⟨N, hN⟩ : ∃ N, N = (pi2 B k).length := ⟨_, rfl⟩
    rw [← hA] at hal ⊢
    rw [← hT] at htl ⊢
    rw [← hN] at hpl ⊢
    have HA := Lib.hid hA
    have HT := Lib.hid hT
    have HN := Lib.hid hN
    clear hA hT hN
    by_cases hlt : k < B.length
    · have hki : (k : Int) < (B.length : Int) := by omega
      obtain ⟨b0, off, rfl, hbl, y0, y1, y2, y3, y4⟩ := (HBd.out.below hbr) k hlt
      have hEr := hE.below hbr
      have hzr := hbr.size
      have HBR := Lib.hid hbr
      rcases hr : rightC B[k] with _ | _
      · have HP : Hid (pi2 B (k + 1) = pi2 B k) := pi2_no B k hlt (.inl hr)
        have HEn := Lib.hid (fun V => Encode_no B[k] V (by rw [rightI_eq]; exact hr))
        unfold Cod.v at HEn
        generalize B[k] = c at y0 y1 y2 y3 y4 HEn
        clear hr hbr
        go_wp2_with (first | (go_at_call 6; refine (HEn.out _).mono ?_; rintro e w2 ⟨rfl, hb2⟩))
        go_roundw
        case rel => exact ⟨k + 1, by omega, by go_num, by rw [HP.out, HA.out], by rw [HP.out, HT.out], by rw [HP.out, HN.out], HBR.out.trans (((Below.refl _ _).alloc (Nat.le_refl _) _).mono hzr |>.trans (hb2.mono (by simp; omega)))⟩
        case measure => simp [intOf]; omega
      · have HEn : Hid (∀ V, Calls Tryd.prog 6 #[B[k].v] V fun e w' => e = .returned (.tuple #[.string (tB (encL4 B[k])), .int .i64 0]) ∧ Below V.heap.size V w') := fun V => by
          have := Encode_yes B[k] V (by rw [rightI_eq]; exact hr)
          rwa [show tB (encL4 B[k]) = q4s (bytesC B[k]) from list_tB _]
        have HTx : Hid (∀ V, Env V → Calls Tryd.prog 7 #[B[k].v] V fun e w' => e = .returned (.tuple #[.string (tB (textC B[k])), .int .i64 0]) ∧ Below V.heap.size V w') := fun V hV => Text_yes B[k] V hV hr
        unfold Cod.v at HEn HTx
        have hes : (tB (encL4 B[k])).size = 4 := by rw [tB_size, encL4_len]
        have hts : (tB (textC B[k])).size ≤ 100 := by rw [tB_size]; exact text_up3 _ hr
        by_cases h200 : N < 200
        · have h2i : ¬ (200 : Int) ≤ (N : Int) := by omega
          have HP : Hid (pi2 B (k + 1) = pi2 B k ++ [B[k]]) := pi2_yes B k hlt hr (by rw [← HN.out]; exact h200)
          have HAn : Hid (A ++ tB (encL4 B[k]) = tB (encs (pi2 B (k + 1)))) := by simp only [Hid]; rw [HP.out, HA.out, tB_app, encs_snoc]
          have HNn : Hid ((pi2 B (k + 1)).length = N + 1) := by simp only [Hid]; rw [HP.out, List.length_append, HN.out]; rfl
          have hbA : Below wr.heap.size wr (wr.alloc (.cells #[.int .i64 B[k].op, .int .i64 B[k].a, .int .i64 B[k].b, .int .i64 B[k].c, .int .i64 B[k].n] 25)) := (Below.refl _ _).alloc (Nat.le_refl _) _
          have hA0 := At5.new wr B[k] 25
          by_cases hn0 : N = 0
          · have HTn : Hid (T ++ tB (textC B[k]) = tB (jnL ((pi2 B (k + 1)).map textC))) := by
              simp only [Hid]; rw [HP.out, HT.out]
              have : pi2 B k = [] := List.eq_nil_of_length_eq_zero (by rw [← HN.out]; exact hn0)
              rw [this, tB_app]; simp [jnL, unl]
            have hni : ¬ (0 : Int) < (N : Int) := by omega
            have hnN : ¬ 0 < N := by omega
            generalize B[k] = c at y0 y1 y2 y3 y4 HEn HTx hes hts HAn HTn HP hr hbA hA0
            generalize tB (textC c) = tb at HTx HTn hts
            generalize tB (encL4 c) = eb at HEn HAn hes
            have hj1 : A.size + eb.size ≤ 9223372036854775807 := by omega
            have hj2 : T.size + tb.size ≤ 9223372036854775807 := by omega
            clear hr hbr HP hn0 hes
            go_wp2_with (first | (go_at_call 6; refine (HEn.out _).mono ?_; rintro e w2 ⟨rfl, hb2⟩; refine Hid.out ?_))
            refine Lib.hid ?_
            obtain ⟨dl, ⟨d0, d1, d2, d3, d4⟩, _⟩ := hA0.below hb2 (by simp)
            have hE2 := (hEr.below hbA).below hb2
            have HB2 : Hid (Below w.heap.size w w2) := (HBR.out.trans (hbA.mono hzr)).trans (hb2.mono (by simp; omega))
            clear hb2 hbA hA0 y0 y1 y2 y3 y4
            go_wp2_with (first | (go_at_call 7; refine (HTx.out _ hE2).mono ?_; rintro e w3 ⟨rfl, hb3⟩))
            go_roundw
            case rel => exact ⟨k + 1, by omega, by go_num, by rw [HAn.out], by rw [HTn.out], by rw [HNn.out]; go_num, HB2.out.trans (hb3.mono HB2.out.size)⟩
            case measure => simp [intOf]; omega
          · have HTn : Hid ((T ++ ⟨#[10]⟩) ++ tB (textC B[k]) = tB (jnL ((pi2 B (k + 1)).map textC))) := by
              simp only [Hid]; rw [HP.out, HT.out, List.map_append, List.map_singleton, jnL_next _ (by
                intro e; apply hn0; rw [HN.out]; have := congrArg List.length e; simpa using this), show (⟨#[10]⟩ : ByteArray) = tB [10] from rfl, tB_app, tB_app, List.append_assoc]
            have hni : (0 : Int) < (N : Int) := by omega
            have hnN : 0 < N := by omega
            generalize B[k] = c at y0 y1 y2 y3 y4 HEn HTx hes hts HAn HTn HP hr hbA hA0
            generalize tB (textC c) = tb at HTx HTn hts
            generalize tB (encL4 c) = eb at HEn HAn hes
            have h10 : (⟨#[10]⟩ : ByteArray).size = 1 := rfl
            have hj1 : A.size + eb.size ≤ 9223372036854775807 := by omega
            have hj2 : T.size + (⟨#[10]⟩ : ByteArray).size ≤ 9223372036854775807 := by omega
            have hj3 : (T ++ ⟨#[10]⟩ : ByteArray).size + tb.size ≤ 9223372036854775807 := by rw [ByteArray.size_append]; omega
            clear hr hbr HP hn0 hes
            go_wp2_with (first | (go_at_call 6; refine (HEn.out _).mono ?_; rintro e w2 ⟨rfl, hb2⟩; refine Hid.out ?_))
            refine Lib.hid ?_
            obtain ⟨dl, ⟨d0, d1, d2, d3, d4⟩, _⟩ := hA0.below hb2 (by simp)
            have hE2 := (hEr.below hbA).below hb2
            have HB2 : Hid (Below w.heap.size w w2) := (HBR.out.trans (hbA.mono hzr)).trans (hb2.mono (by simp; omega))
            clear hb2 hbA hA0 y0 y1 y2 y3 y4
            go_wp2_with (first | (go_at_call 7; refine (HTx.out _ hE2).mono ?_; rintro e w3 ⟨rfl, hb3⟩))
            go_roundw
            case rel => exact ⟨k + 1, by omega, by go_num, by rw [HAn.out], by rw [HTn.out], by rw [HNn.out]; go_num, HB2.out.trans (hb3.mono HB2.out.size)⟩
            case measure => simp [intOf]; omega
        · have h2i : (200 : Int) ≤ (N : Int) := by omega
          have HP : Hid (pi2 B (k + 1) = pi2 B k) := pi2_no B k hlt (.inr (by rw [← HN.out]; omega))
          generalize B[k] = c at y0 y1 y2 y3 y4 HEn HTx hes hts hr
          generalize tB (encL4 c) = eb at HEn hes
          clear hr hbr hes hts HTx
          go_wp2_with (first | (go_at_call 6; refine (HEn.out _).mono ?_; rintro e w2 ⟨rfl, hb2⟩))
          go_roundw
          case rel => exact ⟨k + 1, by omega, by go_num, by rw [HP.out, HA.out], by rw [HP.out, HT.out], by rw [HP.out, HN.out], HBR.out.trans (((Below.refl _ _).alloc (Nat.le_refl _) _).mono hzr |>.trans (hb2.mono (by simp; omega)))⟩
          case measure => simp [intOf]; omega
    · obtain rfl : k = B.length := by omega
      have hki : ¬ (B.length : Int) < (B.length : Int) := by omega
      obtain ⟨wa, rfl⟩ : ∃ wa, wa = wr := ⟨_, rfl⟩
      obtain ⟨P, hP⟩ : ∃ P, P = pi2 B B.length := ⟨_, rfl⟩
      have hPr := pi2_right B B.length
      rw [← hP] at hPr HA HT HN
      have hN : N = P.length := HN.out
      have hPl : P.length ≤ 200 := by rw [hP]; exact pi2_len B _
      have HPr := Lib.hid hPr
      have hAs : A.size = 4 * N := by rw [HA.out, tB_size, encs_len, hN]
      have hEa := hE.below hbr
      have hlis : lisN A.data.toList N = some P := by rw [HA.out, tB_list, hN]; exact lisN_all P hPr
      have htxl : (txts P).length = N := by rw [hN]; exact List.length_map ..
      have HLi : Hid (Calls Tryd.prog 8 #[.string A] wa fun e w' => ∃ v, e = .returned (.tuple #[v, .int .i64 0]) ∧ w'.ownsRow wa.heap.size 9 1 v (txts P).length (sts (txts P)) ∧ Below wa.heap.size wa w') := (List_yes A N wa hEa hAs (by omega)).mono fun e w' ⟨⟨v, er, he, hl⟩, hb⟩ => by
        rw [hlis] at hl
        rcases hl with ⟨h, _⟩ | ⟨cs, h, ho, rfl⟩
        · cases h
        · cases h; exact ⟨v, he, ho, hb⟩
      have HAs := Lib.hid hAs
      have HNP := Lib.hid hN
      have HTL := Lib.hid htxl
      clear hlis hP hPr hN hPl hAs htxl HN
      go_wp2_with (first | (go_at_call 8; refine HLi.out.mono ?_; rintro e w2 ⟨v, rfl, ho2, hb2⟩; refine Hid.out ?_))
      refine Lib.hid ?_
      have hB2 : Below w.heap.size w w2 := hbr.trans (hb2.mono hbr.size)
      obtain ⟨⟨sp, cap, rfl⟩, hcs⟩ := sts_cells ho2
      rw [HTL.out]
      have HCs : Hid (∀ j (h : j < P.length), ∃ g, sp = some ⟨g, 0, none⟩ ∧ g < w2.heap.size ∧ w2.cell? ⟨g, j, none⟩ = some (.string (tB (textC P[j])))) := fun j hj => by
        obtain ⟨g, c', hv, hg, hc⟩ := hcs j (by rw [HTL.out, HNP.out]; exact hj)
        injection hv with e1 e2 e3
        exact ⟨g, e1, hg, by rw [hc]; simp [txts]⟩
      have HB2 := Lib.hid hB2
      clear ho2 hcs hb2 hB2 HLi hbr
      go_wp2_with fail
      go_loopw [16, 76] (fun bv iv wr => ∃ i : Nat, i ≤ N ∧ iv = .int .i64 i ∧ bv = .string (tB (jnL ((P.take i).map textC))) ∧ wr = w2) (fun _ iv _ => N - (intOf iv).toNat)
      case atStart => exact ⟨0, by omega, rfl, rfl, rfl⟩
      case round =>
        obtain ⟨i, hi, rfl, rfl, rfl⟩ := hrel
        by_cases hil : i < N
        · have hii : (i : Int) < (N : Int) := by omega
          have hip : i < P.length := by rw [← HNP.out]; exact hil
          obtain ⟨g, rfl, hg, yc⟩ := HCs.out i hip
          have hts : (tB (textC P[i])).size ≤ 100 := by rw [tB_size]; exact text_up3 _ (HPr.out _ (List.getElem_mem hip))
          have hbs : (tB (jnL ((P.take i).map textC))).size ≤ 30000 := by
            rw [tB_size]
            have := jnL_up (P.take i) (fun c hc => HPr.out c (List.mem_of_mem_take hc))
            rw [List.length_take] at this
            omega
          have htk : (P.take (i + 1)).map textC = (P.take i).map textC ++ [textC P[i]] := by rw [List.take_succ_eq_append_getElem hip, List.map_append]; rfl
          by_cases hi0 : i = 0
          · have HTn : Hid (tB (jnL ((P.take i).map textC)) ++ tB (textC P[i]) = tB (jnL ((P.take (i + 1)).map textC))) := by
              simp only [Hid]; rw [htk, tB_app]
              have : (P.take i).map textC = [] := by rw [hi0]; rfl
              rw [this]; simp [jnL, unl]
            have hni : ¬ (0 : Int) < (i : Int) := by omega
            have hnN : ¬ 0 < i := by omega
            generalize tB (jnL ((P.take i).map textC)) = bk at HTn hbs
            generalize tB (textC P[i]) = tb at yc hts HTn
            have hj2 : bk.size + tb.size ≤ 9223372036854775807 := by omega
            clear htk hi0
            go_wp2
            go_roundw
            case rel => exact ⟨i + 1, by omega, by go_num, by rw [HTn.out], trivial⟩
            case measure => simp [intOf]; omega
          · have HTn : Hid ((tB (jnL ((P.take i).map textC)) ++ ⟨#[10]⟩) ++ tB (textC P[i]) = tB (jnL ((P.take (i + 1)).map textC))) := by
              simp only [Hid]; rw [htk, jnL_next _ (by
                intro e; apply hi0
                have := congrArg List.length e
                rw [List.length_map, List.length_take] at this
                simp only [List.length_nil] at this
                omega), show (⟨#[10]⟩ : ByteArray) = tB [10] from rfl, tB_app, tB_app, List.append_assoc]
            have hni : (0 : Int) < (i : Int) := by omega
            have hnN : 0 < i := by omega
            generalize tB (jnL ((P.take i).map textC)) = bk at HTn hbs
            generalize tB (textC P[i]) = tb at yc hts HTn
            have h10 : (⟨#[10]⟩ : ByteArray).size = 1 := rfl
            have hj2 : bk.size + (⟨#[10]⟩ : ByteArray).size ≤ 9223372036854775807 := by omega
            have hj3 : (bk ++ ⟨#[10]⟩ : ByteArray).size + tb.size ≤ 9223372036854775807 := by rw [ByteArray.size_append]; omega
            clear htk hi0
            go_wp2
            go_roundw
            case rel => exact ⟨i + 1, by omega, by go_num, by rw [HTn.out], trivial⟩
            case measure => simp [intOf]; omega
        · obtain rfl : i = N := by omega
          have hii : ¬ (i : Int) < (i : Int) := by omega
          have hTb : tB (jnL ((P.take i).map textC)) = T := by rw [HT.out, HNP.out, List.take_length]
          rw [hTb]
          obtain ⟨wb, rfl⟩ : ∃ wb, wb = wr := ⟨_, rfl⟩
          have hEb := hE.below HB2.out
          have HBu : Hid (∀ V, Env V → Calls Tryd.prog 9 #[.string T] V fun e w' => e = .returned (.tuple #[.string A, .int .i64 0, .int .i64 0]) ∧ Below V.heap.size V w') := fun V hV => by
            have h1 := Build_any T V hV (by omega)
            rw [HT.out, lists_built P HPr.out (by rw [← HNP.out]; exact hpl), ← HA.out] at h1
            rw [HT.out]; exact h1
          have hTT : (T.toList == T.toList) = true := by simp
          have hAA : (A.toList == A.toList) = true := by simp
          clear hTb
          go_wp2_with (first | (go_at_call 9; refine (HBu.out _ hEb).mono ?_; rintro e w3 ⟨rfl, hb3⟩; refine Hid.out ?_))
          refine Lib.hid ?_
          have hB3 : Below w.heap.size w w3 := HB2.out.trans (hb3.mono HB2.out.size)
          have hE3 := hE.below hB3
          have hz3 := hB3.size
          have hAt : A.size + t.size ≤ 9223372036854775807 := by omega
          have hsz : (A ++ t).size = 4 * i + t.size := by rw [ByteArray.size_append, HAs.out]
          have hal : (A ++ t).data.toList = encs P ++ t.data.toList := by rw [ByteArray.data_append, Array.toList_append, HA.out, tB_list]
          by_cases h4 : t.size % 4 = 0
          · have hm0 : (((t.size : Int)).tmod 4 == 0) = true := by rw [Int.tmod_eq_emod_of_nonneg (by omega)]; simp only [beq_iff_eq]; omega
            have hm1 : ((t.size : Int)).tmod 4 = 0 := by rw [Int.tmod_eq_emod_of_nonneg (by omega)]; omega
            have hmE : ((t.size : Int) % 4 != 0) = false := by simp only [bne_eq_false_iff_eq]; omega
            obtain ⟨M, hM⟩ : ∃ M, t.size = 4 * M := ⟨t.size / 4, by omega⟩
            have hLy := List_yes (A ++ t) (i + M) w3 hE3 (by rw [hsz, hM]; omega) (by omega)
            have hap := lisN_app P t.data.toList M HPr.out
            rw [← HNP.out] at hap
            rw [hal, hap] at hLy
            by_cases hM1 : t.size = 4
            · have hM' : M = 1 := by omega
              have ht4 : ((t.size : Int) == 4) = true := by rw [hM1]; rfl
              have ht4p : (t.size : Int) = 4 := by omega
              have hde := dec_eq t hM1
              have hl1 : lisN t.data.toList 1 = (decC t).map ([·]) := by
                rw [lisN, List.take_of_length_le (by simp; omega), list_tB]
                cases decC t <;> simp [lisN]
              rw [hM', hl1] at hLy
              have HRd := Lib.hid (fun V => rDecode_4b t V hM1)
              generalize rdC t = rc at HRd hde
              unfold Cod.v at HRd
              rcases hrc : rightC rc with _ | _
              · rw [hrc] at HRd hde
                rw [hde] at hLy
                have HLy : Hid (Calls Tryd.prog 8 #[.string (A ++ t)] w3 fun e w' => e = .returned (.tuple #[.slice none 0 0, .int .i64 12]) ∧ Below w3.heap.size w3 w') := hLy.mono fun e w' ⟨⟨v, er, he, hl⟩, hb⟩ => by
                  rcases hl with ⟨_, rfl, rfl⟩ | ⟨cs, h, _⟩
                  · exact ⟨he, hb⟩
                  · simp at h
                obtain ⟨At, hAtt⟩ : ∃ At, A ++ t = At := ⟨_, rfl⟩
                rw [hAtt] at HLy
                clear hLy hde hrc hM1 hM hM' hl1 hap hal hsz h4 hb3
                go_wp2_with (first | (go_at_call 8; refine HLy.out.mono ?_; rintro e w4 ⟨rfl, hb4⟩; have hB4 := hB3.trans (hb4.mono hz3)) | (go_at_call 10; refine (HRd.out _).mono ?_; rintro e w5 ⟨rfl, hb5⟩))
                go_ret
                exact ⟨rfl, (hB4.trans (hb5.mono hB4.size)).alloc (hB4.trans (hb5.mono hB4.size)).size _⟩
              · rw [hrc] at HRd hde
                rw [hde] at hLy
                have HLy : Hid (Calls Tryd.prog 8 #[.string (A ++ t)] w3 fun e w' => (∃ sp' cap', e = .returned (.tuple #[.slice sp' (i + 1) cap', .int .i64 0])) ∧ Below w3.heap.size w3 w') := hLy.mono fun e w' ⟨⟨v, er, he, hl⟩, hb⟩ => by
                  rcases hl with ⟨h, _⟩ | ⟨cs, h, ho, rfl⟩
                  · simp at h
                  · obtain ⟨⟨sp', cap', rfl⟩, _⟩ := sts_cells ho
                    have hcl : (txts cs).length = i + 1 := by
                      have : cs = P ++ [rc] := by simpa using h.symm
                      rw [this]; simp [txts]; exact HNP.out.symm
                    rw [hcl] at he
                    exact ⟨⟨sp', cap', he⟩, hb⟩
                obtain ⟨At, hAtt⟩ : ∃ At, A ++ t = At := ⟨_, rfl⟩
                rw [hAtt] at HLy
                clear hLy hde hrc hM1 hM hM' hl1 hap hal hsz h4 hb3
                go_wp2_with (first | (go_at_call 8; refine HLy.out.mono ?_; rintro e w4 ⟨⟨sp', cap', rfl⟩, hb4⟩; have hB4 := hB3.trans (hb4.mono hz3)) | (go_at_call 10; refine (HRd.out _).mono ?_; rintro e w5 ⟨rfl, hb5⟩))
                go_ret
                exact ⟨rfl, (hB4.trans (hb5.mono hB4.size)).alloc (hB4.trans (hb5.mono hB4.size)).size _⟩
            · have ht4 : ((t.size : Int) == 4) = false := by simp only [beq_eq_false_iff_ne]; omega
              have ht4p : ¬ (t.size : Int) = 4 := by omega
              have HRd := Lib.hid (fun V => rDecode_no t V hM1)
              unfold Cod.v at HRd
              have HLy : Hid (Calls Tryd.prog 8 #[.string (A ++ t)] w3 fun e w' => (∃ v er, e = .returned (.tuple #[v, .int .i64 er])) ∧ Below w3.heap.size w3 w') := hLy.mono fun e w' ⟨⟨v, er, he, _⟩, hb⟩ => ⟨⟨v, er, he⟩, hb⟩
              obtain ⟨At, hAtt⟩ : ∃ At, A ++ t = At := ⟨_, rfl⟩
              rw [hAtt] at HLy
              clear hLy hM1 hM hap hal hsz h4 hb3
              go_wp2_with (first | (go_at_call 8; refine HLy.out.mono ?_; rintro e w4 ⟨⟨v4, er4, rfl⟩, hb4⟩; have hB4 := hB3.trans (hb4.mono hz3)) | (go_at_call 10; refine (HRd.out _).mono ?_; rintro e w5 ⟨rfl, hb5⟩))
              go_ret
              exact ⟨rfl, (hB4.trans (hb5.mono hB4.size)).alloc (hB4.trans (hb5.mono hB4.size)).size _⟩
          · have hm0 : (((t.size : Int)).tmod 4 == 0) = false := by rw [Int.tmod_eq_emod_of_nonneg (by omega)]; simp only [beq_eq_false_iff_ne]; omega
            have ht4 : ((t.size : Int) == 4) = false := by simp only [beq_eq_false_iff_ne]; omega
            have ht4p : ¬ (t.size : Int) = 4 := by omega
            have hmE : ((t.size : Int) % 4 != 0) = true := by simp only [bne_iff_ne, ne_eq]; omega
            have HRd := Lib.hid (fun V => rDecode_no t V (by omega))
            unfold Cod.v at HRd
            have HLy := Lib.hid (List_no (A ++ t) w3 (by rw [hsz]; omega))
            obtain ⟨At, hAtt⟩ : ∃ At, A ++ t = At := ⟨_, rfl⟩
            rw [hAtt] at HLy
            clear hal hsz h4 hb3
            go_wp2_with (first | (go_at_call 8; refine HLy.out.mono ?_; rintro e w4 ⟨rfl, hb4⟩; have hB4 := hB3.trans (hb4.mono hz3)) | (go_at_call 10; refine (HRd.out _).mono ?_; rintro e w5 ⟨rfl, hb5⟩))
            go_ret
            exact ⟨rfl, (hB4.trans (hb5.mono hB4.size)).alloc (hB4.trans (hb5.mono hB4.size)).size _⟩
end Go.Proofs.YtgldkmabhmlijaaDoor
