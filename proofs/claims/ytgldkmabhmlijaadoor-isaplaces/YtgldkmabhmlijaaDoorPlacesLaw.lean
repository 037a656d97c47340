/- IsaPlaces walks. -/
import Derived.Test.YtgldkmabhmlijaaDoorPlacesM
import Derived.Test.YtgldkmabhmlijaaDoorLives
import Derived.Test.YtgldkmabhmlijaaDoorCodeRow
namespace Go.Proofs.YtgldkmabhmlijaaDoor
open Go.RowKit Go.Sort
theorem text_up2 (c : Cod) (hr : rightC c = true) : (textC c).length ≤ 100 := by
  obtain ⟨l1, l2, l3, l4, l5⟩ := right_lim hr
  have := txK_len c (sh c.op) 3 (fOk_of l2 l3 l4 l5)
  show (txK c (sh c.op) 3).length ≤ 100
  omega
theorem unl_texts : ∀ (l : List Cod), (∀ c ∈ l, rightC c = true) → (unl (l.map textC)).length ≤ 101 * l.length
  | [], _ => by simp [unl]
  | c :: l, h => by
    have h1 := text_up2 c (h c (by simp))
    have h2 := unl_texts l (fun x hx => h x (by simp [hx]))
    rw [List.map_cons, unl_cons, List.length_append, List.length_cons, List.length_cons]; omega
theorem rgo (n : Nat) (h : n ≤ 100) : rightC ⟨22, 0, 0, 0, n⟩ = true := by
  simp [rightC, show sh 22 = 5 from by decide, zer, way]; omega
theorem rzr (n : Nat) (h : n ≤ 100) : rightC ⟨23, 3, 0, 0, -(n : Int) - 1⟩ = true := by
  simp [rightC, show sh 23 = 6 from by decide, zer, way, reg]; omega
theorem u64_wrap (n : Int) : IntKind.u64.wrap n = n % 18446744073709551616 := by
  simp [IntKind.wrap, IntKind.bits, IntKind.signed]
theorem mod_num (n : Int) (k : Nat) (h0 : 0 < k) (hk : k ≤ 4097) : ∃ m : Nat, m < k ∧ wrap64 ((IntKind.u64.wrap n).tmod k) = m := by
  have h1 : 0 ≤ IntKind.u64.wrap n := by rw [u64_wrap]; omega
  refine ⟨((IntKind.u64.wrap n).tmod k).toNat, ?_, ?_⟩
  · rw [Int.tmod_eq_emod_of_nonneg h1]; have := Int.emod_lt_of_pos (IntKind.u64.wrap n) (by omega : (0 : Int) < k); have := Int.emod_nonneg (IntKind.u64.wrap n) (by omega : (k : Int) ≠ 0); omega
  · rw [Int.tmod_eq_emod_of_nonneg h1]
    have := Int.emod_lt_of_pos (IntKind.u64.wrap n) (by omega : (0 : Int) < k); have := Int.emod_nonneg (IntKind.u64.wrap n) (by omega : (k : Int) ≠ 0)
    rw [wrap64_id (by omega) (by omega)]; omega
set_option maxRecDepth 100000 in
set_option maxHeartbeats 8000000 in
theorem IsaPlaces_any (p q : Option Addr) (cp cq : Nat) (B H : List Cod) (x : Int) (w : World) (hE : Env w) (hB : CdsAt w p B) (hH : CdsAt w q H) (hBl : B.length ≤ maxLen) (hHl : H.length ≤ maxLen) : Calls Tryd.prog 4 #[.slice p B.length cp, .slice q H.length cq, .int .i64 x] w fun e w' => e = .returned (.bool true) ∧ Below w.heap.size w w' := by
  have HL := Lib.hid lives_any
  have HBd := Lib.hid hB
  have HHd := Lib.hid hH
  have hBl2 : B.length ≤ 9223372036854775807 := hBl
  have hHl2 : H.length ≤ 9223372036854775807 := hHl
  obtain ⟨bk, hbk, hbv⟩ := mod_num x 5 (by omega) (by omega)
  have hbv' : wrap64 ((IntKind.u64.wrap x).tmod 5) = (bk : Int) := hbv
  clear hbv hB hH hBl hHl
  have HTX : Hid ((([] : List UInt8)).length ≤ 20000) := by simp [Hid]
  go_enter Tryd.func4, Tryd.ntmps4
  go_wp2_with (first | (go_at_call 5; refine (HL.out _ hE).mono ?_; rintro e w1 ⟨rfl, hb1⟩))
  have HB0 := Lib.hid hb1
  clear hb1
  go_loopw [7, 8, 30] (fun tv nv iv wr => ∃ k : Nat, k ≤ B.length ∧ iv = .int .i64 k ∧ tv = .string (tB (([] : List UInt8) ++ unl ((pik B k).map textC))) ∧ nv = .int .i64 ((pik B k).length : Nat) ∧ Below w.heap.size w wr) (fun _ _ iv _ => B.length - (intOf iv).toNat)
  case atStart => exact ⟨0, by omega, rfl, rfl, rfl, HB0.out⟩
  case round =>
    obtain ⟨k, hk, rfl, rfl, rfl, hbr⟩ := hrel
    have hpl := pik_len B k
    have hul : (([] : List UInt8) ++ unl ((pik B k).map textC)).length ≤ 40000 := by
      rw [List.length_append]
      have := unl_texts (pik B k) (pik_right B k)
      have := HTX.out
      omega
    obtain ⟨T, hT⟩ : ∃ T, T = tB (([] : List UInt8) ++ unl ((pik B k).map textC)) := ⟨_, rfl⟩
    have hTs : T.size ≤ 40000 := by rw [hT, tB_size]; exact hul
    rw [← hT]
    have HT := Lib.hid hT
    obtain ⟨N, hN⟩ : ∃ N, N = (pik B k).length := ⟨_, rfl⟩
    rw [← hN] at hpl ⊢
    have HN := Lib.hid hN
    clear hT hN hul
    by_cases hlt : k < B.length
    · have hki : (k : Int) < (B.length : Int) := by omega
      obtain ⟨b0, off, rfl, hbl, y0, y1, y2, y3, y4⟩ := (HBd.out.below hbr) k hlt
      have hEr := hE.below hbr
      have hzr := hbr.size
      have HBR := Lib.hid hbr
      rcases hr : rightC B[k] with _ | _
      · have HP : Hid (pik B (k + 1) = pik B k) := pik_no B k hlt (.inl hr)
        have HTx := Lib.hid (fun V => Text_no B[k] V hr)
        unfold Cod.v at HTx
        generalize B[k] = c at y0 y1 y2 y3 y4 HTx
        have HA := Lib.hid (At5.new wr c 25)
        clear hr hbr
        go_wp2_with (first | (go_at_call 7; refine (HTx.out _).mono ?_; rintro e w2 ⟨rfl, hb2⟩))
        go_roundw
        case rel => exact ⟨k + 1, by omega, by go_num, by rw [HP.out, HT.out], by rw [HP.out, HN.out], HBR.out.trans (((Below.refl _ _).alloc (Nat.le_refl _) _).mono hzr |>.trans (hb2.mono (by simp; omega)))⟩
        case measure => simp [intOf]; omega
      · have HTx : Hid (∀ V, Env V → Calls Tryd.prog 7 #[B[k].v] V fun e w' => e = .returned (.tuple #[.string (tB (textC B[k])), .int .i64 0]) ∧ Below V.heap.size V w') := fun V hV => Text_yes B[k] V hV hr
        unfold Cod.v at HTx
        have hEa : Env (wr.alloc (.cells #[.int .i64 B[k].op, .int .i64 B[k].a, .int .i64 B[k].b, .int .i64 B[k].c, .int .i64 B[k].n] 25)) := hEr.below ((Below.refl _ _).alloc (Nat.le_refl _) _)
        have hts : (tB (textC B[k])).size ≤ 100 := by rw [tB_size]; exact text_up2 _ hr
        by_cases h100 : k < 100
        · have h1i : (k : Int) < 100 := by omega
          have HP : Hid (pik B (k + 1) = pik B k ++ [B[k]]) := pik_yes B k hlt h100 hr
          have HTn : Hid (T ++ (tB (textC B[k]) ++ ⟨#[10]⟩) = tB (([] : List UInt8) ++ unl ((pik B (k + 1)).map textC))) := by
            simp only [Hid]; rw [HP.out, HT.out, show (⟨#[10]⟩ : ByteArray) = tB [10] from rfl, tB_app, tB_app, List.map_append, unl_append]
            congr 1
            simp [unl]
          have HNn : Hid ((pik B (k + 1)).length = N + 1) := by simp only [Hid]; rw [HP.out, List.length_append, HN.out]; rfl
          generalize B[k] = c at y0 y1 y2 y3 y4 HTx hEa hts HTn HP hr
          generalize tB (textC c) = tb at HTx HTn hts
          have h10 : (⟨#[10]⟩ : ByteArray).size = 1 := rfl
          have hj1 : tb.size + (⟨#[10]⟩ : ByteArray).size ≤ 9223372036854775807 := by omega
          have hj2 : T.size + (tb ++ ⟨#[10]⟩).size ≤ 9223372036854775807 := by rw [ByteArray.size_append]; omega
          have hj3 : T.size + (tb.size + 1) ≤ 9223372036854775807 := by omega
          clear hr hbr HP
          go_wp2_with (first | (go_at_call 7; refine (HTx.out _ hEa).mono ?_; rintro e w2 ⟨rfl, hb2⟩))
          go_roundw
          case rel => exact ⟨k + 1, by omega, by go_num, by rw [← HTn.out], by rw [HNn.out]; go_num, HBR.out.trans (((Below.refl _ _).alloc (Nat.le_refl _) _).mono hzr |>.trans (hb2.mono (by simp; omega)))⟩
          case measure => simp [intOf]; omega
        · have h1i : ¬ (k : Int) < 100 := by omega
          have HP : Hid (pik B (k + 1) = pik B k) := pik_no B k hlt (.inr (by omega))
          generalize B[k] = c at y0 y1 y2 y3 y4 HTx hEa hts hr
          generalize tB (textC c) = tb at HTx hts
          clear hr hbr
          go_wp2_with (first | (go_at_call 7; refine (HTx.out _ hEa).mono ?_; rintro e w2 ⟨rfl, hb2⟩))
          go_roundw
          case rel => exact ⟨k + 1, by omega, by go_num, by rw [HP.out, HT.out], by rw [HP.out, HN.out], HBR.out.trans (((Below.refl _ _).alloc (Nat.le_refl _) _).mono hzr |>.trans (hb2.mono (by simp; omega)))⟩
          case measure => simp [intOf]; omega
    · obtain rfl : k = B.length := by omega
      have hki : ¬ (B.length : Int) < (B.length : Int) := by omega
      obtain ⟨wa, rfl⟩ : ∃ wa, wa = wr := ⟨_, rfl⟩
      obtain ⟨nB, hnB⟩ : ∃ nB, nB = N := ⟨_, rfl⟩
      have HNB : Hid (nB = (pik B B.length).length) := hnB.trans HN.out
      rw [← hnB] at hpl ⊢
      have hBa := hbr
      have hn100 : nB ≤ 100 := hpl
      clear hnB HN hpl
      obtain ⟨Ta, hTa⟩ : ∃ Ta, Ta = T := ⟨_, rfl⟩
      have HTa : Hid (Ta = tB (unl ((pik B B.length).map textC))) := by rw [hTa, HT.out]; rfl
      have hTas : Ta.size ≤ 40000 := by rw [hTa]; exact hTs
      rw [← hTa]
      clear hTa hTs HT hbr hk HTX
      go_wp2_with fail
      go_loopw [7, 14] (fun tv iv wr => ∃ k : Nat, k ≤ bk ∧ iv = .int .i64 k ∧ tv = .string (Ta ++ tB (List.replicate k 10)) ∧ Below w.heap.size w wr) (fun _ iv _ => bk - (intOf iv).toNat)
      case atStart => exact ⟨0, by omega, rfl, by rw [show Ta ++ tB (List.replicate 0 10) = Ta from ByteArray.ext (by simp [ByteArray.data_append, tB])], hBa⟩
      case round =>
        clear hBa
        obtain ⟨k, hk, rfl, rfl, hbr⟩ := hrel
        have hks : (tB (List.replicate k 10)).size = k := by rw [tB_size, List.length_replicate]
        have hTk : (Ta ++ tB (List.replicate k 10)).size ≤ 50000 := by rw [ByteArray.size_append, hks]; omega
        have HTn : Hid (Ta ++ tB (List.replicate k 10) ++ ⟨#[10]⟩ = Ta ++ tB (List.replicate (k + 1) 10)) := by
          simp only [Hid]; rw [show (⟨#[10]⟩ : ByteArray) = tB [10] from rfl, ByteArray.append_assoc, tB_app, ← List.replicate_succ']
        obtain ⟨Tb, hTb⟩ : ∃ Tb, Tb = Ta ++ tB (List.replicate k 10) := ⟨_, rfl⟩
        rw [← hTb] at hTk HTn ⊢
        have HTb := Lib.hid hTb
        clear hTb hks
        have h10 : (⟨#[10]⟩ : ByteArray).size = 1 := rfl
        have hj1 : Tb.size + (⟨#[10]⟩ : ByteArray).size ≤ 9223372036854775807 := by omega
        by_cases hlt : k < bk
        · have hki : (k : Int) < (bk : Int) := by omega
          go_wp2
          go_roundw
          case rel => exact ⟨k + 1, by omega, by go_num, by rw [HTn.out], hbr⟩
          case measure => simp [intOf]; omega
        · obtain rfl : k = bk := by omega
          have hki : ¬ (k : Int) < (k : Int) := by omega
          obtain ⟨wb, rfl⟩ : ∃ wb, wb = wr := ⟨_, rfl⟩
          have hpB := pik_right B B.length
          obtain ⟨X3, hX3⟩ : ∃ X3, X3 = unl ((pik B B.length).map textC) ++ (List.replicate k 10 ++ (plaL ++ [10])) := ⟨_, rfl⟩
          have HX3 := Lib.hid hX3
          have HTX : Hid (X3.length ≤ 20000) := by
            simp only [Hid]; rw [hX3]
            have h1 := unl_texts (pik B B.length) hpB
            have h2 := pik_len B B.length
            simp [plaL]; omega
          have h6 : (⟨#[104, 101, 114, 101, 58, 10]⟩ : ByteArray).size = 6 := rfl
          have hj6 : Tb.size + (⟨#[104, 101, 114, 101, 58, 10]⟩ : ByteArray).size ≤ 9223372036854775807 := by omega
          have HTc : Hid (Tb ++ ⟨#[104, 101, 114, 101, 58, 10]⟩ = tB (X3 ++ unl ((pik H 0).map textC))) := by
            simp only [Hid]; rw [HTb.out, HTa.out, hX3, show (⟨#[104, 101, 114, 101, 58, 10]⟩ : ByteArray) = tB (plaL ++ [10]) from rfl, tB_app, tB_app, show pik H 0 = [] from by simp [pik]]
            simp [unl]
          have HB0 := Lib.hid hbr
          clear hX3 hpB hbr HTn
          go_wp2_with fail
          go_loopw [7, 9, 67] (fun tv nv iv wr => ∃ k : Nat, k ≤ H.length ∧ iv = .int .i64 k ∧ tv = .string (tB (X3 ++ unl ((pik H k).map textC))) ∧ nv = .int .i64 ((pik H k).length : Nat) ∧ Below w.heap.size w wr) (fun _ _ iv _ => H.length - (intOf iv).toNat)
          case atStart => exact ⟨0, by omega, rfl, by rw [HTc.out], rfl, HB0.out⟩
          case round =>
            obtain ⟨k, hk, rfl, rfl, rfl, hbr⟩ := hrel
            have hpl := pik_len H k
            have hul : (X3 ++ unl ((pik H k).map textC)).length ≤ 40000 := by
              rw [List.length_append]
              have := unl_texts (pik H k) (pik_right H k)
              have := HTX.out
              omega
            obtain ⟨T, hT⟩ : ∃ T, T = tB (X3 ++ unl ((pik H k).map textC)) := ⟨_, rfl⟩
            have hTs : T.size ≤ 40000 := by rw [hT, tB_size]; exact hul
            rw [← hT]
            have HT := Lib.hid hT
            obtain ⟨N, hN⟩ : ∃ N, N = (pik H k).length := ⟨_, rfl⟩
            rw [← hN] at hpl ⊢
            have HN := Lib.hid hN
            clear hT hN hul
            by_cases hlt : k < H.length
            · have hki : (k : Int) < (H.length : Int) := by omega
              obtain ⟨b0, off, rfl, hbl, y0, y1, y2, y3, y4⟩ := (HHd.out.below hbr) k hlt
              have hEr := hE.below hbr
              have hzr := hbr.size
              have HBR := Lib.hid hbr
              rcases hr : rightC H[k] with _ | _
              · have HP : Hid (pik H (k + 1) = pik H k) := pik_no H k hlt (.inl hr)
                have HTx := Lib.hid (fun V => Text_no H[k] V hr)
                unfold Cod.v at HTx
                generalize H[k] = c at y0 y1 y2 y3 y4 HTx
                have HA := Lib.hid (At5.new wr c 25)
                clear hr hbr
                go_wp2_with (first | (go_at_call 7; refine (HTx.out _).mono ?_; rintro e w2 ⟨rfl, hb2⟩))
                go_roundw
                case rel => exact ⟨k + 1, by omega, by go_num, by rw [HP.out, HT.out], by rw [HP.out, HN.out], HBR.out.trans (((Below.refl _ _).alloc (Nat.le_refl _) _).mono hzr |>.trans (hb2.mono (by simp; omega)))⟩
                case measure => simp [intOf]; omega
              · have HTx : Hid (∀ V, Env V → Calls Tryd.prog 7 #[H[k].v] V fun e w' => e = .returned (.tuple #[.string (tB (textC H[k])), .int .i64 0]) ∧ Below V.heap.size V w') := fun V hV => Text_yes H[k] V hV hr
                unfold Cod.v at HTx
                have hEa : Env (wr.alloc (.cells #[.int .i64 H[k].op, .int .i64 H[k].a, .int .i64 H[k].b, .int .i64 H[k].c, .int .i64 H[k].n] 25)) := hEr.below ((Below.refl _ _).alloc (Nat.le_refl _) _)
                have hts : (tB (textC H[k])).size ≤ 100 := by rw [tB_size]; exact text_up2 _ hr
                by_cases h100 : k < 100
                · have h1i : (k : Int) < 100 := by omega
                  have HP : Hid (pik H (k + 1) = pik H k ++ [H[k]]) := pik_yes H k hlt h100 hr
                  have HTn : Hid (T ++ (tB (textC H[k]) ++ ⟨#[10]⟩) = tB (X3 ++ unl ((pik H (k + 1)).map textC))) := by
                    simp only [Hid]; rw [HP.out, HT.out, show (⟨#[10]⟩ : ByteArray) = tB [10] from rfl, tB_app, tB_app, List.map_append, unl_append]
                    congr 1
                    simp [unl]
                  have HNn : Hid ((pik H (k + 1)).length = N + 1) := by simp only [Hid]; rw [HP.out, List.length_append, HN.out]; rfl
                  generalize H[k] = c at y0 y1 y2 y3 y4 HTx hEa hts HTn HP hr
                  generalize tB (textC c) = tb at HTx HTn hts
                  have h10 : (⟨#[10]⟩ : ByteArray).size = 1 := rfl
                  have hj1 : tb.size + (⟨#[10]⟩ : ByteArray).size ≤ 9223372036854775807 := by omega
                  have hj2 : T.size + (tb ++ ⟨#[10]⟩).size ≤ 9223372036854775807 := by rw [ByteArray.size_append]; omega
                  have hj3 : T.size + (tb.size + 1) ≤ 9223372036854775807 := by omega
                  clear hr hbr HP
                  go_wp2_with (first | (go_at_call 7; refine (HTx.out _ hEa).mono ?_; rintro e w2 ⟨rfl, hb2⟩))
                  go_roundw
                  case rel => exact ⟨k + 1, by omega, by go_num, by rw [← HTn.out], by rw [HNn.out]; go_num, HBR.out.trans (((Below.refl _ _).alloc (Nat.le_refl _) _).mono hzr |>.trans (hb2.mono (by simp; omega)))⟩
                  case measure => simp [intOf]; omega
                · have h1i : ¬ (k : Int) < 100 := by omega
                  have HP : Hid (pik H (k + 1) = pik H k) := pik_no H k hlt (.inr (by omega))
                  generalize H[k] = c at y0 y1 y2 y3 y4 HTx hEa hts hr
                  generalize tB (textC c) = tb at HTx hts
                  clear hr hbr
                  go_wp2_with (first | (go_at_call 7; refine (HTx.out _ hEa).mono ?_; rintro e w2 ⟨rfl, hb2⟩))
                  go_roundw
                  case rel => exact ⟨k + 1, by omega, by go_num, by rw [HP.out, HT.out], by rw [HP.out, HN.out], HBR.out.trans (((Below.refl _ _).alloc (Nat.le_refl _) _).mono hzr |>.trans (hb2.mono (by simp; omega)))⟩
                  case measure => simp [intOf]; omega
            · obtain rfl : k = H.length := by omega
              have hki : ¬ (H.length : Int) < (H.length : Int) := by omega
              have HBf := Lib.hid hbr
              have hEf := hE.below hbr
              obtain ⟨mid, hml, hbu⟩ := places_built (pik B B.length) (pik H H.length) k (pik_right _ _) (pik_right _ _) (pik_len _ _) (pik_len _ _) (by omega)
              rw [← HNB.out, ← HN.out] at hml hbu
              have HTt : Hid ((⟨#[103, 111, 32, 104, 101, 114, 101, 10]⟩ ++ T) ++ ⟨#[122, 101, 114, 111, 32, 114, 51, 32, 104, 101, 114, 101]⟩ = tB (textP (pik B B.length) (pik H H.length) k)) := by
                simp only [Hid]
                rw [HT.out, HX3.out, show (⟨#[103, 111, 32, 104, 101, 114, 101, 10]⟩ : ByteArray) = tB (goL ++ [10]) from rfl, show (⟨#[122, 101, 114, 111, 32, 114, 51, 32, 104, 101, 114, 101]⟩ : ByteArray) = tB zeroL from rfl, tB_app, tB_app, textP_eq]
                congr 1
                simp
              have hTtz : (tB (textP (pik B B.length) (pik H H.length) k)).size < 900000 := by
                rw [← HTt.out, ByteArray.size_append, ByteArray.size_append]
                have : (⟨#[103, 111, 32, 104, 101, 114, 101, 10]⟩ : ByteArray).size = 8 := rfl
                have : (⟨#[122, 101, 114, 111, 32, 114, 51, 32, 104, 101, 114, 101]⟩ : ByteArray).size = 12 := rfl
                omega
              have HBu : Hid (∀ V, Env V → Calls Tryd.prog 9 #[.string ((⟨#[103, 111, 32, 104, 101, 114, 101, 10]⟩ ++ T) ++ ⟨#[122, 101, 114, 111, 32, 114, 51, 32, 104, 101, 114, 101]⟩)] V fun e w' => e = .returned (.tuple #[.string (tB (encL4 ⟨22, 0, 0, 0, nB⟩ ++ (mid ++ encL4 ⟨23, 3, 0, 0, -(N : Int) - 1⟩))), .int .i64 0, .int .i64 0]) ∧ Below V.heap.size V w') := fun V hV => by
                rw [HTt.out]
                have := Build_any _ V hV hTtz
                rwa [hbu] at this
              have e1 : (tB (encL4 ⟨22, 0, 0, 0, nB⟩ ++ (mid ++ encL4 ⟨23, 3, 0, 0, -(N : Int) - 1⟩))).extract 0 4 = q4s (bytesC ⟨22, 0, 0, 0, nB⟩) := by
                apply ByteArray.ext; apply Array.toList_inj.1
                rw [ByteArray.data_extract, Array.toList_extract, tB_list]
                simp only [List.extract_eq_take_drop, List.drop_zero]
                rw [List.take_append_of_le_length (by rw [encL4_len]; omega), List.take_of_length_le (by rw [encL4_len]; omega)]
                rfl
              have hz : (tB (encL4 ⟨22, 0, 0, 0, nB⟩ ++ (mid ++ encL4 ⟨23, 3, 0, 0, -(N : Int) - 1⟩))).size = 4 * (nB + N + 2) := by
                rw [tB_size, List.length_append, List.length_append, encL4_len, encL4_len, hml]; omega
              have e2 : (tB (encL4 ⟨22, 0, 0, 0, nB⟩ ++ (mid ++ encL4 ⟨23, 3, 0, 0, -(N : Int) - 1⟩))).extract (4 * (nB + N + 2) - 4) (4 * (nB + N + 2)) = q4s (bytesC ⟨23, 3, 0, 0, -(N : Int) - 1⟩) := by
                apply ByteArray.ext; apply Array.toList_inj.1
                rw [ByteArray.data_extract, Array.toList_extract, tB_list]
                simp only [List.extract_eq_take_drop]
                rw [← List.append_assoc, List.drop_append_of_le_length (by rw [List.length_append, encL4_len, hml]; omega), List.drop_of_length_le (by rw [List.length_append, encL4_len, hml]; omega), List.nil_append, List.take_of_length_le (by rw [encL4_len]; omega)]
                rfl
              have HD1 : Hid (∀ V, Calls Tryd.prog 11 #[.string ((tB (encL4 ⟨22, 0, 0, 0, nB⟩ ++ (mid ++ encL4 ⟨23, 3, 0, 0, -(N : Int) - 1⟩))).extract 0 4)] V fun e w' => e = .returned (.tuple #[.agg #[.int .i64 22, .int .i64 0, .int .i64 0, .int .i64 0, .int .i64 (nB : Int)], .int .i64 0]) ∧ Below V.heap.size V w') := fun V => by
                have := Decode_any (q4s (bytesC ⟨22, 0, 0, 0, nB⟩)) V
                rw [enc_dec _ (rgo nB hn100)] at this
                rw [e1]; exact this
              have HD2 : Hid (∀ V, Calls Tryd.prog 11 #[.string ((tB (encL4 ⟨22, 0, 0, 0, nB⟩ ++ (mid ++ encL4 ⟨23, 3, 0, 0, -(N : Int) - 1⟩))).extract (4 * (nB + N + 2) - 4) (4 * (nB + N + 2)))] V fun e w' => e = .returned (.tuple #[.agg #[.int .i64 23, .int .i64 3, .int .i64 0, .int .i64 0, .int .i64 (-(N : Int) - 1)], .int .i64 0]) ∧ Below V.heap.size V w') := fun V => by
                have := Decode_any (q4s (bytesC ⟨23, 3, 0, 0, -(N : Int) - 1⟩)) V
                rw [enc_dec _ (rzr N hpl)] at this
                rw [e2]; exact this
              generalize tB (encL4 ⟨22, 0, 0, 0, nB⟩ ++ (mid ++ encL4 ⟨23, 3, 0, 0, -(N : Int) - 1⟩)) = Sx at HBu HD1 HD2 hz
              have hzi : (Sx.size : Int) = 4 * ((nB : Int) + N + 2) := by omega
              have z4 : (4 : Int) ≤ (Sx.size : Int) := by omega
              have z5 : (4 : Int) ≤ 4 * ((nB : Int) + N + 2) := by omega
              have z6 : (4 * ((nB : Int) + N + 2) - 4).toNat = 4 * (nB + N + 2) - 4 := by omega
              have z7 : (0 : Int) ≤ 4 * ((nB : Int) + N + 2) - 4 := by omega
              have g8 : (⟨#[103, 111, 32, 104, 101, 114, 101, 10]⟩ : ByteArray).size = 8 := rfl
              have g12 : (⟨#[122, 101, 114, 111, 32, 114, 51, 32, 104, 101, 114, 101]⟩ : ByteArray).size = 12 := rfl
              have gj1 : (⟨#[103, 111, 32, 104, 101, 114, 101, 10]⟩ : ByteArray).size + T.size ≤ 9223372036854775807 := by omega
              have gj2 : (⟨#[103, 111, 32, 104, 101, 114, 101, 10]⟩ ++ T : ByteArray).size + (⟨#[122, 101, 114, 111, 32, 114, 51, 32, 104, 101, 114, 101]⟩ : ByteArray).size ≤ 9223372036854775807 := by rw [ByteArray.size_append]; omega
              clear e1 e2 hbu hml hTtz HX3 HTX HTb HTa HHd HBd hbv' hbr HT HN HTt
              go_wp2_with (first | (go_at_call 9; refine (HBu.out _ hEf).mono ?_; rintro e w3 ⟨rfl, hb3⟩; refine Hid.out ?_))
              refine Lib.hid ?_
              have hEf3 := hEf.below hb3
              have HB3 := Lib.hid (HBf.out.trans (hb3.mono HBf.out.size))
              clear hb3
              go_wp2_with (first | (go_at_call 11; refine (HD1.out _).mono ?_; rintro e w4 ⟨rfl, hb4⟩; refine Hid.out ?_))
              refine Lib.hid ?_
              have HB4 := Lib.hid (HB3.out.trans (hb4.mono HB3.out.size))
              have k1 := At5.new w4 ⟨22, 0, 0, 0, nB⟩ 25
              clear hb4
              go_wp2_with (first | (go_at_call 11; refine (HD2.out _).mono ?_; rintro e w5 ⟨rfl, hb5⟩; refine Hid.out ?_))
              refine Lib.hid ?_
              obtain ⟨cl, ⟨b0, b1, b2, b3, b4⟩, bf⟩ := k1.below hb5 (by simp)
              have HB5 : Hid (Below w.heap.size w w5) := (HB4.out.alloc HB4.out.size _).trans (hb5.mono (by have := HB4.out.size; simp; omega))
              clear hb5 bf
              go_wp2
              go_ret
              exact ⟨rfl, HB5.out.alloc HB5.out.size _⟩
end Go.Proofs.YtgldkmabhmlijaaDoor
