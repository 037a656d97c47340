/- What Put of the reference answers. -/
import Derived.Test.YtddllchobojmlaaApp
namespace Go.Proofs.Ytddllchobojmlaa
open Go.RowKit Go.Sort
theorem ahd_gt {l : List Mp} {m : Mp} (hr : rightS l = true) (hg : goodM m = true) (ha : l.any (meet m) = false) (k : Nat) (h : k < l.length) : m.at_ < l[k].at_ ↔ ahd m l ≤ k := by
  obtain ⟨_, hgs, hp⟩ := (rightS_iff l).1 hr
  obtain ⟨h1, h2⟩ := ahd_split m l hgs hp
  have hgm := ((goodM_iff _).1 hg).1
  have hgk := ((goodM_iff _).1 (hgs _ (List.getElem_mem h))).1
  have hno : ¬ (l[k].at_ < m.at_ + m.pg ∧ m.at_ < l[k].at_ + l[k].pg) := fun hh => by
    have : l.any (meet m) = true := List.any_eq_true.2 ⟨l[k], List.getElem_mem h, by simp [meet, hh.1, hh.2]⟩
    rw [ha] at this; cases this
  rcases Nat.lt_or_ge k (ahd m l) with hk | hk
  · have := h1 l[k] (by rw [List.mem_take_iff_getElem]; exact ⟨k, by omega, rfl⟩)
    omega
  · have := h2 l[k] (by rw [List.mem_drop_iff_getElem]; exact ⟨k - ahd m l, by omega, by congr 1; omega⟩)
    omega
theorem tk_drop (l : List Mp) (c k : Nat) (h : k < l.length) (hc : c ≤ k) : (l.take (k + 1)).drop c = (l.take k).drop c ++ [l[k]] := by
  rw [List.take_succ_eq_append_getElem h, List.drop_append_of_le_length (by rw [List.length_take]; omega)]
set_option maxRecDepth 100000 in
set_option maxHeartbeats 4000000 in
theorem refPut_any (p : Option Addr) (cap : Nat) (l : List Mp) (m : Mp) (w : World) (hR : RAt w p cap l) :
    Calls Try.prog 11 #[.slice p l.length cap, mpV m] w fun e w' => ∃ v, e = .returned (.tuple #[v, .int .i64 (putE l m)]) ∧ w'.ownsRow w.heap.size 24 7 v (putL l m).length (flat (putL l m)) ∧ Below w.heap.size w w' := by
  unfold mpV
  have hlc := hR.len
  have hm : l.length ≤ maxLen := Nat.le_trans hlc hR.top
  have hc := hR.row
  have hB1 : Below w.heap.size w (w.alloc (mpB m)) := (Below.refl _ _).alloc (Nat.le_refl _) _
  have hM1 := mpB_at w m
  have HRT := Lib.hid (refRight_any p cap l (w.alloc (mpB m)) hm (hc.below hB1))
  by_cases hr : rightS l = true
  · rw [hr] at HRT
    by_cases hg : goodM m = true
    · have HGD := Lib.hid (fun W => Good_any m W)
      rw [hg] at HGD
      have h16 : l.length ≤ 16 := ((rightS_iff l).1 hr).1
      have hgs := ((rightS_iff l).1 hr).2.1
      go_enter Try.func11, Try.ntmps11
      go_wp2_with (first
        | (go_at_call 15; refine HRT.out.mono ?_; rintro e w1 ⟨rfl, hb1⟩; obtain ⟨c0, c1, c2, c3, c4, c5, c6⟩ := hM1.below hb1 (by simp))
        | (go_at_call 24; refine (HGD.out _).mono ?_; rintro e w2 ⟨rfl, hb2⟩; refine Hid.out ?_))
      refine Lib.hid ?_
      have hb12 := hb1.trans (hb2.mono hb1.size)
      have hBW : Below w.heap.size w w2 := hB1.trans (hb12.mono (by simp))
      have hM2 : MpAt w2 w.heap.size 0 m := hM1.below hb12 (by simp)
      have hw2 : w.heap.size < w2.heap.size := by have := hb12.size; simp at this; omega
      clear c0 c1 c2 c3 c4 c5 c6 HRT HGD hb1 hb2 hb12 hM1 hB1
      go_wp2_with fail
      go_loopw [22] (fun i wr => ∃ k : Nat, k ≤ l.length ∧ i = .int .i64 k ∧ (l.take k).any (meet m) = false ∧ Below w2.heap.size w2 wr) (fun i _ => l.length - (intOf i).toNat)
      case atStart => exact ⟨0, Nat.zero_le _, rfl, by simp, Below.refl _ _⟩
      case round =>
        obtain ⟨k, hk, rfl, hany, hb⟩ := hrel
        have hbw : Below w.heap.size w wr := hBW.trans (hb.mono hBW.size)
        have hbs := hb.size
        have hbs2 := hbw.size
        have hMr := hM2.below hb hw2
        by_cases hlt : k < l.length
        · obtain ⟨b, off, rfl, hbl, hq⟩ := hc k hlt
          obtain ⟨c0, c1, c2, c3, c4, c5, c6⟩ := hq.below hbw hbl
          obtain ⟨y0, y1, y2, y3, y4, y5, y6⟩ := hMr
          have hbr : b < wr.heap.size := Nat.lt_of_lt_of_le hbl hbw.size
          have hwr : w.heap.size < wr.heap.size := by omega
          have HA := Lib.hid (any_take m l k hlt)
          have HAny := Lib.hid hany
          have hki : (k : Int) < (l.length : Int) := by omega
          have HMt : Hid (∀ W, Calls Try.prog 25 #[.agg #[.int .i64 l[k].at_, .int .i64 l[k].pg, .int .i64 l[k].inn, .int .i64 l[k].id, .int .i64 l[k].fr, .bool l[k].wr, .bool l[k].rn], .agg #[.int .i64 m.at_, .int .i64 m.pg, .int .i64 m.inn, .int .i64 m.id, .int .i64 m.fr, .bool m.wr, .bool m.rn]] W fun e w' => e = .returned (.bool (meet m l[k])) ∧ Below W.heap.size W w') := fun W => Meet_any l[k] m W (hgs _ (List.getElem_mem hlt)) hg
          have hbX : Below w2.heap.size w2 (wr.alloc (.cells #[.int .i64 l[k].at_, .int .i64 l[k].pg, .int .i64 l[k].inn, .int .i64 l[k].id, .int .i64 l[k].fr, .bool l[k].wr, .bool l[k].rn] 24)) := hb.alloc hbs _
          clear hc hq hany
          by_cases hmm : meet m l[k] = true
          · rw [hmm] at HMt
            go_wp2_with (go_at_call 25; refine (HMt.out _).mono ?_; rintro e w3 ⟨rfl, hb3⟩)
            go_ret2
            have hA : l.any (meet m) = true := any_of_take m l (k + 1) (by rw [HA.out, hmm]; simp)
            have hE : putE l m = 2 := by unfold putE; simp [hr, hg, hA]
            exact ⟨_, ret_two rfl hE.symm, by unfold putL; rw [hE]; exact World.ownsRow_nil _ _ _ _, (hBW.trans (hbX.mono hBW.size)).trans (hb3.mono (by simp; omega))⟩
          · have hmm' : meet m l[k] = false := by simpa using hmm
            rw [hmm'] at HMt
            go_wp2_with (go_at_call 25; refine (HMt.out _).mono ?_; rintro e w3 ⟨rfl, hb3⟩)
            go_roundw
            case rel => exact ⟨k + 1, by omega, by go_num, by rw [HA.out, HAny.out, hmm']; rfl, hbX.trans (hb3.mono (by simp; omega))⟩
            case measure => simp [intOf]; omega
        · obtain rfl : k = l.length := by omega
          have hkk : ¬ (l.length : Int) < (l.length : Int) := by omega
          rw [List.take_length] at hany
          by_cases hf : l.length = 16
          · have hfi : ((l.length : Int) == 16) = true := by simp [hf]
            clear hf
            go_wp2
            go_ret2
            have hE : putE l m = 7 := by unfold putE; simp at hfi; simp [hr, hg, hany]; omega
            exact ⟨_, ret_two rfl hE.symm, by unfold putL; rw [hE]; exact World.ownsRow_nil _ _ _ _, hbw⟩
          · have hfi : ((l.length : Int) == 16) = false := by simp; omega
            have hE : putE l m = 0 := by unfold putE; simp [hr, hg, hany, hf]
            have HE := Lib.hid hE
            clear hE
            go_wp2_with fail
            obtain ⟨W3, hW3⟩ : ∃ W3, wr = W3 := ⟨_, rfl⟩
            rw [hW3] at hbw hb hbs hbs2 hMr ⊢
            clear hW3
            have hOwn0 : (W3.alloc (.cells #[] 24)).ownsRow W3.heap.size 24 7 (.slice (some ⟨W3.heap.size, 0, none⟩) 0 0) 0 (flat []) := World.ownsRow_lit (base := W3.heap.size) (e := 24) (size := 7) W3 #[] 0 (Nat.le_refl _) (by decide) rfl
            have hB0 : Below W3.heap.size W3 (W3.alloc (.cells #[] 24)) := (Below.refl _ _).alloc (Nat.le_refl _) _
            have HGT := Lib.hid (ahd_gt hr hg hany)
            have hal := ahd_le m l
            have hwW : w.heap.size < W3.heap.size := by omega
            obtain ⟨c, hcc⟩ : ∃ c, ahd m l = c := ⟨_, rfl⟩
            have HPL := Lib.hid (show putL l m = l.take c ++ m :: l.drop c from by unfold putL; rw [if_pos HE.out, hcc]; simp)
            rw [hcc] at HGT hal
            clear hcc
            go_loopw [8, 9, 36] (fun v b i wr => ∃ (k : Nat) (lb : Bool) (O : List Mp), k ≤ l.length ∧ i = .int .i64 k ∧ b = .bool lb ∧ O.length ≤ 17 ∧ (lb = false ∧ k ≤ c ∧ O = l.take k ∨ lb = true ∧ c < k ∧ O = l.take c ++ m :: (l.take k).drop c) ∧ wr.ownsRow W3.heap.size 24 7 v O.length (flat O) ∧ Below W3.heap.size W3 wr) (fun _ _ i _ => l.length - (intOf i).toNat)
            case atStart => exact ⟨0, false, [], Nat.zero_le _, rfl, rfl, by simp, .inl ⟨rfl, Nat.zero_le _, by simp⟩, hOwn0, hB0⟩
            case round =>
              obtain ⟨k, lb, O, hk, rfl, rfl, hOl, hcase, hown, hbr⟩ := hrel
              have hz := hbr.size
              have hbwr : Below w.heap.size w wr := hbw.trans (hbr.mono (by omega))
              have hMk := hMr.below hbr hwW
              by_cases hlt : k < l.length
              · have hki : (k : Int) < (l.length : Int) := by omega
                obtain ⟨b, off, rfl, hbl, hq⟩ := hc k hlt
                obtain ⟨x0, x1, x2, x3, x4, x5, x6⟩ := hq.below hbwr hbl
                obtain ⟨y0, y1, y2, y3, y4, y5, y6⟩ := hMk
                have hbrr : b < wr.heap.size := by omega
                have hwr : w.heap.size < wr.heap.size := by omega
                have hgt := HGT.out k hlt
                have hbz : W3.heap.size ≤ (wr.alloc (.cells #[.int .i64 l[k].at_, .int .i64 l[k].pg, .int .i64 l[k].inn, .int .i64 l[k].id, .int .i64 l[k].fr, .bool l[k].wr, .bool l[k].rn] 24)).heap.size := by simp; omega
                have hbX : Below W3.heap.size W3 (wr.alloc (.cells #[.int .i64 l[k].at_, .int .i64 l[k].pg, .int .i64 l[k].inn, .int .i64 l[k].id, .int .i64 l[k].fr, .bool l[k].wr, .bool l[k].rn] 24)) := hbr.alloc hz _
                have HOwn := Lib.hid (hown.alloc (.cells #[.int .i64 l[k].at_, .int .i64 l[k].pg, .int .i64 l[k].inn, .int .i64 l[k].id, .int .i64 l[k].fr, .bool l[k].wr, .bool l[k].rn] 24))
                have HLt := Lib.hid hown.lt
                have HTk := Lib.hid (List.take_succ_eq_append_getElem hlt)
                clear hq hown
                rcases hcase with ⟨rfl, hkc, hO⟩ | ⟨rfl, hkc, hO⟩
                · by_cases hke : k < c
                  · have hng : ¬ m.at_ < l[k].at_ := by omega
                    have HO0 := Lib.hid hO
                    clear hO hgt
                    go_wp2_with (at_builtin; refine app_mp rfl _ _ rfl W3.heap.size O.length u8 O l[k] rfl HOwn.out hbz (by omega) (wr.heap.size + 1) (by simp) rfl ?_; intro v' w5 hown' hb5 hk5; have HO := Lib.hid hown'; have HB := Lib.hid hb5; clear hown' hb5 hk5)
                    go_roundw
                    case rel => exact ⟨k + 1, false, O ++ [l[k]], by omega, by go_num, rfl, by rw [HO0.out]; simp; omega, .inl ⟨rfl, by omega, by rw [HTk.out, HO0.out]⟩, by rw [List.length_append]; exact HO.out, hbX.trans HB.out⟩
                    case measure => simp [intOf]; omega
                  · obtain rfl : k = c := by omega
                    have hng : m.at_ < l[k].at_ := hgt.2 (Nat.le_refl _)
                    have HO0 := Lib.hid hO
                    clear hO hgt
                    go_wp2_with (at_builtin; refine app_mp rfl _ _ rfl W3.heap.size O.length u8 O m rfl HOwn.out hbz (by omega) (wr.heap.size + 1) (by simp) rfl ?_; intro v' w5 hown' hb5 hk5; refine Hid.out ?_)
                    refine Lib.hid ?_
                    have hbs5 := hb5.size
                    have hw5 : wr.heap.size < w5.heap.size := by simp at hbs5; omega
                    have hxb : w5.heap[wr.heap.size]? = some (mpB l[k]) := (hk5 wr.heap.size (by simp) (fun e => by have := (HLt.out _ e.symm).2; omega)).trans (heap_new wr _)
                    obtain ⟨⟨z0, z1, z2, z3, z4, z5, z6⟩, -⟩ := mpB_cells hxb
                    have HOwn2 := Lib.hid hown'
                    have hbX5 := hbX.trans hb5
                    have hbz5 := hbX5.size
                    clear hown' hb5 hk5 hxb
                    go_wp2_with (at_builtin; refine app_mp rfl _ _ rfl W3.heap.size (O.length + 1) v' (O ++ [m]) l[k] rfl HOwn2.out hbz5 (by omega) w5.heap.size rfl rfl ?_; intro v2 w6 hown6 hb6 hk6; have HO := Lib.hid hown6; have HB := Lib.hid hb6; clear hown6 hb6 hk6)
                    go_roundw
                    case rel => exact ⟨k + 1, true, O ++ [m] ++ [l[k]], by omega, by go_num, rfl, by rw [HO0.out]; simp; omega, .inr ⟨rfl, by omega, by rw [tk_drop l k k hlt (Nat.le_refl _), HO0.out, List.drop_of_length_le (l := l.take k) (by rw [List.length_take]; omega)]; simp⟩, by rw [List.length_append, List.length_append]; exact HO.out, hbX5.trans HB.out⟩
                    case measure => simp [intOf]; omega
                · have HO0 := Lib.hid hO
                  clear hO hgt
                  go_wp2_with (at_builtin; refine app_mp rfl _ _ rfl W3.heap.size O.length u8 O l[k] rfl HOwn.out hbz (by omega) (wr.heap.size + 1) (by simp) rfl ?_; intro v' w5 hown' hb5 hk5; have HO := Lib.hid hown'; have HB := Lib.hid hb5; clear hown' hb5 hk5)
                  go_roundw
                  case rel => exact ⟨k + 1, true, O ++ [l[k]], by omega, by go_num, rfl, by rw [HO0.out]; simp; omega, .inr ⟨rfl, by omega, by rw [tk_drop l c k hlt (by omega), HO0.out]; simp⟩, by rw [List.length_append]; exact HO.out, hbX.trans HB.out⟩
                  case measure => simp [intOf]; omega
              · obtain rfl : k = l.length := by omega
                have hkk : ¬ (l.length : Int) < (l.length : Int) := by omega
                obtain ⟨y0, y1, y2, y3, y4, y5, y6⟩ := hMk
                have hwr : w.heap.size < wr.heap.size := by omega
                rcases hcase with ⟨rfl, hkc, hO⟩ | ⟨rfl, hkc, hO⟩
                · have HO0 := Lib.hid hO
                  have HOwn := Lib.hid hown
                  obtain rfl : c = l.length := by omega
                  clear hO hown
                  go_wp2_with (at_builtin; refine app_mp rfl _ _ rfl W3.heap.size O.length u8 O m rfl HOwn.out hz (by omega) wr.heap.size rfl rfl ?_; intro v' w5 hown' hb5 hk5; have HO := Lib.hid hown'; have HB := Lib.hid hb5; clear hown' hb5 hk5)
                  go_ret2
                  refine ⟨_, ret_two rfl HE.out.symm, ?_, hbw.trans ((hbr.trans HB.out).mono (by omega))⟩
                  rw [HPL.out]
                  have h := HO.out
                  rw [HO0.out] at h
                  refine row_mono (b := W3.heap.size) ?_ (by omega)
                  simp only [List.take_length, List.drop_length, List.length_append, List.length_cons, List.length_nil] at h ⊢
                  exact h
                · have HO0 := Lib.hid hO
                  have HOwn := Lib.hid hown
                  clear hO hown
                  go_wp2
                  go_ret2
                  refine ⟨_, ret_two rfl HE.out.symm, ?_, hbw.trans (hbr.mono (by omega))⟩
                  rw [HPL.out]
                  have h := HOwn.out
                  rw [HO0.out, List.take_length] at h
                  exact row_mono h (by omega)
    · have hg' : goodM m = false := by simpa using hg
      have HGD := Lib.hid (fun W => Good_any m W)
      rw [hg'] at HGD
      go_enter Try.func11, Try.ntmps11
      go_wp2_with (first
        | (go_at_call 15; refine HRT.out.mono ?_; rintro e w1 ⟨rfl, hb1⟩; obtain ⟨c0, c1, c2, c3, c4, c5, c6⟩ := hM1.below hb1 (by simp))
        | (go_at_call 24; refine (HGD.out _).mono ?_; rintro e w2 ⟨rfl, hb2⟩))
      go_ret2
      have hE : putE l m = 1 := by unfold putE; simp [hg']
      exact ⟨_, ret_two rfl hE.symm, by unfold putL; rw [hE]; exact World.ownsRow_nil _ _ _ _, (hB1.trans (hb1.mono (by simp))).trans (hb2.mono (by have := hb1.size; simp at this; omega))⟩
  · have hr' : rightS l = false := by simpa using hr
    rw [hr'] at HRT
    go_enter Try.func11, Try.ntmps11
    go_wp2_with (go_at_call 15; refine HRT.out.mono ?_; rintro e w1 ⟨rfl, hb1⟩)
    go_ret2
    have hE : putE l m = 1 := by unfold putE; simp [hr']
    exact ⟨_, ret_two rfl hE.symm, by unfold putL; rw [hE]; exact World.ownsRow_nil _ _ _ _, hB1.trans (hb1.mono (by simp))⟩
end Go.Proofs.Ytddllchobojmlaa
