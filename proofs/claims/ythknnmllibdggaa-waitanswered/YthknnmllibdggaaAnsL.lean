/- Nobody is lost: each waiting that began is answered once, or still stands in the end. -/
import Derived.Test.YthknnmllibdggaaAnsB
import Derived.Deep.CutBlock
namespace Go.Proofs.Ythknnmllibdggaa
open Go.RowKit Go.Sort
theorem postW_no' {all : List Who} {al : Int → List Int} {t c : Int} (h : ¬ postE al t c = 0) : postW all al t c = false := by
  unfold postW; simp [h]
theorem postW_yes' {all : List Who} {al : Int → List Int} {t c : Int} (h : postE al t c = 0) : postW all al t c = waitsA all t := by
  unfold postW; rw [h]; simp
set_option maxRecDepth 100000 in
set_option maxHeartbeats 8000000 in
theorem WaitAnswered_any (p : Option Addr) (cp : Nat) (ops : List Opv) (w : World) (hp : OpsAt w p ops) (hg : ∀ x ∈ ops, x.good) :
    Calls Try.prog 4 #[.slice p ops.length cp] w fun e w' => e = .returned (.bool true) ∧ Below w.heap.size w w' := by
  obtain ⟨i0, hi, hz0, hz1, hz2⟩ := info_parts intInfo
  go_enter Try.func4, Try.ntmps4
  go_wp2_with (first
    | (go_at_call 8; refine (lives_any _).mono ?_; rintro e w1 ⟨rfl, hb1⟩)
    | (go_at_call 9; refine (New_any _).mono ?_; rintro e w2 ⟨rb, F0, rfl, hra0, hb2, hlo0, hlt0⟩))
  have hz1' := hb1.size
  have hst0 : St w (w2.alloc (.cells #[] 3)) rb F0 [] (fun _ => []) 0 (.slice (some ⟨w2.heap.size, 0, none⟩) 0 0) [] := by
    have hz2' := hb2.size
    refine ⟨hra0.below ((Below.refl _ _).alloc (Nat.le_refl _) _), World.ownsRow_lit (base := w.heap.size) (e := 3) (size := 1) w2 #[] 0 (by omega) (by decide) rfl, fun b hb hF => ?_, fun k hk => ?_, fun k hk => ?_, (hb1.trans (hb2.mono hz1')).alloc (by omega) _⟩
    · have : w2.heap.size = b := Option.some.inj hb
      have := hlt0 b hF; omega
    · have := hlt0 k hk; simp; omega
    · have := hlo0 k hk; omega
  clear hra0 hlo0 hlt0 hb1 hb2 hz1'
  go_loopw [4, 26] (fun v y wr => ∃ (k : Nat) (F : Nat → Prop) (all : List Who) (al : Int → List Int), y = .int .i64 k ∧ k ≤ ops.length ∧ k ≤ 200 ∧ St w wr rb F all al k v (thsA all)) (fun _ y _ => (ops.length - (RowKit.intOf y).toNat))
  case atStart => exact ⟨0, F0, [], fun _ => [], rfl, Nat.zero_le _, Nat.zero_le _, hst0⟩
  case round =>
    obtain ⟨k, F, all, al, rfl, hk, hk6, hst⟩ := hrel
    obtain ⟨sp, cap, rfl⟩ := row_form hst.row
    by_cases hlt : k < ops.length
    · have hki : (k : Int) < (ops.length : Int) := by omega
      obtain ⟨gp, op, rfl, hgp, c0, c1, c2, c3, c4⟩ := hp.at_ hst.bel hlt
      have hgd := hg _ (List.getElem_mem hlt)
      obtain ⟨x, hx⟩ : ∃ x, ops[k] = x := ⟨_, rfl⟩
      rw [hx] at c0 c1 c2 c3 c4 hgd
      obtain ⟨kd, th, sg, of, cd⟩ := x
      obtain ⟨ith, isg, iof, icd⟩ := hgd
      simp only at c0 c1 c2 c3 c4 ith isg iof icd
      clear hx
      by_cases h200 : k < 200
      · have h200i : ¬ (200 : Int) ≤ (k : Int) := by omega
        obtain ⟨W1, hW1⟩ : ∃ W1, wr.alloc (.cells #[.int .i64 kd, .int .i64 th, .int .i64 sg, .int .i64 of, .int .i64 cd] 33) = W1 := ⟨_, rfl⟩
        have hb1 : Below wr.heap.size wr W1 := by rw [← hW1]; exact (Below.refl _ _).alloc (Nat.le_refl _) _
        have hO1 : W1.heap[wr.heap.size]? = some (.cells #[.int .i64 kd, .int .i64 th, .int .i64 sg, .int .i64 of, .int .i64 cd] 33 (0, 0)) := by rw [← hW1]; exact heap_new _ _
        have hs1 := hst.below hb1
        have d0 : W1.cell? ⟨wr.heap.size, 0, none⟩ = some (.int .i64 kd) := by rw [cell_of_row _ _ _ _ _ _ hO1]; rfl
        have d1 : W1.cell? ⟨wr.heap.size, 1, none⟩ = some (.int .i64 th) := by rw [cell_of_row _ _ _ _ _ _ hO1]; rfl
        have d2 : W1.cell? ⟨wr.heap.size, 2, none⟩ = some (.int .i64 sg) := by rw [cell_of_row _ _ _ _ _ _ hO1]; rfl
        have d3 : W1.cell? ⟨wr.heap.size, 3, none⟩ = some (.int .i64 of) := by rw [cell_of_row _ _ _ _ _ _ hO1]; rfl
        have d4 : W1.cell? ⟨wr.heap.size, 4, none⟩ = some (.int .i64 cd) := by rw [cell_of_row _ _ _ _ _ _ hO1]; rfl
        have hFo : ¬ F wr.heap.size := fun h => by have := hst.flt _ h; omega
        have HS1 := Lib.hid hs1
        have HO1 := Lib.hid hO1
        have HW1 := Lib.hid hW1
        clear hst hp hs1 hb1 hO1
        go_upto_block 2 with fail
        clear c0 c1 c2 c3 c4 hW1 HW1
        have hal0 := HS1.out.ra.len
        go_cut [4, 7, 8, 9] from 35 to 102 (fun v4 v7 v8 v9 wx => ∃ (g : List Int) (F' : Nat → Prop) (a0 : List Who) (al' : Int → List Int) (gp' : Option Addr) (gc : Nat), v7 = .slice gp' g.length gc ∧ IntsAt wx gp' g ∧ Gone g a0 ∧ g.length ≤ 400 ∧ a0.length ≤ 300 ∧ St w wx rb F' (dropL g a0) al' (k + 1) v4 (thsA a0))
        case first =>
          by_cases hk1 : kd = 1
          · have kb1 : (kd == 1) = true := by simp; omega
            clear hk1
            have hWt := Wait_any W1 rb F all al k th sg of HS1.out.ra (by omega)
            obtain ⟨c, hc⟩ : ∃ c, waitE all al th sg of = c := ⟨_, rfl⟩
            rw [hc] at hWt
            by_cases hc0 : c = 0
            · subst hc0
              rw [if_pos rfl] at hWt
              have hnw : inB (thsA all) th = false := by
                have hw0 := waitE_zero hc
                cases hh : inB (thsA all) th with
                | false => rfl
                | true => rw [waitsA_iff.2 (inB_iff.1 hh)] at hw0; cases hw0
              have HWt := Lib.hid hWt
              have HNW := Lib.hid hnw
              clear hWt hc hnw
              go_wp2_with (go_at_call 14; refine HWt.out.mono ?_; rintro e w3 ⟨rfl, hx3⟩; refine Hid.out ?_)
              refine Lib.hid ?_
              have hO3 : w3.heap[wr.heap.size]? = _ := (by obtain ⟨F', _, hf, _⟩ := hx3; exact (hf.same _ (heap_lt HO1.out) hFo).trans HO1.out)
              have e1 : w3.cell? ⟨wr.heap.size, 1, none⟩ = some (.int .i64 th) := by rw [cell_of_row _ _ _ _ _ _ hO3]; rfl
              obtain ⟨F3, hs3⟩ := HS1.out.call hx3
              have hIn := In_any w3 sp cap (thsA all) th (row_ints hs3.row) (by have := HS1.out.ra.len; rw [thsA_len]; omega)
              rw [HNW.out] at hIn
              have HIn := Lib.hid hIn
              have hbs := hs3.bel.size
              have hal := HS1.out.ra.len
              have htl := thsA_len all
              have HRA := Lib.hid (hs3.row.alloc (.cells #[.int .i64 th] 3))
              have HNw : Hid (∀ j u, ([.int .i64 th] : List Value)[j]? = some u → (w3.alloc (.cells #[.int .i64 th] 3)).cell? ((⟨w3.heap.size, 0, none⟩ : Addr).add j) = some u) := cell_one_new _ _ _
              have HOn : Hid (∀ u ∈ ([.int .i64 th] : List Value), u.oneCell' = true) := fun u hu => by simp at hu; rcases hu with rfl; rfl
              have HS3 := Lib.hid hs3
              have HTL := Lib.hid htl
              have hlb : (thsA all).length ≤ 200 := by omega
              clear hx3 hO3 hs3 hIn HWt HS1 htl
              go_wp2_with (first
                | (go_at_call 15; refine HIn.out.mono ?_; rintro e w9 ⟨rfl, hw9⟩; rw [hw9]; clear hw9 w9)
                | (at_builtin; refine wpList_append_own_at _ rfl _ _ 37 rfl w.heap.size 3 i0 (.int .i64 0) 1 8 (by kernel_rfl) hi hz0 hz1 hz2 rfl (by decide) _ _ _ rfl HRA.out ⟨w3.heap.size, 0, none⟩ 1 1 [.int .i64 th] rfl rfl HNw.out HOn.out (by show _ ≤ 2 ^ 63 - 1; omega) (by omega) (by simp; omega) ?_; intro v' w7 hown7 hgrow7 hnil7 hat7; clear hnil7; have HO7 := Lib.hid hown7; have HG7 := Lib.hid hgrow7; have HA7 := Lib.hid hat7; clear hown7 hgrow7 hat7))
              go_meet
              refine ⟨[], F3, all ++ [(th, sg, of)], al, none, 0, rfl, fun k hk => by simp at hk, Gone.nil _, by simp, by simp; omega, ?_⟩
              rw [dropL_nil, thsA_app]
              exact HS3.out.appended HO7.out HG7.out (HA7.out.imp id (fun h => ⟨_, h, by simp⟩))
            · rw [if_neg hc0] at hWt
              have HWt := Lib.hid hWt
              have hcb : (c == 0) = false := by simpa using hc0
              clear hWt hc
              go_wp2_with (go_at_call 14; refine HWt.out.mono ?_; rintro e w3 ⟨rfl, hx3⟩)
              go_meet
              obtain ⟨F3, hs3⟩ := HS1.out.call hx3
              exact ⟨[], F3, all, al, none, 0, rfl, fun k hk => by simp at hk, Gone.nil _, by simp, by omega, by rw [dropL_nil]; exact hs3⟩
          · skip
            by_cases hk2 : kd = 2
            · have kb1 : (kd == 1) = false := by simp; omega
              have kb2 : (kd == 2) = true := by simp; omega
              clear hk2
              have HWk := Lib.hid (Wake_any W1 rb F all al k sg of isg iof HS1.out.ra (by omega) HS1.out.flt)
              have hll := listA_len all sg of
              have hal := HS1.out.ra.len
              go_wp2_with (go_at_call 16; refine HWk.out.mono ?_; rintro e w3 ⟨v3, rfl, hr3, hra3, hf3⟩; obtain ⟨sp3, cap3, rfl⟩ := row_form hr3)
              go_meet
              have hs3 := HS1.out.call2 hra3 hf3
              exact ⟨listA all sg of, F, all, al, sp3, cap3, rfl, row_ints hr3, ⟨listA_nd HS1.out.ra.nd _ _, fun t ht => listA_sub ht⟩, by omega, by omega, { hs3 with ra := hs3.ra.mono (by omega) }⟩
            · skip
              by_cases hk3 : kd = 3
              · have kb1 : (kd == 1) = false := by simp; omega
                have kb2 : (kd == 2) = false := by simp; omega
                have kb3 : (kd == 3) = true := by simp; omega
                clear hk3
                have hPo := Post_any W1 rb F all al k th cd HS1.out.ra (by omega)
                by_cases hpe : postE al th cd = 0
                · rw [hpe, if_pos rfl, if_pos rfl, postW_yes' hpe] at hPo
                  by_cases hwt : waitsA all th = true
                  · rw [hwt] at hPo
                    have HPo := Lib.hid hPo
                    clear hPo hpe
                    go_wp2_with (go_at_call 17; refine HPo.out.mono ?_; rintro e w3 ⟨rfl, hx3⟩; refine Hid.out ?_)
                    refine Lib.hid ?_
                    have hO3 : w3.heap[wr.heap.size]? = _ := (by obtain ⟨F', _, hf, _⟩ := hx3; exact (hf.same _ (heap_lt HO1.out) hFo).trans HO1.out)
                    have e1 : w3.cell? ⟨wr.heap.size, 1, none⟩ = some (.int .i64 th) := by rw [cell_of_row _ _ _ _ _ _ hO3]; rfl
                    obtain ⟨F3, hs3⟩ := HS1.out.call hx3
                    have HS3 := Lib.hid hs3
                    have hn3 : IntsAt (w3.alloc (.cells #[.int .i64 th] 3)) (some ⟨w3.heap.size, 0, none⟩) [th] := fun j hj => by
                      have hh := heap_new w3 (.cells #[.int .i64 th] 3)
                      match j, hj with
                      | 0, _ => exact ⟨_, 0, rfl, by simp, by rw [cell_of_row _ _ _ _ _ _ hh]; rfl⟩
                      | j + 1, hj => simp at hj
                    have HN3 := Lib.hid hn3
                    clear hx3 hO3 hs3 HPo hn3
                    go_wp2_with fail
                    go_meet
                    exact ⟨[th], F3, all, _, _, 1, rfl, HN3.out, Gone.one hwt, by simp, by omega, by rw [dropL_one]; exact HS3.out.below ((Below.refl _ _).alloc (Nat.le_refl _) _)⟩
                  · have hwf : waitsA all th = false := by simpa using hwt
                    rw [hwf] at hPo
                    have HPo := Lib.hid hPo
                    clear hPo hpe
                    go_wp2_with (go_at_call 17; refine HPo.out.mono ?_; rintro e w3 ⟨rfl, hx3⟩)
                    go_meet
                    obtain ⟨F3, hs3⟩ := HS1.out.call hx3
                    rw [dropT_no (fun y hy e => by rw [← e] at hwt; exact hwt (waitsA_iff.2 (List.mem_map_of_mem hy)))] at hs3
                    exact ⟨[], F3, all, _, none, 0, rfl, fun k hk => by simp at hk, Gone.nil _, by simp, by omega, by rw [dropL_nil]; exact hs3⟩
                · rw [if_neg hpe, if_neg hpe, postW_no' hpe] at hPo
                  obtain ⟨pc, hpc⟩ : ∃ pc, postE al th cd = pc := ⟨_, rfl⟩
                  rw [hpc] at hPo hpe
                  have hpb : (pc == 0) = false := by simpa using hpe
                  have HPo := Lib.hid hPo
                  clear hPo hpc
                  go_wp2_with (go_at_call 17; refine HPo.out.mono ?_; rintro e w3 ⟨rfl, hx3⟩)
                  go_meet
                  obtain ⟨F3, hs3⟩ := HS1.out.call hx3
                  exact ⟨[], F3, all, al, none, 0, rfl, fun k hk => by simp at hk, Gone.nil _, by simp, by omega, by rw [dropL_nil]; exact hs3⟩
              · skip
                by_cases hk4 : kd = 4
                · have kb1 : (kd == 1) = false := by simp; omega
                  have kb2 : (kd == 2) = false := by simp; omega
                  have kb3 : (kd == 3) = false := by simp; omega
                  have kb4 : (kd == 4) = true := by simp; omega
                  clear hk4
                  have hTk := Take_any W1 rb F all al k th ith HS1.out.ra (by omega)
                  obtain ⟨tv, htv⟩ : ∃ tv, takeV al th = tv := ⟨_, rfl⟩
                  rw [htv] at hTk
                  have HTk := Lib.hid hTk
                  clear hTk htv
                  go_wp2_with (go_at_call 18; refine HTk.out.mono ?_; rintro e w3 ⟨rfl, hra3, hf3⟩)
                  go_meet
                  have hs3 := HS1.out.call2 hra3 hf3
                  exact ⟨[], F, all, _, none, 0, rfl, fun k hk => by simp at hk, Gone.nil _, by simp, by omega, by rw [dropL_nil]; exact { hs3 with ra := hs3.ra.mono (by omega) }⟩
                · skip
                  by_cases hk5 : kd = 5
                  · have kb1 : (kd == 1) = false := by simp; omega
                    have kb2 : (kd == 2) = false := by simp; omega
                    have kb3 : (kd == 3) = false := by simp; omega
                    have kb4 : (kd == 4) = false := by simp; omega
                    have kb5 : (kd == 5) = true := by simp; omega
                    clear hk5
                    have HWk := Lib.hid (Close_any W1 rb F all al k sg isg HS1.out.ra (by omega) HS1.out.flt)
                    have hll := segA_len all sg
                    have hal := HS1.out.ra.len
                    go_wp2_with (go_at_call 19; refine HWk.out.mono ?_; rintro e w3 ⟨v3, rfl, hr3, hra3, hf3⟩; obtain ⟨sp3, cap3, rfl⟩ := row_form hr3)
                    go_meet
                    have hs3 := HS1.out.call2 hra3 hf3
                    exact ⟨segA all sg, F, all, al, sp3, cap3, rfl, row_ints hr3, ⟨segA_nd HS1.out.ra.nd _, fun t ht => segA_sub ht⟩, by omega, by omega, { hs3 with ra := hs3.ra.mono (by omega) }⟩
                  · skip
                    by_cases hk6 : kd = 6
                    · have kb1 : (kd == 1) = false := by simp; omega
                      have kb2 : (kd == 2) = false := by simp; omega
                      have kb3 : (kd == 3) = false := by simp; omega
                      have kb4 : (kd == 4) = false := by simp; omega
                      have kb5 : (kd == 5) = false := by simp; omega
                      have kb6 : (kd == 6) = true := by simp; omega
                      clear hk6
                      have hFg := Forget_any W1 rb F all al k th ith HS1.out.ra (by omega)
                      by_cases hwt : waitsA all th = true
                      · rw [hwt] at hFg
                        have HFg := Lib.hid hFg
                        clear hFg
                        go_wp2_with (go_at_call 20; refine HFg.out.mono ?_; rintro e w3 ⟨rfl, hra3, hf3⟩; refine Hid.out ?_)
                        refine Lib.hid ?_
                        have hO3 : w3.heap[wr.heap.size]? = _ := (hf3.same _ (heap_lt HO1.out) hFo).trans HO1.out
                        have e1 : w3.cell? ⟨wr.heap.size, 1, none⟩ = some (.int .i64 th) := by rw [cell_of_row _ _ _ _ _ _ hO3]; rfl
                        have hs3 := HS1.out.call2 hra3 hf3
                        have HS3 := Lib.hid hs3
                        have hn3 : IntsAt (w3.alloc (.cells #[.int .i64 th] 3)) (some ⟨w3.heap.size, 0, none⟩) [th] := fun j hj => by
                          have hh := heap_new w3 (.cells #[.int .i64 th] 3)
                          match j, hj with
                          | 0, _ => exact ⟨_, 0, rfl, by simp, by rw [cell_of_row _ _ _ _ _ _ hh]; rfl⟩
                          | j + 1, hj => simp at hj
                        have HN3 := Lib.hid hn3
                        clear hra3 hf3 hO3 hs3 HFg hn3
                        go_wp2_with fail
                        go_meet
                        have hs4 := HS3.out.below ((Below.refl _ _).alloc (Nat.le_refl _) (.cells #[.int .i64 th] 3))
                        exact ⟨[th], F, all, _, _, 1, rfl, HN3.out, Gone.one hwt, by simp, by omega, by rw [dropL_one]; exact { hs4 with ra := hs4.ra.mono (by omega) }⟩
                      · have hwf : waitsA all th = false := by simpa using hwt
                        rw [hwf] at hFg
                        have HFg := Lib.hid hFg
                        clear hFg
                        go_wp2_with (go_at_call 20; refine HFg.out.mono ?_; rintro e w3 ⟨rfl, hra3, hf3⟩)
                        go_meet
                        have hs3 := HS1.out.call2 hra3 hf3
                        rw [dropT_no (fun y hy e => by rw [← e] at hwt; exact hwt (waitsA_iff.2 (List.mem_map_of_mem hy)))] at hs3
                        exact ⟨[], F, all, _, none, 0, rfl, fun k hk => by simp at hk, Gone.nil _, by simp, by omega, by rw [dropL_nil]; exact { hs3 with ra := hs3.ra.mono (by omega) }⟩
                    · skip
                      have kb1 : (kd == 1) = false := by simp; omega
                      have kb2 : (kd == 2) = false := by simp; omega
                      have kb3 : (kd == 3) = false := by simp; omega
                      have kb4 : (kd == 4) = false := by simp; omega
                      have kb5 : (kd == 5) = false := by simp; omega
                      have kb6 : (kd == 6) = false := by simp; omega
                      go_wp2_with fail
                      go_meet
                      exact ⟨[], F, all, al, none, 0, rfl, fun k hk => by simp at hk, Gone.nil _, by simp, by omega, by rw [dropL_nil]; exact { HS1.out with ra := HS1.out.ra.mono (by omega) }⟩
        case rest =>
          obtain ⟨g, F1, a0, al1, gp1, gc, rfl, hgi, hgone, hgl, ha0, hs⟩ := hcut
          obtain ⟨sp1, cap1, rfl⟩ := row_form hs.row
          have HGI := Lib.hid hgi
          have HGO := Lib.hid hgone
          have HS := Lib.hid hs
          clear hgi hgone hs HS1 HO1 d0 d1 d2 d3 d4 hFo
          go_wp2_with fail
          go_loopw [4, 105] (fun v y wr => ∃ j : Nat, y = .int .i64 j ∧ j ≤ g.length ∧ St w wr rb F1 (dropL g a0) al1 (k + 1) v (thsA (dropL (g.take j) a0)) ∧ Below wc.heap.size wc wr) (fun _ y _ => (g.length - (RowKit.intOf y).toNat))
          case atStart => exact ⟨0, rfl, Nat.zero_le _, by rw [List.take_zero, dropL_nil]; exact HS.out, Below.refl _ _⟩
          case round =>
            clear HS
            obtain ⟨j, rfl, hj, hs2, hbc⟩ := hrel
            obtain ⟨sp2, cap2, rfl⟩ := row_form hs2.row
            have hln2 := hs2.ra.len
            by_cases hjl : j < g.length
            · have hji : (j : Int) < (g.length : Int) := by omega
              obtain ⟨gg, og, rfl, cg⟩ := HGI.out.at_ hbc hjl
              have HIB := HGO.out.in_ hjl
              have HST := Gone.step (all := a0) hjl
              have hdl : (dropL (g.take j) a0).length ≤ 300 := Nat.le_trans (List.length_filter_le _ _) ha0
              obtain ⟨t, htt⟩ : ∃ t, g[j] = t := ⟨_, rfl⟩
              simp only [htt] at cg HIB HST
              obtain ⟨L2, hL2⟩ : ∃ L2, thsA (dropL (g.take j) a0) = L2 := ⟨_, rfl⟩
              rw [hL2] at hs2 HIB HST ⊢
              have hL2n : L2.length ≤ 300 := by rw [← hL2, thsA_len]; exact hdl
              have hIn := In_any _ sp2 cap2 L2 t (row_ints hs2.row) (by omega)
              rw [HIB] at hIn
              have HIn := Lib.hid hIn
              have HI5 := Lib.hid (row_ints hs2.row)
              have HS5 := Lib.hid hs2
              have hz5 := hs2.bel.size
              have HST2 := Lib.hid HST
              have HBC := Lib.hid hbc
              clear hs2 hIn HIB HST hL2 htt hbc hdl
              obtain ⟨W6, hW6⟩ : ∃ W6, wr.alloc (.cells #[] 3) = W6 := ⟨_, rfl⟩
              have hrow6 : W6.ownsRow wr.heap.size 3 1 (.slice (some ⟨wr.heap.size, 0, none⟩) 0 0) 0 [] := by rw [← hW6]; exact World.ownsRow_lit (base := wr.heap.size) (e := 3) (size := 1) wr #[] 0 (Nat.le_refl _) (by decide) rfl
              have hb6 : Below wr.heap.size wr W6 := by rw [← hW6]; exact (Below.refl _ _).alloc (Nat.le_refl _) _
              go_wp2_with (go_at_call 15; refine HIn.out.mono ?_; rintro e w9 ⟨rfl, hw9⟩; rw [hw9]; clear hw9 w9)
              obtain ⟨W5, hW5⟩ : ∃ W5, wr = W5 := ⟨_, rfl⟩
              rw [hW5] at hrow6 hb6 hz5 HI5 HS5 HBC ⊢
              clear hW5
              go_loopw [12, 116] (fun v y wr => ∃ (i : Nat), y = .int .i64 i ∧ i ≤ L2.length ∧ wr.ownsRow W5.heap.size 3 1 v ((L2.take i).filter fun y => !(y == t)).length (ivs ((L2.take i).filter fun y => !(y == t))) ∧ Below W5.heap.size W5 wr) (fun _ y _ => (L2.length - (RowKit.intOf y).toNat))
              case atStart => exact ⟨0, rfl, Nat.zero_le _, hrow6, hb6⟩
              case round =>
                clear hrow6 hb6 hW6 HIn
                obtain ⟨i, rfl, hi2, hrw, hbw⟩ := hrel
                obtain ⟨sp7, cap7, rfl⟩ := row_form hrw
                have hbz := hbw.size
                have hfl := List.length_filter_le (fun y : Int => !(y == t)) (L2.take i)
                rw [List.length_take] at hfl
                by_cases hil : i < L2.length
                · have hii : (i : Int) < (L2.length : Int) := by omega
                  obtain ⟨g2, o2, rfl, c20⟩ := HI5.out.at_ hbw hil
                  have HTS : Hid ((L2.take (i + 1)).filter (fun y => !(y == t)) = (L2.take i).filter (fun y => !(y == t)) ++ if L2[i] = t then [] else [L2[i]]) := by
                    show List.filter _ _ = _
                    rw [List.take_succ_eq_append_getElem hil, List.filter_append, List.filter_cons, List.filter_nil]
                    by_cases h : L2[i] = t
                    · simp [h]
                    · have h' : (L2[i] == t) = false := by simpa using h
                      simp [h, h']
                  obtain ⟨y2, hy2⟩ : ∃ y2, L2[i] = y2 := ⟨_, rfl⟩
                  simp only [hy2] at c20 HTS
                  clear hy2
                  obtain ⟨FL, hFL⟩ : ∃ FL, (L2.take i).filter (fun y => !(y == t)) = FL := ⟨_, rfl⟩
                  rw [hFL] at hrw HTS hfl ⊢
                  clear hFL
                  by_cases he2 : y2 = t
                  · have heb : (y2 != t) = false := by simp [he2]
                    rw [if_pos he2, List.append_nil] at HTS
                    have HRW := Lib.hid hrw
                    have HBW := Lib.hid hbw
                    clear hrw hbw
                    go_wp2_with fail
                    go_roundw
                    case rel => exact ⟨i + 1, by go_num, by omega, by rw [HTS.out]; exact HRW.out, HBW.out⟩
                    case measure => simp [RowKit.intOf]; omega
                  · have heb : (y2 != t) = true := by simp [he2]
                    rw [if_neg he2] at HTS
                    have HRA := Lib.hid (hrw.alloc (.cells #[.int .i64 y2] 3))
                    have HNw : Hid (∀ j u, ([.int .i64 y2] : List Value)[j]? = some u → (wr.alloc (.cells #[.int .i64 y2] 3)).cell? ((⟨wr.heap.size, 0, none⟩ : Addr).add j) = some u) := cell_one_new _ _ _
                    have HOn : Hid (∀ u ∈ ([.int .i64 y2] : List Value), u.oneCell' = true) := fun u hu => by simp at hu; rcases hu with rfl; rfl
                    have HRW := Lib.hid hrw
                    have HBW := Lib.hid hbw
                    clear hrw hbw
                    go_wp2_with (at_builtin; refine wpList_append_own_at _ rfl _ _ 37 rfl W5.heap.size 3 i0 (.int .i64 0) 1 8 (by kernel_rfl) hi hz0 hz1 hz2 rfl (by decide) _ _ _ rfl HRA.out ⟨wr.heap.size, 0, none⟩ 1 1 [.int .i64 y2] rfl rfl HNw.out HOn.out (by show _ ≤ 2 ^ 63 - 1; omega) (by omega) (by simp; omega) ?_; intro v' w7 hown7 hgrow7 hnil7 hat7; clear hnil7 hat7; have HO7 := Lib.hid hown7; have HG7 := Lib.hid hgrow7; clear hown7 hgrow7)
                    go_roundw
                    case rel =>
                      refine ⟨i + 1, by go_num, by omega, ?_, ?_⟩
                      · rw [HTS.out, List.length_append, show ivs (FL ++ [y2]) = ivs FL ++ [.int .i64 y2] from by unfold ivs; rw [List.map_append]; rfl]
                        exact HO7.out
                      · exact Below.grown (HBW.out.alloc (by omega) _) HG7.out (by simp; omega) (fun k hk => (HRW.out.lt k hk).1)
                    case measure => simp [RowKit.intOf]; omega
                · obtain rfl : i = L2.length := by omega
                  have hii : ¬ (L2.length : Int) < (L2.length : Int) := by omega
                  rw [List.take_length] at hrw
                  rw [List.take_length]
                  obtain ⟨FL, hFL⟩ : ∃ FL, L2.filter (fun y => !(y == t)) = FL := ⟨_, rfl⟩
                  rw [hFL] at hrw HST2 ⊢
                  clear hFL
                  have HRW := Lib.hid hrw
                  have HBW := Lib.hid hbw
                  clear hrw hbw
                  go_wp2_with fail
                  go_roundw
                  case rel =>
                    refine ⟨j + 1, by go_num, by omega, ?_, HBC.out.trans (HBW.out.mono HBC.out.size)⟩
                    rw [HST2.out]
                    exact (HS5.out.below HBW.out).swap (row_mono HRW.out hz5) (fun b hb hF => by have h1 := (HRW.out.lt b hb).1; have h2 := HS5.out.flt b hF; omega)
                  case measure => simp [RowKit.intOf]; omega
            · obtain rfl : j = g.length := by omega
              have hjj : ¬ (g.length : Int) < (g.length : Int) := by omega
              rw [List.take_length] at hs2
              obtain ⟨a1, ha1⟩ : ∃ a1, dropL g a0 = a1 := ⟨_, rfl⟩
              rw [List.take_length]
              rw [ha1] at hs2 hln2 ⊢
              have htl := thsA_len a1
              have hlb : ((a1.length : Int) != ((thsA a1).length : Int)) = false := by rw [htl]; simp
              have HLen := Lib.hid (Len_any _ _ _ _ _ _ hs2.ra)
              have HS2 := Lib.hid hs2
              have hI2 := row_ints hs2.row
              have HI2 := Lib.hid hI2
              have HTL := Lib.hid htl
              have hT2 : (thsA a1).length ≤ 300 := by omega
              clear hs2 hbc HGI HGO ha1 hI2 htl
              go_wp2_with (go_at_call 21; refine HLen.out.mono ?_; rintro e w9 ⟨rfl, hw9⟩; rw [hw9]; clear hw9 w9)
              obtain ⟨W5, hW5⟩ : ∃ W5, wr = W5 := ⟨_, rfl⟩
              rw [hW5] at HS2 HI2
              rw [hW5]
              clear hW5 HLen
              go_loopw [137] (fun y wr => ∃ i : Nat, y = .int .i64 i ∧ i ≤ (thsA a1).length ∧ Below W5.heap.size W5 wr) (fun y _ => ((thsA a1).length - (RowKit.intOf y).toNat))
              case atStart => exact ⟨0, rfl, Nat.zero_le _, Below.refl _ _⟩
              case round =>
                obtain ⟨i, rfl, hi2, hbw⟩ := hrel
                by_cases hil : i < (thsA a1).length
                · have hii : (i : Int) < ((thsA a1).length : Int) := by omega
                  obtain ⟨g2, o2, rfl, c20⟩ := HI2.out.at_ hbw hil
                  have hs3 := HS2.out.below hbw
                  obtain ⟨x, hw1, hw2, hw3, hw4⟩ := where_in hs3.ra.nd (List.getElem_mem hil)
                  have hxi := hs3.ra.i64s x hw2
                  obtain ⟨t, htt⟩ : ∃ t, (thsA a1)[i] = t := ⟨_, rfl⟩
                  rw [htt] at c20 hw1 hw3 hw4
                  have hWh := Where_any wr rb F1 a1 al1 (k + 1) t (by rw [← hw3]; exact hxi.1) hs3.ra
                  rw [hw1] at hWh
                  have HWh := Lib.hid (show Calls _ _ _ _ fun e w' => e = .returned (.tuple #[.int .i64 x.2.1, .int .i64 x.2.2, .bool true]) ∧ _ from hWh)
                  have HS3 := Lib.hid hs3
                  have HBW := Lib.hid hbw
                  obtain ⟨xs, hxs⟩ : ∃ xs, x.2.1 = xs := ⟨_, rfl⟩
                  obtain ⟨xo, hxo⟩ : ∃ xo, x.2.2 = xo := ⟨_, rfl⟩
                  rw [hxs, hxo] at HWh hw4 hxi
                  have HW4 := Lib.hid hw4
                  clear hs3 hw1 hw2 hw3 hWh hbw htt hxs hxo hw4
                  go_wp2_with (go_at_call 22; refine HWh.out.mono ?_; rintro e w5 ⟨rfl, hb5⟩; refine Hid.out ?_)
                  refine Lib.hid ?_
                  have hs5 := HS3.out.below hb5
                  have HLi := Lib.hid (List_any w5 rb F1 a1 al1 (k + 1) xs xo hxi.2.1 hxi.2.2 hs5.ra (by omega))
                  have hll := listA_len a1 xs xo
                  have HB5 := Lib.hid hb5
                  clear hs5 hb5 HWh
                  go_wp2_with (go_at_call 23; refine HLi.out.mono ?_; rintro e w6 ⟨v6, rfl, hr6, hb6⟩; obtain ⟨sp6, cap6, rfl⟩ := row_form hr6; have hIn := In_any w6 sp6 cap6 (listA a1 xs xo) t (row_ints hr6) (by omega); rw [HW4.out] at hIn; have HIn := Lib.hid hIn; have HB6 := Lib.hid hb6; clear hIn hr6 hb6; refine Hid.out ?_)
                  refine Lib.hid ?_
                  go_wp2_with (go_at_call 15; refine HIn.out.mono ?_; rintro e w9 ⟨rfl, hw9⟩; rw [hw9]; clear hw9 w9)
                  go_roundw
                  case rel => exact ⟨i + 1, by go_num, by omega, (HBW.out.trans (HB5.out.mono HBW.out.size)).trans (HB6.out.mono (Nat.le_trans HBW.out.size HB5.out.size))⟩
                  case measure => simp [RowKit.intOf]; omega
                · obtain rfl : i = (thsA a1).length := by omega
                  have hii : ¬ ((thsA a1).length : Int) < ((thsA a1).length : Int) := by omega
                  have HBW := Lib.hid hbw
                  clear hbw
                  go_wp2_with fail
                  go_roundw
                  case rel => exact ⟨k + 1, F1, a1, al1, by go_num, by omega, by omega, HS2.out.below HBW.out⟩
                  case measure => simp [RowKit.intOf]; omega
      · have hkx : (200 : Int) ≤ (k : Int) := by omega
        have HBel := Lib.hid hst.bel
        clear hst hp
        go_wp2_with fail
        go_ret
        exact ⟨rfl, HBel.out.alloc HBel.out.size _⟩
    · obtain rfl : k = ops.length := by omega
      have hkk : ¬ (ops.length : Int) < (ops.length : Int) := by omega
      have HBel := Lib.hid hst.bel
      clear hst hp
      go_wp2_with fail
      go_ret
      exact ⟨rfl, HBel.out⟩
end Go.Proofs.Ythknnmllibdggaa
