/- HoldNone answers true. -/
import Derived.Test.YtjhcnbdddjcmcabNone1
import Derived.Test.YtjhcnbdddjcmcabLives
namespace Go.Proofs.Ytjhcnbdddjcmcab
open Go.RowKit Go.Sort
set_option maxRecDepth 100000 in
set_option maxHeartbeats 4000000 in
theorem HoldNone_any (i x n d : Int) (p : Option Addr) (cap : Nat) (xs : List (Int × Int)) (w : World) (hm : xs.length ≤ maxLen) (hc : CatsAt w p xs) :
    Calls Try.prog 3 #[.int .i64 i, .int .i64 x, .int .i64 n, .agg #[.int .i64 d, .slice p xs.length cap]] w fun e w' => e = .returned (.bool true) ∧ Below w.heap.size w w' := by
  have hW1 : Below w.heap.size w (w.alloc (.cells #[.int .i64 d, .slice p xs.length cap] 24)) := by go_grown
  have HL := Lib.hid (lives_any (w.alloc (.cells #[.int .i64 d, .slice p xs.length cap] 24)))
  have k0 : (w.alloc (.cells #[.int .i64 d, .slice p xs.length cap] 24)).cell? ⟨w.heap.size, 0, none⟩ = some (.int .i64 d) := by simp [go_sem]
  have k1 : (w.alloc (.cells #[.int .i64 d, .slice p xs.length cap] 24)).cell? ⟨w.heap.size, 1, none⟩ = some (.slice p xs.length cap) := by simp [go_sem]
  go_enter Try.func3, Try.ntmps3
  go_wp2_with (first
    | (go_at_call 4; refine HL.out.mono ?_; rintro e w1 ⟨rfl, hb1⟩; refine Hid.out ?_))
  refine Lib.hid ?_
  have z1 : w.heap.size < w1.heap.size := by have := hb1.size; simp at this; omega
  have l0 := (hb1.cell (p := ⟨w.heap.size, 0, none⟩) (by simp)).trans k0
  have l1 := (hb1.cell (p := ⟨w.heap.size, 1, none⟩) (by simp)).trans k1
  have B1 : Below w.heap.size w w1 := hW1.trans (hb1.mono (by simp))
  have hc1 := hc.below B1
  clear hW1 HL k0 k1 hb1
  have HD := Lib.hid (fun W => Drop_nil i x W)
  have HLs := Lib.hid (fun W => List_nil i W)
  have HIn := Lib.hid (fun W => Info_nil x W)
  go_wp2_with (first
    | (go_at_call 5; refine (HD.out _).mono ?_; rintro e w2 ⟨rfl, hw2⟩; rw [hw2]; clear hw2 w2)
    | (go_at_call 6; refine (HLs.out _).mono ?_; rintro e w2 ⟨rfl, hw2⟩; rw [hw2]; clear hw2 w2)
    | (go_at_call 7; refine (HIn.out _).mono ?_; rintro e w2 ⟨rfl, hb2⟩; refine Hid.out ?_))
  refine Lib.hid ?_
  have zw : w.heap.size < w2.heap.size := Nat.lt_of_lt_of_le z1 hb2.size
  have a0 := (hb2.cell (p := ⟨w.heap.size, 0, none⟩) z1).trans l0
  have a1 := (hb2.cell (p := ⟨w.heap.size, 1, none⟩) z1).trans l1
  have B2 : Below w.heap.size w w2 := B1.trans (hb2.mono (by omega))
  have hV : Below w2.heap.size w2 (w2.alloc (.cells #[.int .i64 0, .int .i64 0, .int .i64 0, .int .i64 0, .int .i64 0, .int .i64 0, .slice none 0 0] 33)) := by go_grown
  have HC := Lib.hid hc
  have HMk := Lib.hid (fun W => Make_nil i x 2 n d (.slice p xs.length cap) W)
  have HRl := Lib.hid (fun W => Relabel_nil x d (.slice p xs.length cap) W)
  have HLk := Lib.hid (fun W => Link_nil i x W)
  have HSh := Lib.hid (fun W => Shift_nil i x n W)
  have HHa := Lib.hid (fun W => Has_nil i x W)
  have HId := Lib.hid (fun W => Ids_nil W)
  have HLn := Lib.hid (fun W => Len_nil W)
  have HCo := Lib.hid (fun W => Copy_nil W)
  clear l0 l1 hc hc1 hb2 HD HLs HIn
  by_cases h1 : 1 ≤ x
  · have zV : w2.heap.size < (w2.alloc (.cells #[.int .i64 0, .int .i64 0, .int .i64 0, .int .i64 0, .int .i64 0, .int .i64 0, .slice none 0 0] 33)).heap.size := by simp
    have V0 : (w2.alloc (.cells #[.int .i64 0, .int .i64 0, .int .i64 0, .int .i64 0, .int .i64 0, .int .i64 0, .slice none 0 0] 33)).cell? ⟨w.heap.size, 0, none⟩ = some (.int .i64 d) := (hV.cell (p := ⟨w.heap.size, 0, none⟩) zw).trans a0
    have V1 : (w2.alloc (.cells #[.int .i64 0, .int .i64 0, .int .i64 0, .int .i64 0, .int .i64 0, .int .i64 0, .slice none 0 0] 33)).cell? ⟨w.heap.size, 1, none⟩ = some (.slice p xs.length cap) := (hV.cell (p := ⟨w.heap.size, 1, none⟩) zw).trans a1
    have Vx : (w2.alloc (.cells #[.int .i64 0, .int .i64 0, .int .i64 0, .int .i64 0, .int .i64 0, .int .i64 0, .slice none 0 0] 33)).cell? ⟨w2.heap.size, 0, none⟩ = some (.int .i64 0) := by simp [go_sem]
    have BV := B2.trans (hV.mono B2.size)
    by_cases h2 : x ≤ 2305843009213693951
    · have hct : isCt x = true := by simp [isCt, h1, h2]
      have HFr := Lib.hid (refFree_any d p cap xs (w2.alloc (.cells #[.int .i64 0, .int .i64 0, .int .i64 0, .int .i64 0, .int .i64 0, .int .i64 0, .slice none 0 0] 33)) hm (HC.out.below BV))
      by_cases hfr : freeS d xs = true
      · rw [hfr] at HFr
        go_wp2_with (first
            | (go_at_call 8; refine HFr.out.mono ?_; rintro e wf ⟨rfl, hbf⟩; refine Hid.out ?_))
        refine Lib.hid ?_
        have zwf : w2.heap.size < wf.heap.size := Nat.lt_of_lt_of_le zV hbf.size
        have wf0 := (hbf.cell (p := ⟨w.heap.size, 0, none⟩) (by show w.heap.size < _; omega)).trans V0
        have wf1 := (hbf.cell (p := ⟨w.heap.size, 1, none⟩) (by show w.heap.size < _; omega)).trans V1
        have wfx := (hbf.cell (p := ⟨w2.heap.size, 0, none⟩) zV).trans Vx
        have Bwf : Below w.heap.size w wf := BV.trans (hbf.mono BV.size)
        clear V0 V1 Vx
        go_wp2_with (first
            | (go_at_call 9; refine (HMk.out _).mono ?_; rintro e wm ⟨rfl, hbm⟩; refine Hid.out ?_))
        refine Lib.hid ?_
        have zwm : w2.heap.size < wm.heap.size := Nat.lt_of_lt_of_le zwf hbm.size
        have wm0 := (hbm.cell (p := ⟨w.heap.size, 0, none⟩) (by show w.heap.size < _; omega)).trans wf0
        have wm1 := (hbm.cell (p := ⟨w.heap.size, 1, none⟩) (by show w.heap.size < _; omega)).trans wf1
        have wmx := (hbm.cell (p := ⟨w2.heap.size, 0, none⟩) zwf).trans wfx
        have Bwm : Below w.heap.size w wm := Bwf.trans (hbm.mono Bwf.size)
        clear wf0 wf1 wfx
        go_wp2_with (first
            | (go_at_call 10; refine (HLk.out _).mono ?_; rintro e wz ⟨rfl, hwz⟩; rw [hwz]; clear hwz wz)
            | (go_at_call 11; refine (HSh.out _).mono ?_; rintro e wz ⟨rfl, hwz⟩; rw [hwz]; clear hwz wz)
            | (go_at_call 13; refine (HHa.out _).mono ?_; rintro e wz ⟨rfl, hwz⟩; rw [hwz]; clear hwz wz)
            | (go_at_call 14; refine (HId.out _).mono ?_; rintro e wz ⟨rfl, hwz⟩; rw [hwz]; clear hwz wz)
            | (go_at_call 15; refine (HLn.out _).mono ?_; rintro e wz ⟨rfl, hwz⟩; rw [hwz]; clear hwz wz)
            | (go_at_call 16; refine (HCo.out _).mono ?_; rintro e wz ⟨rfl, hwz⟩; rw [hwz]; clear hwz wz)
            | (go_at_call 12; refine (HRl.out _).mono ?_; rintro e wr ⟨rfl, hbr⟩; refine Hid.out ?_))
        refine Lib.hid ?_
        have zwr : w2.heap.size < wr.heap.size := Nat.lt_of_lt_of_le zwm hbr.size
        have wr0 := (hbr.cell (p := ⟨w.heap.size, 0, none⟩) (by show w.heap.size < _; omega)).trans wm0
        have wr1 := (hbr.cell (p := ⟨w.heap.size, 1, none⟩) (by show w.heap.size < _; omega)).trans wm1
        have wrx := (hbr.cell (p := ⟨w2.heap.size, 0, none⟩) zwm).trans wmx
        have Bwr : Below w.heap.size w wr := Bwm.trans (hbr.mono Bwm.size)
        clear wm0 wm1 wmx
        have HNw := Lib.hid (New_all x d p cap xs wr hm (HC.out.below Bwr))
        go_wp2_with (first
            | (go_at_call 10; refine (HLk.out _).mono ?_; rintro e wz ⟨rfl, hwz⟩; rw [hwz]; clear hwz wz)
            | (go_at_call 11; refine (HSh.out _).mono ?_; rintro e wz ⟨rfl, hwz⟩; rw [hwz]; clear hwz wz)
            | (go_at_call 13; refine (HHa.out _).mono ?_; rintro e wz ⟨rfl, hwz⟩; rw [hwz]; clear hwz wz)
            | (go_at_call 14; refine (HId.out _).mono ?_; rintro e wz ⟨rfl, hwz⟩; rw [hwz]; clear hwz wz)
            | (go_at_call 15; refine (HLn.out _).mono ?_; rintro e wz ⟨rfl, hwz⟩; rw [hwz]; clear hwz wz)
            | (go_at_call 16; refine (HCo.out _).mono ?_; rintro e wz ⟨rfl, hwz⟩; rw [hwz]; clear hwz wz)
            | (go_at_call 17; refine HNw.out.mono ?_; rintro e wn ⟨tp, rfl, htp, hbn⟩; refine Hid.out ?_))
        refine Lib.hid ?_
        obtain ⟨a, rfl⟩ : ∃ a, tp = some a := by rw [hct, hfr, Bool.true_and] at htp; exact Option.isSome_iff_exists.1 htp
        clear htp
        go_wp2
        go_ret
        exact ⟨rfl, Bwr.trans (hbn.mono Bwr.size)⟩
      · have hfr : freeS d xs = false := by simpa using hfr
        rw [hfr] at HFr
        go_wp2_with (first
            | (go_at_call 8; refine HFr.out.mono ?_; rintro e wf ⟨rfl, hbf⟩; refine Hid.out ?_))
        refine Lib.hid ?_
        have zwf : w2.heap.size < wf.heap.size := Nat.lt_of_lt_of_le zV hbf.size
        have wf0 := (hbf.cell (p := ⟨w.heap.size, 0, none⟩) (by show w.heap.size < _; omega)).trans V0
        have wf1 := (hbf.cell (p := ⟨w.heap.size, 1, none⟩) (by show w.heap.size < _; omega)).trans V1
        have wfx := (hbf.cell (p := ⟨w2.heap.size, 0, none⟩) zV).trans Vx
        have Bwf : Below w.heap.size w wf := BV.trans (hbf.mono BV.size)
        clear V0 V1 Vx
        go_wp2_with (first
            | (go_at_call 9; refine (HMk.out _).mono ?_; rintro e wm ⟨rfl, hbm⟩; refine Hid.out ?_))
        refine Lib.hid ?_
        have zwm : w2.heap.size < wm.heap.size := Nat.lt_of_lt_of_le zwf hbm.size
        have wm0 := (hbm.cell (p := ⟨w.heap.size, 0, none⟩) (by show w.heap.size < _; omega)).trans wf0
        have wm1 := (hbm.cell (p := ⟨w.heap.size, 1, none⟩) (by show w.heap.size < _; omega)).trans wf1
        have wmx := (hbm.cell (p := ⟨w2.heap.size, 0, none⟩) zwf).trans wfx
        have Bwm : Below w.heap.size w wm := Bwf.trans (hbm.mono Bwf.size)
        clear wf0 wf1 wfx
        go_wp2_with (first
            | (go_at_call 10; refine (HLk.out _).mono ?_; rintro e wz ⟨rfl, hwz⟩; rw [hwz]; clear hwz wz)
            | (go_at_call 11; refine (HSh.out _).mono ?_; rintro e wz ⟨rfl, hwz⟩; rw [hwz]; clear hwz wz)
            | (go_at_call 13; refine (HHa.out _).mono ?_; rintro e wz ⟨rfl, hwz⟩; rw [hwz]; clear hwz wz)
            | (go_at_call 14; refine (HId.out _).mono ?_; rintro e wz ⟨rfl, hwz⟩; rw [hwz]; clear hwz wz)
            | (go_at_call 15; refine (HLn.out _).mono ?_; rintro e wz ⟨rfl, hwz⟩; rw [hwz]; clear hwz wz)
            | (go_at_call 16; refine (HCo.out _).mono ?_; rintro e wz ⟨rfl, hwz⟩; rw [hwz]; clear hwz wz)
            | (go_at_call 12; refine (HRl.out _).mono ?_; rintro e wr ⟨rfl, hbr⟩; refine Hid.out ?_))
        refine Lib.hid ?_
        have zwr : w2.heap.size < wr.heap.size := Nat.lt_of_lt_of_le zwm hbr.size
        have wr0 := (hbr.cell (p := ⟨w.heap.size, 0, none⟩) (by show w.heap.size < _; omega)).trans wm0
        have wr1 := (hbr.cell (p := ⟨w.heap.size, 1, none⟩) (by show w.heap.size < _; omega)).trans wm1
        have wrx := (hbr.cell (p := ⟨w2.heap.size, 0, none⟩) zwm).trans wmx
        have Bwr : Below w.heap.size w wr := Bwm.trans (hbr.mono Bwm.size)
        clear wm0 wm1 wmx
        have HNw := Lib.hid (New_all x d p cap xs wr hm (HC.out.below Bwr))
        go_wp2_with (first
            | (go_at_call 10; refine (HLk.out _).mono ?_; rintro e wz ⟨rfl, hwz⟩; rw [hwz]; clear hwz wz)
            | (go_at_call 11; refine (HSh.out _).mono ?_; rintro e wz ⟨rfl, hwz⟩; rw [hwz]; clear hwz wz)
            | (go_at_call 13; refine (HHa.out _).mono ?_; rintro e wz ⟨rfl, hwz⟩; rw [hwz]; clear hwz wz)
            | (go_at_call 14; refine (HId.out _).mono ?_; rintro e wz ⟨rfl, hwz⟩; rw [hwz]; clear hwz wz)
            | (go_at_call 15; refine (HLn.out _).mono ?_; rintro e wz ⟨rfl, hwz⟩; rw [hwz]; clear hwz wz)
            | (go_at_call 16; refine (HCo.out _).mono ?_; rintro e wz ⟨rfl, hwz⟩; rw [hwz]; clear hwz wz)
            | (go_at_call 17; refine HNw.out.mono ?_; rintro e wn ⟨tp, rfl, htp, hbn⟩; refine Hid.out ?_))
        refine Lib.hid ?_
        obtain rfl : tp = none := by rw [hct, hfr, Bool.true_and] at htp; simpa using htp
        clear htp
        go_wp2
        go_ret
        exact ⟨rfl, Bwr.trans (hbn.mono Bwr.size)⟩
    · have hct : isCt x = false := by simp [isCt, h2]
      go_wp2_with (first
          | (go_at_call 9; refine (HMk.out _).mono ?_; rintro e wm ⟨rfl, hbm⟩; refine Hid.out ?_))
      refine Lib.hid ?_
      have zwm : w2.heap.size < wm.heap.size := Nat.lt_of_lt_of_le zV hbm.size
      have wm0 := (hbm.cell (p := ⟨w.heap.size, 0, none⟩) (by show w.heap.size < _; omega)).trans V0
      have wm1 := (hbm.cell (p := ⟨w.heap.size, 1, none⟩) (by show w.heap.size < _; omega)).trans V1
      have wmx := (hbm.cell (p := ⟨w2.heap.size, 0, none⟩) zV).trans Vx
      have Bwm : Below w.heap.size w wm := BV.trans (hbm.mono BV.size)
      clear V0 V1 Vx
      go_wp2_with (first
          | (go_at_call 10; refine (HLk.out _).mono ?_; rintro e wz ⟨rfl, hwz⟩; rw [hwz]; clear hwz wz)
          | (go_at_call 11; refine (HSh.out _).mono ?_; rintro e wz ⟨rfl, hwz⟩; rw [hwz]; clear hwz wz)
          | (go_at_call 13; refine (HHa.out _).mono ?_; rintro e wz ⟨rfl, hwz⟩; rw [hwz]; clear hwz wz)
          | (go_at_call 14; refine (HId.out _).mono ?_; rintro e wz ⟨rfl, hwz⟩; rw [hwz]; clear hwz wz)
          | (go_at_call 15; refine (HLn.out _).mono ?_; rintro e wz ⟨rfl, hwz⟩; rw [hwz]; clear hwz wz)
          | (go_at_call 16; refine (HCo.out _).mono ?_; rintro e wz ⟨rfl, hwz⟩; rw [hwz]; clear hwz wz)
          | (go_at_call 12; refine (HRl.out _).mono ?_; rintro e wr ⟨rfl, hbr⟩; refine Hid.out ?_))
      refine Lib.hid ?_
      have zwr : w2.heap.size < wr.heap.size := Nat.lt_of_lt_of_le zwm hbr.size
      have wr0 := (hbr.cell (p := ⟨w.heap.size, 0, none⟩) (by show w.heap.size < _; omega)).trans wm0
      have wr1 := (hbr.cell (p := ⟨w.heap.size, 1, none⟩) (by show w.heap.size < _; omega)).trans wm1
      have wrx := (hbr.cell (p := ⟨w2.heap.size, 0, none⟩) zwm).trans wmx
      have Bwr : Below w.heap.size w wr := Bwm.trans (hbr.mono Bwm.size)
      clear wm0 wm1 wmx
      have HNw := Lib.hid (New_all x d p cap xs wr hm (HC.out.below Bwr))
      go_wp2_with (first
          | (go_at_call 10; refine (HLk.out _).mono ?_; rintro e wz ⟨rfl, hwz⟩; rw [hwz]; clear hwz wz)
          | (go_at_call 11; refine (HSh.out _).mono ?_; rintro e wz ⟨rfl, hwz⟩; rw [hwz]; clear hwz wz)
          | (go_at_call 13; refine (HHa.out _).mono ?_; rintro e wz ⟨rfl, hwz⟩; rw [hwz]; clear hwz wz)
          | (go_at_call 14; refine (HId.out _).mono ?_; rintro e wz ⟨rfl, hwz⟩; rw [hwz]; clear hwz wz)
          | (go_at_call 15; refine (HLn.out _).mono ?_; rintro e wz ⟨rfl, hwz⟩; rw [hwz]; clear hwz wz)
          | (go_at_call 16; refine (HCo.out _).mono ?_; rintro e wz ⟨rfl, hwz⟩; rw [hwz]; clear hwz wz)
          | (go_at_call 17; refine HNw.out.mono ?_; rintro e wn ⟨tp, rfl, htp, hbn⟩; refine Hid.out ?_))
      refine Lib.hid ?_
      obtain rfl : tp = none := by rw [hct, Bool.false_and] at htp; simpa using htp
      clear htp
      go_wp2
      go_ret
      exact ⟨rfl, Bwr.trans (hbn.mono Bwr.size)⟩
  · have hct : isCt x = false := by simp [isCt, h1]
    have zV : w2.heap.size < (w2.alloc (.cells #[.int .i64 0, .int .i64 0, .int .i64 0, .int .i64 0, .int .i64 0, .int .i64 0, .slice none 0 0] 33)).heap.size := by simp
    have V0 : (w2.alloc (.cells #[.int .i64 0, .int .i64 0, .int .i64 0, .int .i64 0, .int .i64 0, .int .i64 0, .slice none 0 0] 33)).cell? ⟨w.heap.size, 0, none⟩ = some (.int .i64 d) := (hV.cell (p := ⟨w.heap.size, 0, none⟩) zw).trans a0
    have V1 : (w2.alloc (.cells #[.int .i64 0, .int .i64 0, .int .i64 0, .int .i64 0, .int .i64 0, .int .i64 0, .slice none 0 0] 33)).cell? ⟨w.heap.size, 1, none⟩ = some (.slice p xs.length cap) := (hV.cell (p := ⟨w.heap.size, 1, none⟩) zw).trans a1
    have Vx : (w2.alloc (.cells #[.int .i64 0, .int .i64 0, .int .i64 0, .int .i64 0, .int .i64 0, .int .i64 0, .slice none 0 0] 33)).cell? ⟨w2.heap.size, 0, none⟩ = some (.int .i64 0) := by simp [go_sem]
    have BV := B2.trans (hV.mono B2.size)
    go_wp2_with (first
        | (go_at_call 9; refine (HMk.out _).mono ?_; rintro e wm ⟨rfl, hbm⟩; refine Hid.out ?_))
    refine Lib.hid ?_
    have zwm : w2.heap.size < wm.heap.size := Nat.lt_of_lt_of_le zV hbm.size
    have wm0 := (hbm.cell (p := ⟨w.heap.size, 0, none⟩) (by show w.heap.size < _; omega)).trans V0
    have wm1 := (hbm.cell (p := ⟨w.heap.size, 1, none⟩) (by show w.heap.size < _; omega)).trans V1
    have wmx := (hbm.cell (p := ⟨w2.heap.size, 0, none⟩) zV).trans Vx
    have Bwm : Below w.heap.size w wm := BV.trans (hbm.mono BV.size)
    clear V0 V1 Vx
    go_wp2_with (first
        | (go_at_call 10; refine (HLk.out _).mono ?_; rintro e wz ⟨rfl, hwz⟩; rw [hwz]; clear hwz wz)
        | (go_at_call 11; refine (HSh.out _).mono ?_; rintro e wz ⟨rfl, hwz⟩; rw [hwz]; clear hwz wz)
        | (go_at_call 13; refine (HHa.out _).mono ?_; rintro e wz ⟨rfl, hwz⟩; rw [hwz]; clear hwz wz)
        | (go_at_call 14; refine (HId.out _).mono ?_; rintro e wz ⟨rfl, hwz⟩; rw [hwz]; clear hwz wz)
        | (go_at_call 15; refine (HLn.out _).mono ?_; rintro e wz ⟨rfl, hwz⟩; rw [hwz]; clear hwz wz)
        | (go_at_call 16; refine (HCo.out _).mono ?_; rintro e wz ⟨rfl, hwz⟩; rw [hwz]; clear hwz wz)
        | (go_at_call 12; refine (HRl.out _).mono ?_; rintro e wr ⟨rfl, hbr⟩; refine Hid.out ?_))
    refine Lib.hid ?_
    have zwr : w2.heap.size < wr.heap.size := Nat.lt_of_lt_of_le zwm hbr.size
    have wr0 := (hbr.cell (p := ⟨w.heap.size, 0, none⟩) (by show w.heap.size < _; omega)).trans wm0
    have wr1 := (hbr.cell (p := ⟨w.heap.size, 1, none⟩) (by show w.heap.size < _; omega)).trans wm1
    have wrx := (hbr.cell (p := ⟨w2.heap.size, 0, none⟩) zwm).trans wmx
    have Bwr : Below w.heap.size w wr := Bwm.trans (hbr.mono Bwm.size)
    clear wm0 wm1 wmx
    have HNw := Lib.hid (New_all x d p cap xs wr hm (HC.out.below Bwr))
    go_wp2_with (first
        | (go_at_call 10; refine (HLk.out _).mono ?_; rintro e wz ⟨rfl, hwz⟩; rw [hwz]; clear hwz wz)
        | (go_at_call 11; refine (HSh.out _).mono ?_; rintro e wz ⟨rfl, hwz⟩; rw [hwz]; clear hwz wz)
        | (go_at_call 13; refine (HHa.out _).mono ?_; rintro e wz ⟨rfl, hwz⟩; rw [hwz]; clear hwz wz)
        | (go_at_call 14; refine (HId.out _).mono ?_; rintro e wz ⟨rfl, hwz⟩; rw [hwz]; clear hwz wz)
        | (go_at_call 15; refine (HLn.out _).mono ?_; rintro e wz ⟨rfl, hwz⟩; rw [hwz]; clear hwz wz)
        | (go_at_call 16; refine (HCo.out _).mono ?_; rintro e wz ⟨rfl, hwz⟩; rw [hwz]; clear hwz wz)
        | (go_at_call 17; refine HNw.out.mono ?_; rintro e wn ⟨tp, rfl, htp, hbn⟩; refine Hid.out ?_))
    refine Lib.hid ?_
    obtain rfl : tp = none := by rw [hct, Bool.false_and] at htp; simpa using htp
    clear htp
    go_wp2
    go_ret
    exact ⟨rfl, Bwr.trans (hbn.mono Bwr.size)⟩
end Go.Proofs.Ytjhcnbdddjcmcab
