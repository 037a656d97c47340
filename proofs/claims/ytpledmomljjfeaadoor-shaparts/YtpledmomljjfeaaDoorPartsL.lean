/- ShaParts: the law's walk. -/
import Derived.Test.YtpledmomljjfeaaDoorNoneL
import Derived.Deep.CutBlock
import Derived.Deep.DeepCutAuto
namespace Go.Proofs.YtpledmomljjfeaaDoor
open Go.RowKit Go.Sort
/-- Texts that lie in memory. -/
def TsAt (w : World) (p : Option Addr) (l : List ByteArray) : Prop :=
  ∀ j, (h : j < l.length) → ∃ b off, p = some ⟨b, off, none⟩ ∧ b < w.heap.size ∧ w.cell? ⟨b, off + j, none⟩ = some (.string l[j])
def BsAt (w : World) (p : Option Addr) (l : List Bool) : Prop :=
  ∀ j, (h : j < l.length) → ∃ b off, p = some ⟨b, off, none⟩ ∧ b < w.heap.size ∧ w.cell? ⟨b, off + j, none⟩ = some (.bool l[j])
theorem app_data (a b : ByteArray) : (a ++ b).data.toList = a.data.toList ++ b.data.toList := by simp
theorem app_size (a b : ByteArray) : (a ++ b).size = a.size + b.size := by simp
theorem data_size (a : ByteArray) : a.data.toList.length = a.size := by simp
theorem TsAt.below {w w' : World} {p : Option Addr} {l : List ByteArray} (h : TsAt w p l) (hb : Below w.heap.size w w') : TsAt w' p l := fun j hj => by
  obtain ⟨b, off, rfl, hbl, hm⟩ := h j hj
  exact ⟨b, off, rfl, Nat.lt_of_lt_of_le hbl hb.size, (hb.cell (p := ⟨b, off + j, none⟩) hbl).trans hm⟩
theorem BsAt.below {w w' : World} {p : Option Addr} {l : List Bool} (h : BsAt w p l) (hb : Below w.heap.size w w') : BsAt w' p l := fun j hj => by
  obtain ⟨b, off, rfl, hbl, hm⟩ := h j hj
  exact ⟨b, off, rfl, Nat.lt_of_lt_of_le hbl hb.size, (hb.cell (p := ⟨b, off + j, none⟩) hbl).trans hm⟩
set_option maxRecDepth 100000 in
set_option maxHeartbeats 4000000 in
theorem ShaParts_any (p : Option Addr) (cp : Nat) (xs : List ByteArray) (q : Option Addr) (cq : Nat) (ks : List Bool) (o : ByteArray) (w : World) (hE : Env w) (hx : TsAt w p xs) (ha : BsAt w q ks) (hm : ∀ x ∈ xs, x.size ≤ 9223372036854770000) (ho : o.size ≤ 9223372036854775807) (hxl : xs.length ≤ 9223372036854770000) :
    Calls Tryd.prog 4 #[.slice p xs.length cp, .slice q ks.length cq, .string o] w fun e w' => e = .returned (.bool true) ∧ Below w.heap.size w w' := by
  have HLv := Lib.hid (lives_any w hE)
  have HX := Lib.hid (fun W (h : Below w.heap.size w W) => hx.below h)
  have HQ := Lib.hid (fun W (h : Below w.heap.size w W) => ha.below h)
  have HE := Lib.hid hE
  clear hx ha hE
  go_enter Tryd.func4, Tryd.ntmps4
  go_wp2_with (go_at_call 9; refine HLv.out.mono ?_; rintro e w1 ⟨rfl, hb1⟩; refine Hid.out ?_)
  refine Lib.hid ?_
  have HN := Lib.hid (New_any w1)
  have HB1 := Lib.hid hb1
  clear HLv hb1
  go_wp2_with (go_at_call 12; refine HN.out.mono ?_; rintro e w2 ⟨rfl, hb2, hA2⟩; refine Hid.out ?_)
  refine Lib.hid ?_
  have HB2 := Lib.hid (HB1.out.trans (hb2.mono HB1.out.size))
  have hw1 : w.heap.size ≤ w1.heap.size := HB1.out.size
  obtain ⟨g, hg⟩ : ∃ g, w1.heap.size = g := ⟨_, rfl⟩
  rw [hg] at hA2 hw1 ⊢
  clear hb2 HN HB1 hg
  go_upto_block 0 with fail
  go_cut [8] (fun u wx => ∃ A : ByteArray, u = .string A ∧ A.size ≤ 4000 ∧ HAt wx g A.data.toList ∧ Oth g w2 wx)
  case first =>
    go_wp2_with fail
    go_loopw [8, 17] (fun u v wr => ∃ (k : Nat) (A : ByteArray), v = .int .i64 k ∧ u = .string A ∧ k ≤ xs.length ∧ A.size ≤ 4000 ∧ HAt wr g A.data.toList ∧ Oth g w2 wr) (fun _ v _ => (xs.length - intOf v).toNat)
    case atStart => exact ⟨0, ⟨#[]⟩, rfl, rfl, by omega, by decide, hA2, Oth.refl _ _⟩
    case round =>
      obtain ⟨k, A, rfl, rfl, hk, hAs, hH, hO⟩ := hrel
      clear hA2
      by_cases hlt : k < xs.length
      · have hki : (k : Int) < (xs.length : Int) := by omega
        have hBw := hO.below HB2.out hw1 (Nat.le_refl _)
        obtain ⟨b, off, hp, hbl, hcx⟩ := HX.out wr hBw k hlt
        have hxm := hm xs[k] (List.getElem_mem hlt)
        obtain ⟨x, hx⟩ : ∃ x, xs[k] = x := ⟨_, rfl⟩
        rw [hx] at hcx hxm
        subst hp
        by_cases h60 : k < 60
        · have hk60 : ¬ (60 : Int) ≤ (k : Int) := by omega
          by_cases h4 : A.size + x.size ≤ 4000
          · have h4i : ¬ (4000 : Int) < (A.size : Int) + (x.size : Int) := by omega
            have hEr : Env wr := (HE.out.below HB2.out).oth hO (Nat.le_trans HE.out.big hw1)
            have HAd := Lib.hid (Add_env g A.data.toList x wr hEr hH (Nat.le_trans HE.out.big hw1) (by rw [data_size]; omega))
            rw [← app_data] at HAd
            have hsz : (A ++ x).size ≤ 4000 := by rw [app_size]; omega
            have hov : ¬ 9223372036854775807 < A.size + x.size := by omega
            have HEr := Lib.hid hEr
            have HO := Lib.hid hO
            have HBw := Lib.hid hBw
            clear hEr hH hO hBw hxm
            obtain ⟨Y, hY⟩ : ∃ Y, A ++ x = Y := ⟨_, rfl⟩
            rw [hY] at HAd hsz
            go_wp2_with (go_at_call 13; refine HAd.out.mono ?_; rintro e w4 ⟨rfl, ho4, hA4⟩; refine Hid.out ?_)
            refine Lib.hid ?_
            have HE4 := Lib.hid (HEr.out.oth ho4 (Nat.le_trans HE.out.big hw1))
            have HO4 := Lib.hid (HO.out.trans ho4)
            have HB4 := Lib.hid (ho4.below HBw.out hw1 (Nat.le_refl _))
            have HA4 := Lib.hid hA4
            have hg4 : g < w4.heap.size := hA4.lt
            have hx4 : Below w4.heap.size w4 w4 := Below.refl _ _
            have HS := Lib.hid (fun W (h : Below w4.heap.size w4 W) => HSum_any g Y.data.toList W (HE4.out.below h) (At.below hA4 h hg4) (by rw [data_size]; omega))
            have HF := Lib.hid (fun W (h : Below w4.heap.size w4 W) => Sum_any Y W (HE4.out.below h) (by omega))
            have HLn := Lib.hid (fun W (h : Below w4.heap.size w4 W) => Len_any g Y.data.toList W (At.below hA4 h hg4))
            rw [data_size] at HLn
            clear hA4 ho4 HAd HEr HO HBw
            by_cases hka : k < ks.length
            · have hkk : (k : Int) < (ks.length : Int) := by omega
              obtain ⟨b2, off2, hq, hbl2, hcy⟩ := HQ.out w4 HB4.out k hka
              obtain ⟨B, hB⟩ : ∃ B, ks[k] = B := ⟨_, rfl⟩
              rw [hB] at hcy
              subst hq
              cases B
              · go_wp2
                exact ⟨⟨k + 1, Y, by go_num, rfl, by omega, hsz, HA4.out, HO4.out⟩, by simp only [intOf]; omega⟩
              · go_wp2_with (first
                  | (go_at_call 14; refine (HS.out _ hx4).mono ?_; rintro e w' ⟨rfl, hb'⟩; replace hx4 := hx4.trans (hb'.mono hx4.size); clear hb')
                  | (go_at_call 10; refine (HF.out _ hx4).mono ?_; rintro e w' ⟨rfl, hb'⟩; replace hx4 := hx4.trans (hb'.mono hx4.size); clear hb')
                  | (go_at_call 15; refine (HLn.out _ hx4).mono ?_; rintro e w' ⟨rfl, hw'⟩; rw [hw']; clear hw'))
                exact ⟨⟨k + 1, Y, by go_num, rfl, by omega, hsz, At.below HA4.out hx4 hg4, HO4.out.trans (Oth.of_below hx4)⟩, by simp only [intOf]; omega⟩
            · have hkk : ¬ (k : Int) < (ks.length : Int) := by omega
              go_wp2
              exact ⟨⟨k + 1, Y, by go_num, rfl, by omega, hsz, HA4.out, HO4.out⟩, by simp only [intOf]; omega⟩
          · have h4i : (4000 : Int) < (A.size : Int) + (x.size : Int) := by omega
            go_wp2
            all_goals (go_meet; exact ⟨A, rfl, hAs, hH, hO⟩)
        · have hk60 : (60 : Int) ≤ (k : Int) := by omega
          go_wp2
          all_goals (go_meet; exact ⟨A, rfl, hAs, hH, hO⟩)
      · obtain rfl : k = xs.length := by omega
        have hki : ¬ (xs.length : Int) < (xs.length : Int) := by omega
        go_wp2
        go_meet
        exact ⟨A, rfl, hAs, hH, hO⟩
  case rest =>
    obtain ⟨A, rfl, hAs, hH, hO⟩ := hcut
    have hmn : ∀ (ts : Array TypeId) (t : TypeId) (W : World), (Builtin.min_ ts t #[.int .i64 (o.size : Int), .int .i64 1000]).run Tryd.prog W = .ok (.int .i64 ((min o.size 1000 : Nat) : Int)) W := fun ts t W => by
      simp [Builtin.min_, Builtin.min2]
      omega
    have hml : min o.size 1000 ≤ 1000 := Nat.min_le_right _ _
    have hmo : min o.size 1000 ≤ o.size := Nat.min_le_left _ _
    obtain ⟨m, hmm⟩ : ∃ m, min o.size 1000 = m := ⟨_, rfl⟩
    rw [hmm] at hmn hml hmo
    have hmi : (m : Int) ≤ (o.size : Int) := by omega
    have hos : (o.extract 0 m).size = m := by simp; omega
    obtain ⟨O, hOo⟩ : ∃ O, o.extract 0 m = O := ⟨_, rfl⟩
    rw [hOo] at hos
    have hBz := hO.below HB2.out hw1 (Nat.le_refl _)
    have HEz := Lib.hid ((HE.out.below HB2.out).oth hO (Nat.le_trans HE.out.big hw1))
    have HC := Lib.hid (Copy_any g A.data.toList wc hH)
    have HH := Lib.hid hH
    have HBz := Lib.hid hBz
    have hgz : g < wc.heap.size := hH.lt
    have HY := Lib.hid (app_data A O)
    have hYs : (A ++ O).size ≤ 5000 := by rw [app_size]; omega
    have hov : ¬ 9223372036854775807 < A.size + O.size := by omega
    obtain ⟨Y, hY⟩ : ∃ Y, A ++ O = Y := ⟨_, rfl⟩
    rw [hY] at HY hYs
    clear hH hO hBz hA2 hmm
    go_wp2_with (go_at_call 16; refine HC.out.mono ?_; rintro e w5 ⟨rfl, hb5, hA5⟩; refine Hid.out ?_)
    refine Lib.hid ?_
    have HAd := Lib.hid (Add_env wc.heap.size A.data.toList O w5 (HEz.out.below hb5) hA5 (Nat.le_trans HE.out.big (Nat.le_trans hw1 (by omega))) (by rw [data_size]; omega))
    rw [← HY.out] at HAd
    have HH5 := Lib.hid (At.below HH.out hb5 hgz)
    have HE5 := Lib.hid (HEz.out.below hb5)
    have HB5 := Lib.hid (HBz.out.trans (hb5.mono HBz.out.size))
    have hz5 : wc.heap.size < w5.heap.size := hA5.lt
    obtain ⟨G, hG⟩ : ∃ G, wc.heap.size = G := ⟨_, rfl⟩
    rw [hG] at hz5 HAd hgz ⊢
    have hGw : w.heap.size ≤ G := by omega
    clear hA5 hb5 HC HH HEz HBz hG
    go_wp2_with (go_at_call 13; refine HAd.out.mono ?_; rintro e w6 ⟨rfl, ho6, hA6⟩; refine Hid.out ?_)
    refine Lib.hid ?_
    have hH6 : HAt w6 g A.data.toList := At.oth HH5.out ho6 (by omega) (by rw [hash_len]; omega)
    have hE6 := HE5.out.oth ho6 (Nat.le_trans HE.out.big hGw)
    have HB6 := Lib.hid (ho6.below HB5.out hGw (Nat.le_refl _))
    have hx6 : Below w6.heap.size w6 w6 := Below.refl _ _
    have hg6 : g < w6.heap.size := hH6.lt
    have hG6 : G < w6.heap.size := hA6.lt
    have HS := Lib.hid (fun W (h : Below w6.heap.size w6 W) => HSum_any g A.data.toList W (hE6.below h) (At.below hH6 h hg6) (by rw [data_size]; omega))
    have HSc := Lib.hid (fun W (h : Below w6.heap.size w6 W) => HSum_any G Y.data.toList W (hE6.below h) (At.below hA6 h hG6) (by rw [data_size]; omega))
    have HF := Lib.hid (fun W (h : Below w6.heap.size w6 W) => Sum_any A W (hE6.below h) (by omega))
    have HFc := Lib.hid (fun W (h : Below w6.heap.size w6 W) => Sum_any Y W (hE6.below h) (by omega))
    have HLn := Lib.hid (fun W (h : Below w6.heap.size w6 W) => Len_any g A.data.toList W (At.below hH6 h hg6))
    rw [data_size] at HLn
    have h32 : (sumN A.data.toList).length = 32 := out_len _
    obtain ⟨sA, hsA⟩ : ∃ sA, sumN A.data.toList = sA := ⟨_, rfl⟩
    obtain ⟨sY, hsY⟩ : ∃ sY, sumN Y.data.toList = sY := ⟨_, rfl⟩
    rw [hsA] at HS HF h32
    rw [hsY] at HSc HFc
    clear hA6 hH6 hE6 ho6 HAd HH5 HE5 HB5 hsA hsY
    go_wp2_with (first
      | (go_at_call_of 14 (Value.pointer (some ⟨g, 0, none⟩)); refine (HS.out _ hx6).mono ?_; rintro e w' ⟨rfl, hb'⟩; replace hx6 := hx6.trans (hb'.mono hx6.size); clear hb')
      | (go_at_call_of 14 (Value.pointer (some ⟨G, 0, none⟩)); refine (HSc.out _ hx6).mono ?_; rintro e w' ⟨rfl, hb'⟩; replace hx6 := hx6.trans (hb'.mono hx6.size); clear hb')
      | (go_at_call_of 10 (Value.string A); refine (HF.out _ hx6).mono ?_; rintro e w' ⟨rfl, hb'⟩; replace hx6 := hx6.trans (hb'.mono hx6.size); clear hb')
      | (go_at_call_of 10 (Value.string Y); refine (HFc.out _ hx6).mono ?_; rintro e w' ⟨rfl, hb'⟩; replace hx6 := hx6.trans (hb'.mono hx6.size); clear hb')
      | (go_at_call 15; refine (HLn.out _ hx6).mono ?_; rintro e w' ⟨rfl, hw'⟩; rw [hw']; clear hw'))
    go_ret
    exact ⟨ret_bool (by simp), HB6.out.trans (hx6.mono HB6.out.size)⟩
end Go.Proofs.YtpledmomljjfeaaDoor
