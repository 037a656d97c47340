/- Digits read, as the reference reads them. -/
import Derived.Test.YtpledmomljjfeaaDoorRHex
namespace Go.Proofs.YtpledmomljjfeaaDoor
open Go.RowKit Go.Sort
theorem val_dec {c : UInt8} (h1 : 48 ≤ c.toNat) (h2 : c.toNat ≤ 57) : valN c = some (c.toNat - 48) := by unfold valN; rw [if_pos ⟨h1, h2⟩]
theorem val_hex {c : UInt8} (h1 : 97 ≤ c.toNat) (h2 : c.toNat ≤ 102) : valN c = some (c.toNat - 87) := by unfold valN; rw [if_neg (by omega), if_pos ⟨h1, h2⟩]
theorem val_no {c : UInt8} (h : c.toNat < 48 ∨ (57 < c.toNat ∧ c.toNat < 97) ∨ 102 < c.toNat) : valN c = none := by unfold valN; rw [if_neg (by omega), if_neg (by omega)]
theorem run_map_second {L O l : List UInt8} {c : UInt8} {x y : Nat} (h : unhexN L = (runN (some y) (c :: l)).map (O ++ ·)) (hc : valN c = some x) : unhexN L = (runN none l).map ((O ++ [UInt8.ofNat (16 * y + x)]) ++ ·) := by
  rw [h, run_second hc]
  cases runN none l with
  | none => rfl
  | some r => simp
theorem run_map_bad {L O l : List UInt8} {c : UInt8} {p : Option Nat} (h : unhexN L = (runN p (c :: l)).map (O ++ ·)) (hc : valN c = none) : unhexN L = none := by rw [h, run_bad hc]; rfl
set_option maxRecDepth 100000 in
set_option maxHeartbeats 4000000 in
theorem refUnhex_any (s : ByteArray) (w : World) (hs : s.size ≤ 33554432) : Calls Tryd.prog 18 #[.string s] w fun e w' => e = .returned (.tuple #[.string (unS s.data.toList), .int .i64 (unE s.data.toList)]) ∧ Below w.heap.size w w' := by
  have hds : s.data.toList.length = s.size := by simp
  obtain ⟨i0, hi, hz0, hz1, hz2⟩ := info_parts' byteInfo
  have hO0 : (w.alloc (.cells #[] 5)).ownsRow w.heap.size 5 1 (.slice (some ⟨w.heap.size, 0, none⟩) 0 0) ([] : List UInt8).length (B []) := World.ownsRow_lit (base := w.heap.size) (e := 5) (size := 1) w #[] 0 (Nat.le_refl _) (by unfold maxLen; omega) rfl
  have hB0 : Below w.heap.size w (w.alloc (.cells #[] 5)) := (Below.refl _ _).alloc (Nat.le_refl _) _
  go_enter Tryd.func18, Tryd.ntmps18
  go_wp2_with fail
  go_loopw [4, 5, 6] (fun r nv v wr => ∃ (i y : Nat) (O : List UInt8) (p : Option Nat), v = .int .i64 i ∧ nv = .int .i64 y ∧ i ≤ s.size ∧ y < 16 ∧ ((p = none ∧ y = 0 ∧ i % 2 = 0) ∨ (p = some y ∧ i % 2 = 1)) ∧ 2 * O.length ≤ i ∧ wr.ownsRow w.heap.size 5 1 r O.length (B O) ∧ unhexN s.data.toList = (runN p (s.data.toList.drop i)).map (O ++ ·) ∧ Below w.heap.size w wr) (fun _ _ v _ => (s.size - intOf v).toNat)
  case atStart => exact ⟨0, 0, [], none, rfl, rfl, by omega, by decide, .inl ⟨rfl, rfl, rfl⟩, Nat.le_refl _, hO0, by rw [List.drop_zero, run_unhex]; cases unhexN s.data.toList <;> rfl, hB0⟩
  case round =>
    obtain ⟨i, y, O, p, rfl, rfl, hil, hy, hp, hO, hown, hun, hbr⟩ := hrel
    clear hO0 hB0
    by_cases hlt : i < s.size
    · have hki : (i : Int) < (s.size : Int) := by omega
      have hib : (i : Int) + 1 ≤ 33554432 := by omega
      have hyi : (y : Int) < 16 := by omega
      obtain ⟨c, hc⟩ : ∃ c, s[i] = c := ⟨_, rfl⟩
      have hdt : s.data.toList.drop i = c :: s.data.toList.drop (i + 1) := by
        rw [List.drop_eq_getElem_cons (by omega), show s.data.toList[i]'(by omega) = c from hc]
      rw [hdt] at hun
      have hcl := c.toNat_lt
      have HC : Hid (s[i] = c) := Lib.hid hc
      have HUN := Lib.hid hun
      have HB := Lib.hid hbr
      have HO := Lib.hid hO
      have HS := Lib.hid hs
      have HLT := Lib.hid hlt
      clear hun hbr hdt hs hds hO
      by_cases q1 : c.toNat < 48
      · have k1 : (c.toNat : Int) < 48 := by omega
        have k1' : ¬ (48 : Int) ≤ (c.toNat : Int) := by omega
        have k2 : ¬ (97 : Int) ≤ (c.toNat : Int) := by omega
        have HU := Lib.hid (un_none (run_map_bad HUN.out (val_no (.inl q1))))
        obtain ⟨sp, cap, hr⟩ := row_form hown
        subst hr
        clear hown
        go_wp2
        go_ret2
        exact ⟨by rw [HU.out.1, HU.out.2]; rfl, HB.out⟩
      by_cases q2 : c.toNat ≤ 57
      · have k1 : (48 : Int) ≤ (c.toNat : Int) := by omega
        have k2 : (c.toNat : Int) ≤ 57 := by omega
        have hv := val_dec (c := c) (by omega) (by omega)
        obtain ⟨x, hx⟩ : ∃ x, c.toNat - 48 = x := ⟨_, rfl⟩
        rw [hx] at hv
        have hx16 := val_lt hv
        have hcx : (c.toNat : Int) - 48 = (x : Int) := by omega
        have hsum : 16 * (y : Int) + (x : Int) = ((16 * y + x : Nat) : Int) := by omega
        have hz : 16 * y + x < 256 := by omega
        have hxi : (x : Int) < 16 := by omega
        rcases hp with ⟨rfl, rfl, hpar⟩ | ⟨rfl, hpar⟩
        · have hpi : (i : Int) % 2 = 0 := by omega
          have hx0 : 16 * (0 : Int) + (x : Int) = (x : Int) := by omega
          have HN := Lib.hid (run_first (l := s.data.toList.drop (i + 1)) hv)
          obtain ⟨sp, cap, hr⟩ := row_form hown
          subst hr
          have HOwn := Lib.hid hown
          have HX := Lib.hid hx16
          have HP := Lib.hid hpar
          clear hown hx hv hx16 hpar hsum hz hy
          go_wp2
          refine ⟨⟨i + 1, x, O, some x, by go_num, by first | rfl | simp, by have := HLT.out; omega, HX.out, .inr ⟨rfl, by have := HP.out; omega⟩, by have := HO.out; omega, HOwn.out, by rw [HUN.out, HN.out], HB.out⟩, by simp only [intOf]; have := HLT.out; omega⟩
        · have hpi : (i : Int) % 2 = 1 := by omega
          have HN := Lib.hid (run_map_second HUN.out hv)
          obtain ⟨z, hze⟩ : ∃ z, 16 * y + x = z := ⟨_, rfl⟩
          rw [hze] at hsum hz HN
          have e3 : IntKind.u8.wrap (z : Int) = ((UInt8.ofNat z).toNat : Int) := byteW z
          obtain ⟨d, hd⟩ : ∃ d, UInt8.ofNat z = d := ⟨_, rfl⟩
          rw [hd] at e3 HN
          have HP := Lib.hid hpar
          have HOA := Lib.hid (hown.alloc (.cells #[.int .u8 (d.toNat : Int)] 5))
          have hOl : O.length ≤ 33554432 := by have := HO.out; have := HLT.out; have := HS.out; omega
          obtain ⟨sp, cap, hr⟩ := row_form hown
          subst hr
          have HNw : Hid (∀ j u, [Value.int .u8 (d.toNat : Int)][j]? = some u → (wr.alloc (.cells #[.int .u8 (d.toNat : Int)] 5)).cell? ((⟨wr.heap.size, 0, none⟩ : Addr).add j) = some u) := fun j u hu => by
            match j, hu with
            | 0, hu => simp at hu; subst hu; simp [Addr.add, go_sem]
          have hzA : w.heap.size ≤ (wr.alloc (.cells #[.int .u8 (d.toNat : Int)] 5)).heap.size := by have := HB.out.size; simp; omega
          have hbX : Below w.heap.size w (wr.alloc (.cells #[.int .u8 (d.toNat : Int)] 5)) := HB.out.alloc HB.out.size _
          clear hown hx hv hx16 hpar hze hd hz hy
          go_wp2_with (at_builtin; refine wpList_append_own _ rfl _ _ 43 rfl w.heap.size 5 i0 (.int .u8 0) 1 1 Tryd.underlying43 hi hz0 hz1 hz2 rfl (by decide) _ _ _ rfl HOA.out ⟨wr.heap.size, 0, none⟩ 1 1 [.int .u8 (d.toNat : Int)] rfl rfl HNw.out (fun u hu => by simp at hu; subst hu; rfl) (by unfold maxLen; omega) (by omega) hzA ?_; intro v' w5 hown' hgrow5 hnil5; have HO5 := Lib.hid hown'; have HG := Lib.hid hgrow5; clear hown' hgrow5 hnil5)
          refine ⟨⟨i + 1, 0, O ++ [d], none, by go_num, rfl, by have := HLT.out; omega, by decide, .inl ⟨rfl, rfl, by have := HP.out; omega⟩, by rw [List.length_append]; have := HO.out; have := HP.out; simp; omega, ?_, HN.out, Below.grown hbX HG.out hzA (fun j hj => (HOA.out.lt j hj).1)⟩, by simp only [intOf]; have := HLT.out; omega⟩
          rw [List.length_append, show B (O ++ [d]) = B O ++ [.int .u8 (d.toNat : Int)] from by unfold B; rw [List.map_append]; rfl]
          exact HO5.out
      have k1 : (48 : Int) ≤ (c.toNat : Int) := by omega
      have k2 : ¬ (c.toNat : Int) ≤ 57 := by omega
      by_cases q3 : c.toNat < 97
      · have k3 : ¬ (97 : Int) ≤ (c.toNat : Int) := by omega
        have HU := Lib.hid (un_none (run_map_bad HUN.out (val_no (.inr (.inl ⟨by omega, q3⟩)))))
        obtain ⟨sp, cap, hr⟩ := row_form hown
        subst hr
        clear hown
        go_wp2
        go_ret2
        exact ⟨by rw [HU.out.1, HU.out.2]; rfl, HB.out⟩
      have k3 : (97 : Int) ≤ (c.toNat : Int) := by omega
      by_cases q4 : c.toNat ≤ 102
      · have k4 : (c.toNat : Int) ≤ 102 := by omega
        have hv := val_hex (c := c) (by omega) (by omega)
        obtain ⟨x, hx⟩ : ∃ x, c.toNat - 87 = x := ⟨_, rfl⟩
        rw [hx] at hv
        have hx16 := val_lt hv
        have hcx : (c.toNat : Int) - 87 = (x : Int) := by omega
        have hsum : 16 * (y : Int) + (x : Int) = ((16 * y + x : Nat) : Int) := by omega
        have hz : 16 * y + x < 256 := by omega
        have hxi : (x : Int) < 16 := by omega
        rcases hp with ⟨rfl, rfl, hpar⟩ | ⟨rfl, hpar⟩
        · have hpi : (i : Int) % 2 = 0 := by omega
          have hx0 : 16 * (0 : Int) + (x : Int) = (x : Int) := by omega
          have HN := Lib.hid (run_first (l := s.data.toList.drop (i + 1)) hv)
          obtain ⟨sp, cap, hr⟩ := row_form hown
          subst hr
          have HOwn := Lib.hid hown
          have HX := Lib.hid hx16
          have HP := Lib.hid hpar
          clear hown hx hv hx16 hpar hsum hz hy
          go_wp2
          refine ⟨⟨i + 1, x, O, some x, by go_num, by first | rfl | simp, by have := HLT.out; omega, HX.out, .inr ⟨rfl, by have := HP.out; omega⟩, by have := HO.out; omega, HOwn.out, by rw [HUN.out, HN.out], HB.out⟩, by simp only [intOf]; have := HLT.out; omega⟩
        · have hpi : (i : Int) % 2 = 1 := by omega
          have HN := Lib.hid (run_map_second HUN.out hv)
          obtain ⟨z, hze⟩ : ∃ z, 16 * y + x = z := ⟨_, rfl⟩
          rw [hze] at hsum hz HN
          have e3 : IntKind.u8.wrap (z : Int) = ((UInt8.ofNat z).toNat : Int) := byteW z
          obtain ⟨d, hd⟩ : ∃ d, UInt8.ofNat z = d := ⟨_, rfl⟩
          rw [hd] at e3 HN
          have HP := Lib.hid hpar
          have HOA := Lib.hid (hown.alloc (.cells #[.int .u8 (d.toNat : Int)] 5))
          have hOl : O.length ≤ 33554432 := by have := HO.out; have := HLT.out; have := HS.out; omega
          obtain ⟨sp, cap, hr⟩ := row_form hown
          subst hr
          have HNw : Hid (∀ j u, [Value.int .u8 (d.toNat : Int)][j]? = some u → (wr.alloc (.cells #[.int .u8 (d.toNat : Int)] 5)).cell? ((⟨wr.heap.size, 0, none⟩ : Addr).add j) = some u) := fun j u hu => by
            match j, hu with
            | 0, hu => simp at hu; subst hu; simp [Addr.add, go_sem]
          have hzA : w.heap.size ≤ (wr.alloc (.cells #[.int .u8 (d.toNat : Int)] 5)).heap.size := by have := HB.out.size; simp; omega
          have hbX : Below w.heap.size w (wr.alloc (.cells #[.int .u8 (d.toNat : Int)] 5)) := HB.out.alloc HB.out.size _
          clear hown hx hv hx16 hpar hze hd hz hy
          go_wp2_with (at_builtin; refine wpList_append_own _ rfl _ _ 43 rfl w.heap.size 5 i0 (.int .u8 0) 1 1 Tryd.underlying43 hi hz0 hz1 hz2 rfl (by decide) _ _ _ rfl HOA.out ⟨wr.heap.size, 0, none⟩ 1 1 [.int .u8 (d.toNat : Int)] rfl rfl HNw.out (fun u hu => by simp at hu; subst hu; rfl) (by unfold maxLen; omega) (by omega) hzA ?_; intro v' w5 hown' hgrow5 hnil5; have HO5 := Lib.hid hown'; have HG := Lib.hid hgrow5; clear hown' hgrow5 hnil5)
          refine ⟨⟨i + 1, 0, O ++ [d], none, by go_num, rfl, by have := HLT.out; omega, by decide, .inl ⟨rfl, rfl, by have := HP.out; omega⟩, by rw [List.length_append]; have := HO.out; have := HP.out; simp; omega, ?_, HN.out, Below.grown hbX HG.out hzA (fun j hj => (HOA.out.lt j hj).1)⟩, by simp only [intOf]; have := HLT.out; omega⟩
          rw [List.length_append, show B (O ++ [d]) = B O ++ [.int .u8 (d.toNat : Int)] from by unfold B; rw [List.map_append]; rfl]
          exact HO5.out
      have k4 : ¬ (c.toNat : Int) ≤ 102 := by omega
      have HU := Lib.hid (un_none (run_map_bad HUN.out (val_no (.inr (.inr (by omega))))))
      obtain ⟨sp, cap, hr⟩ := row_form hown
      subst hr
      clear hown
      go_wp2
      go_ret2
      exact ⟨by rw [HU.out.1, HU.out.2]; rfl, HB.out⟩
    · obtain rfl : i = s.size := by omega
      have hki : ¬ (s.size : Int) < (s.size : Int) := by omega
      rw [List.drop_of_length_le (by omega)] at hun
      rcases hp with ⟨rfl, rfl, hpar⟩ | ⟨rfl, hpar⟩
      · have hpi : (s.size : Int) % 2 = 0 := by omega
        have hun2 : unhexN s.data.toList = some O := by rw [hun]; simp [runN]
        have hcv := own_str hown
        have HU := Lib.hid (un_some hun2)
        obtain ⟨sp, cap, rfl⟩ := row_form hown
        clear hown hun hun2 hpar
        go_wp2
        go_ret2
        exact ⟨by rw [HU.out.1, HU.out.2]; rfl, hbr⟩
      · have hpi : (s.size : Int) % 2 = 1 := by omega
        have hun2 : unhexN s.data.toList = none := by rw [hun]; rfl
        have HU := Lib.hid (un_none hun2)
        obtain ⟨sp, cap, rfl⟩ := row_form hown
        clear hown hun hun2 hpar
        go_wp2
        go_ret2
        exact ⟨by rw [HU.out.1, HU.out.2]; rfl, hbr⟩
end Go.Proofs.YtpledmomljjfeaaDoor
