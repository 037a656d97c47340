/- Digits read, as package sha reads them. -/
import Derived.Test.YtpledmomljjfeaaDoorUnM
import Derived.Test.YtpledmomljjfeaaDoorHex2
import Derived.Test.YtpledmomljjfeaaDoorSameL
namespace Go.Proofs.YtpledmomljjfeaaDoor
open Go.RowKit Go.Sort
theorem IB_any (b : UInt8) (w : World) : Calls Tryd.prog 32 #[.string ⟨#[48, 49, 50, 51, 52, 53, 54, 55, 56, 57, 97, 98, 99, 100, 101, 102]⟩, .int .u8 (b.toNat : Int)] w fun e w' => e = .returned (.int .i64 (valI b)) ∧ w' = w := by
  have h := Tryd.strings_IndexByte ⟨#[48, 49, 50, 51, 52, 53, 54, 55, 56, 57, 97, 98, 99, 100, 101, 102]⟩ (b.toNat : Int) w
  have e : ((b.toNat : Int).toNat.toUInt8) = b := by simp
  rw [e, show (⟨#[48, 49, 50, 51, 52, 53, 54, 55, 56, 57, 97, 98, 99, 100, 101, 102]⟩ : ByteArray).data.toList = digL from rfl, index_val] at h
  exact h
def unS (l : List UInt8) : ByteArray := match unhexN l with
  | some r => ⟨r.toArray⟩
  | none => ⟨#[]⟩
def unE (l : List UInt8) : Int := match unhexN l with
  | some _ => 0
  | none => 2
theorem un_none {l : List UInt8} (h : unhexN l = none) : unS l = ⟨#[]⟩ ∧ unE l = 2 := by unfold unS unE; rw [h]; exact ⟨rfl, rfl⟩
theorem un_some {l r : List UInt8} (h : unhexN l = some r) : unS l = ⟨r.toArray⟩ ∧ unE l = 0 := by unfold unS unE; rw [h]; exact ⟨rfl, rfl⟩
theorem drop_two {l : List UInt8} {i : Nat} (h : i + 1 < l.length) : l.drop i = l[i] :: l[i + 1] :: l.drop (i + 2) := by
  rw [List.drop_eq_getElem_cons (by omega), List.drop_eq_getElem_cons h]
theorem un_two {a b : UInt8} {l O : List UInt8} {L : List UInt8} (h : unhexN L = (unhexN (a :: b :: l)).map (O ++ ·)) {x y : Nat} (ha : valN a = some x) (hb : valN b = some y) : unhexN L = (unhexN l).map ((O ++ [UInt8.ofNat (16 * x + y)]) ++ ·) := by
  rw [h, unhexN, ha, hb]
  cases unhexN l with
  | none => rfl
  | some r => simp
theorem un_bad {a b : UInt8} {l O : List UInt8} {L : List UInt8} (h : unhexN L = (unhexN (a :: b :: l)).map (O ++ ·)) (hv : valN a = none ∨ valN b = none) : unhexN L = none := by
  rw [h, unhexN]
  rcases hv with hv | hv
  · rw [hv]; rfl
  · rw [hv]; cases valN a <;> rfl
set_option maxRecDepth 100000 in
set_option maxHeartbeats 2000000 in
theorem Unhex_any (s : ByteArray) (w : World) (hs : s.size ≤ 33554432) : Calls Tryd.prog 17 #[.string s] w fun e w' => e = .returned (.tuple #[.string (unS s.data.toList), .int .i64 (unE s.data.toList)]) ∧ Below w.heap.size w w' := by
  have hds : s.data.toList.length = s.size := by simp
  by_cases hodd : s.size % 2 = 1
  · have hU := un_none (unhex_even s.data.toList (by omega))
    rw [hU.1, hU.2]
    have h1 : (s.size : Int) % 2 = 1 := by omega
    clear hU
    go_enter Tryd.func17, Tryd.ntmps17
    go_wp2
    go_ret2
    exact ⟨rfl, Below.refl _ _⟩
  · have h1 : (s.size : Int) % 2 = 0 := by omega
    obtain ⟨i0, hi, hz0, hz1, hz2⟩ := info_parts' byteInfo
    have hml : s.size / 2 ≤ maxLen := by unfold maxLen; omega
    have hm2 : i0.bytes * (s.size / 2) ≤ 281474976710656 := by rw [hz2]; omega
    go_enter Tryd.func17, Tryd.ntmps17
    go_wp2_with (at_make; refine wpList_make_own _ rfl _ _ 43 rfl w.heap.size 5 i0 (.int .u8 0) 1 Tryd.underlying43 hi hz0 hz1 .i64 .i64 _ (s.size / 2) rfl rfl (by omega) hm2 hml (Nat.le_refl _) ?_; intro w0 hown0 hgrow0)
    have hb0 : Below w.heap.size w w0 := Below.grown (Below.refl _ _) hgrow0 (Nat.le_refl _) (fun j hj => by cases hj)
    clear hgrow0 hml hm2
    go_loopw [4, 5] (fun r v wr => ∃ (i : Nat) (O : List UInt8), v = .int .i64 i ∧ i ≤ s.size ∧ 2 * O.length = i ∧ wr.ownsRow w.heap.size 5 1 r O.length (B O) ∧ unhexN s.data.toList = (unhexN (s.data.toList.drop i)).map (O ++ ·) ∧ Below w.heap.size w wr) (fun _ v _ => (s.size - intOf v).toNat)
    case atStart => exact ⟨0, [], rfl, by omega, rfl, hown0, by rw [List.drop_zero]; cases unhexN s.data.toList <;> rfl, hb0⟩
    case round =>
      obtain ⟨i, O, rfl, hil, hO, hown, hun, hbr⟩ := hrel
      clear hown0 hb0
      by_cases hlt : i < s.size
      · have hi0 : (i : Int) < (s.size : Int) := by omega
        have hi1 : (i : Int) + 1 < (s.size : Int) := by omega
        have hi2 : ((i : Int) + 1).toNat = i + 1 := by omega
        have hil1 : i + 1 < s.size := by omega
        have hdt := drop_two (l := s.data.toList) (i := i) (by omega)
        obtain ⟨a, ha⟩ : ∃ a, s[i] = a := ⟨_, rfl⟩
        obtain ⟨b, hb⟩ : ∃ b, s[i + 1] = b := ⟨_, rfl⟩
        rw [show s.data.toList[i]'(by omega) = a from ha, show s.data.toList[i + 1]'(by omega) = b from hb] at hdt
        rw [hdt] at hun
        have HIA := Lib.hid (fun W => IB_any a W)
        have HIB := Lib.hid (fun W => IB_any b W)
        obtain ⟨va, hva⟩ : ∃ va, valI a = va := ⟨_, rfl⟩
        obtain ⟨vb, hvb⟩ : ∃ vb, valI b = vb := ⟨_, rfl⟩
        rw [hva] at HIA
        rw [hvb] at HIB
        have HUN := Lib.hid hun
        have HOwn := Lib.hid hown
        have HB := Lib.hid hbr
        have HO := Lib.hid hO
        have HVA := Lib.hid hva
        have HVB := Lib.hid hvb
        have HDS := Lib.hid hds
        clear hun hown hbr hdt hva hvb hds
        obtain ⟨sp, cap, hr⟩ := row_form HOwn.out
        subst hr
        go_upto_region 7 with fail
        go_quiet (first
          | (go_at_call 32; with_reducible exact Calls.quiet_of_same (HIA.out _))
          | (go_at_call 32; with_reducible exact Calls.quiet_of_same (HIB.out _)))
        obtain ⟨W1, hW1⟩ : ∃ W1, wr.drewN nq = W1 := ⟨_, rfl⟩
        have HOw1 : Hid (W1.ownsRow w.heap.size 5 1 (.slice sp O.length cap) O.length (B O)) := Lib.hid (by rw [← hW1]; exact HOwn.out)
        have HB1 : Hid (Below w.heap.size w W1) := Lib.hid (by rw [← hW1]; exact bdn HB.out _)
        rw [hW1]
        clear hW1 HOwn HB HIA HIB ha hb
        cases hA : valN a with
        | none =>
          have hv : va = -1 := by rw [← HVA.out]; unfold valI; rw [hA]
          subst hv
          have HU := Lib.hid (un_none (un_bad HUN.out (.inl hA)))
          clear hA
          go_wp2
          go_ret2
          exact ⟨by rw [HU.out.1, HU.out.2]; rfl, HB1.out⟩
        | some x =>
          have hv : va = (x : Int) := by rw [← HVA.out]; unfold valI; rw [hA]
          subst hv
          have hx := val_lt hA
          have hx0 : ¬ (x : Int) < 0 := by omega
          cases hB : valN b with
          | none =>
            have hv : vb = -1 := by rw [← HVB.out]; unfold valI; rw [hB]
            subst hv
            have HU := Lib.hid (un_none (un_bad HUN.out (.inr hB)))
            clear hA hB
            go_wp2
            go_ret2
            exact ⟨by rw [HU.out.1, HU.out.2]; rfl, HB1.out⟩
          | some y =>
            have hv : vb = (y : Int) := by rw [← HVB.out]; unfold valI; rw [hB]
            subst hv
            have hy := val_lt hB
            have hy0 : ¬ (y : Int) < 0 := by omega
            have HU := Lib.hid (un_two HUN.out hA hB)
            have e0 : IntKind.i64.wrap ((x : Int) * 16) = ((16 * x : Nat) : Int) := by rw [IntKind.wrap_i64]; omega
            have e1 : (x : Int) * 16 = ((16 * x : Nat) : Int) := by omega
            have e2 : bits .or .i64 ((x : Int) * 16) (y : Int) = ((16 * x + y : Nat) : Int) := by
              rw [e1, i64_or_nat _ _ (by omega) (by omega), nat_join 4 _ _ (by omega) (by omega)]
            have hz : 16 * x + y < 256 := by omega
            obtain ⟨z, hze⟩ : ∃ z, 16 * x + y = z := ⟨_, rfl⟩
            rw [hze] at e2 hz HU
            have e3 : IntKind.u8.wrap (z : Int) = ((UInt8.ofNat z).toNat : Int) := byteW z
            obtain ⟨c, hc⟩ : ∃ c, UInt8.ofNat z = c := ⟨_, rfl⟩
            rw [hc] at e3 HU
            have HSz := Lib.hid hs
            have HIL := Lib.hid hil1
            clear hA hB hze hc e0 e1 HUN hs hil1
            have HOA := Lib.hid (HOw1.out.alloc (.cells #[.int .u8 (c.toNat : Int)] 5))
            have HN : Hid (∀ j u, [Value.int .u8 (c.toNat : Int)][j]? = some u → (W1.alloc (.cells #[.int .u8 (c.toNat : Int)] 5)).cell? ((⟨W1.heap.size, 0, none⟩ : Addr).add j) = some u) := fun j u hu => by
              match j, hu with
              | 0, hu => simp at hu; subst hu; simp [Addr.add, go_sem]
            have hzA : w.heap.size ≤ (W1.alloc (.cells #[.int .u8 (c.toNat : Int)] 5)).heap.size := by have := HB1.out.size; simp; omega
            have hbX : Below w.heap.size w (W1.alloc (.cells #[.int .u8 (c.toNat : Int)] 5)) := HB1.out.alloc HB1.out.size _
            have hOl : O.length ≤ 33554432 := by have := HO.out; have := HIL.out; have := HSz.out; omega
            go_wp2_with (at_builtin; refine wpList_append_own _ rfl _ _ 43 rfl w.heap.size 5 i0 (.int .u8 0) 1 1 Tryd.underlying43 hi hz0 hz1 hz2 rfl (by decide) _ _ _ rfl HOA.out ⟨W1.heap.size, 0, none⟩ 1 1 [.int .u8 (c.toNat : Int)] rfl rfl HN.out (fun u hu => by simp at hu; subst hu; rfl) (by unfold maxLen; omega) (by omega) hzA ?_; intro v' w5 hown' hgrow5 hnil5; have HO5 := Lib.hid hown'; have HG := Lib.hid hgrow5; clear hown' hgrow5 hnil5)
            refine ⟨⟨i + 2, O ++ [c], by go_num, by have := HIL.out; omega, by rw [List.length_append]; have := HO.out; simp; omega, ?_, HU.out, Below.grown hbX HG.out hzA (fun j hj => (HOA.out.lt j hj).1)⟩, by simp only [intOf]; have := HIL.out; omega⟩
            rw [List.length_append, show B (O ++ [c]) = B O ++ [.int .u8 (c.toNat : Int)] from by unfold B; rw [List.map_append]; rfl]
            exact HO5.out
      · obtain rfl : i = s.size := by omega
        have hki : ¬ (s.size : Int) < (s.size : Int) := by omega
        rw [List.drop_of_length_le (by omega)] at hun
        have hun2 : unhexN s.data.toList = some O := by rw [hun]; simp [unhexN]
        have hcv := own_str hown
        have HU := Lib.hid (un_some hun2)
        obtain ⟨sp, cap, rfl⟩ := row_form hown
        clear hown hun hun2
        go_wp2
        go_ret2
        exact ⟨by rw [HU.out.1, HU.out.2]; rfl, hbr⟩
end Go.Proofs.YtpledmomljjfeaaDoor
