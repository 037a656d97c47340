/- The reference's sum: the walk. -/
import Derived.Test.YtfcmgodeehjnoaaDoorRSum
import Derived.Test.YtfcmgodeehjnoaaDoorRBlk
namespace Go.Proofs.YtfcmgodeehjnoaaDoor
open Go.RowKit Go.Sort
section
variable {P : Program} {ops : Array Oper}
theorem quiet_load_cell {C : World → Prop} {o : Oper} {a : Act} {K : Act → Prop} (ty : TypeId) (x : Operand) (p : Addr) (v : Value) (ho : o.op = .load ty x) (hx : a.eval x = .pointer (some p))
    (hl : ∀ w, C w → (loadVar ty p).run P w = .ok v w) (h : K (a.put o.dst v)) : o.quiet P a C K := by
  refine ⟨v, fun w hw => ?_, h⟩
  unfold Oper.quietAt execOp
  simp only [ho, hx, Instr.loadAt, Instr.sureAddr, Sem.run_bind, Sem.run_pure, Result.andThen_ok, hl w hw]
  exact ⟨rfl, rfl⟩
end
theorem BR_at {w : World} {B0 g n cap : Nat} {xs : List UInt8} (h : BR w B0 (.slice (some ⟨g, 0, none⟩) n cap) xs) : At w g 0 (B xs) ∧ xs.length ≤ cap ∧ cap ≤ maxLen := by
  obtain ⟨g', cap', hv, h1, h2, h3, h4, h5, h6⟩ := h
  cases hv
  refine ⟨⟨fun j v hj => ?_, fun j hj => ?_⟩, h3, h4⟩
  · unfold B at hj
    rw [List.getElem?_map] at hj
    by_cases hl : j < xs.length
    · rw [List.getElem?_eq_getElem hl] at hj
      cases hj
      rw [Nat.zero_add]; exact h5 j hl
    · rw [List.getElem?_eq_none (by omega)] at hj; cases hj
  · rw [B_len] at hj
    rw [Nat.zero_add]; exact (h6 j (by omega)).2
theorem B_part (l : List UInt8) (t : Nat) : ((B l).drop t).take 64 = B ((l.drop t).take 64) := by unfold B; rw [List.map_take, List.map_drop]
theorem h_start : hN = lst startN := by rw [hN_is]; rfl
theorem arr8 : (Tryd.prog.info? 38).map (·.size) = some 8 := by kernel_rfl
theorem idx8 (S : St8) (k : Nat) (h : k < 8) (w : World) : (Instr.index 38 (.agg (U (lst S)).toArray) (.int .i64 k)).run Tryd.prog w = .ok (.int .u32 (((lst S).getD k 0 : Nat) : Int)) w := by
  obtain ⟨a, b, c, d, e, f, g, x⟩ := S
  rcases (show k = 0 ∨ k = 1 ∨ k = 2 ∨ k = 3 ∨ k = 4 ∨ k = 5 ∨ k = 6 ∨ k = 7 by omega) with rfl | rfl | rfl | rfl | rfl | rfl | rfl | rfl <;> kernel_rfl
/-- The bytes of the first k numbers. -/
def out4 (s : St8) (k : Nat) : List UInt8 := ((lst s).take k).flatMap bytes4
theorem out4_all (s : St8) : out4 s 8 = outN s := by unfold out4 outN lst; simp
theorem out4_succ (s : St8) (k x : Nat) (h : (lst s)[k]? = some x) : out4 s k ++ bytes4 x = out4 s (k + 1) := by
  unfold out4; rw [List.take_add_one, h, List.flatMap_append]; simp
theorem out4_len (s : St8) (k : Nat) (h : k ≤ 8) : (out4 s k).length = 4 * k := by
  unfold out4
  have : ∀ l : List Nat, (l.flatMap bytes4).length = 4 * l.length := by
    intro l
    induction l with
    | nil => rfl
    | cons x l ih => rw [List.flatMap_cons, List.length_append, ih]; simp [bytes4]; omega
  rw [this, List.length_take]
  show 4 * min k 8 = 4 * k
  omega
theorem src_four (w : World) (l : List UInt8) (h : l.length = 4) : Src Tryd.prog 1 35 (.slice (some ⟨w.heap.size, 0, none⟩) 4 4) l.length (bc l) (w.alloc (.cells (bc l).toArray 5)) := by
  have := Src.ofSlice (P := Tryd.prog) (w := w.alloc (.cells (bc l).toArray 5)) (size := 1) Tryd.underlying35 ⟨w.heap.size, 0, none⟩ 4 4 (bc l) (by rw [bc_len, h]) (fun j u hj => by
    rw [addr_add]
    have := World.cell?_alloc_new w (bc l).toArray 5 j
    rw [this, List.getElem?_toArray]; exact hj) (by intro u' hu'; simp only [bc, List.mem_map] at hu'; obtain ⟨b, _, rfl⟩ := hu'; rfl)
  rw [h]; exact this
set_option maxRecDepth 100000 in
set_option maxHeartbeats 4000000 in
theorem refSum_any (s : ByteArray) (w : World) (hs : s.size ≤ 8000) : Calls Tryd.prog 7 #[.string s] w fun e w' => e = .returned (.string ⟨(sumN s.data.toList).toArray⟩) ∧ Below w.heap.size w w' := by
  obtain ⟨i0, hi, hz0, hz1, hz2⟩ := info_parts' byteInfo
  have HCo := Lib.hid (Constants_any w)
  have hkl := kN_len
  have HI := Lib.hid arrInfo
  obtain ⟨K, hK⟩ : ∃ K, kN = K := ⟨_, rfl⟩
  have HK : Hid (kN = K) := hK
  rw [hK] at HCo hkl
  have hUl : (U K).length = 64 := by rw [U_len]; exact hkl
  have hU1 := U_one K
  obtain ⟨CK, hCK⟩ : ∃ CK, U K = CK := ⟨_, rfl⟩
  have HCK : Hid (U K = CK) := hCK
  rw [hCK] at HCo hUl hU1
  clear hK hCK hkl
  go_enter Tryd.func7, Tryd.ntmps7
  go_wp2_with (first
    | (go_at_call 13; refine HCo.out.mono ?_; rintro e w1 ⟨rfl, hb1⟩)
    | (refine wpList_store_new w1 _ _ rfl 33 _ _ rfl CK rfl rfl (by rw [hUl]; rfl) (by rw [hUl]; exact HI.out) hU1 (fun W2 hB2 hA2 hs2 => ?_); refine Hid.out ?_))
  refine Lib.hid ?_
  have HB2 := Lib.hid (hb1.trans (hB2.mono hb1.size))
  have hzK : w1.heap.size < W2.heap.size := by omega
  have hwz : w.heap.size ≤ w1.heap.size := hb1.size
  have HA2 := Lib.hid hA2
  clear hb1 hB2 hA2 hs2 HCo hUl hU1
  have hcv := Lib.run_convert_string_bytes (P := Tryd.prog) W2 9 35 5 s Tryd.underlying9 Tryd.underlying35 Tryd.underlying5
  have hBR := br_bytes W2 5 s (by unfold maxLen; omega)
  have hbw := bytesWorld_below W2 5 s
  obtain ⟨W3, hW3⟩ : ∃ W3, Lib.bytesWorld W2 5 s = W3 := ⟨_, rfl⟩
  obtain ⟨c0, hc0⟩ : ∃ c0, grownCap W2 s.size 0 5 = c0 := ⟨_, rfl⟩
  rw [hW3] at hcv hBR hbw
  rw [hc0] at hcv hBR
  have hz3 : W2.heap.size ≤ W3.heap.size := hbw.size
  have e1 : IntKind.u64.wrap (s.size : Int) = (s.size : Int) := by rw [IntKind.wrap_u64]; omega
  have e2 : IntKind.u64.wrap ((s.size : Int) * 8) = ((s.size * 8 : Nat) : Int) := by rw [IntKind.wrap_u64]; omega
  obtain ⟨N8, hN8⟩ : ∃ N8, s.size * 8 = N8 := ⟨_, rfl⟩
  rw [hN8] at e2
  have HN8 := Lib.hid hN8
  have HSrc : Hid (Src Tryd.prog 1 35 (.slice (some ⟨W3.heap.size, 0, none⟩) 1 1) [(0x80 : UInt8)].length (bc [0x80]) (W3.alloc (.cells #[.int .u8 128] 5))) := src_one W3 0x80
  have hb4 : Below W3.heap.size W3 (W3.alloc (.cells #[.int .u8 128] 5)) := (Below.refl _ _).alloc (Nat.le_refl _) _
  have HBR := Lib.hid (hBR.below hb4)
  have HB4 := Lib.hid (hbw.trans (hb4.mono hz3))
  have hds : s.data.toList.length = s.size := by simp
  have HDS := Lib.hid hds
  have hzl : W2.heap.size ≤ (W3.alloc (.cells #[.int .u8 128] 5)).heap.size := HB4.out.size
  clear hW3 hc0 hBR hbw hb4 hN8 hds
  go_wp2_with (at_builtin; refine wpList_append_br rfl _ _ 35 35 rfl 5 i0 Tryd.underlying35 hi hz0 hz1 hz2 W2.heap.size _ s.data.toList [(0x80 : UInt8)] rfl HBR.out _ rfl HSrc.out (by rw [HDS.out]; show s.size + 1 ≤ _; omega) hzl (fun v4 W4 hR4 hB4 hK4 hs4 => ?_); refine Hid.out ?_)
  refine Lib.hid ?_
  have HW4 := Lib.hid (HB4.out.trans hB4)
  have hz4 : W2.heap.size ≤ W4.heap.size := HW4.out.size
  have hR40 : BR W4 W2.heap.size v4 (zerN s.data.toList 0) := hR4
  clear hR4 hB4 hK4 hs4 hcv e1 e2 HBR HSrc hzl HB4
  go_wp2_with fail
  go_loopw [4] (fun v wr => ∃ j : Nat, j ≤ (119 - s.size % 64) % 64 ∧ BR wr W2.heap.size v (zerN s.data.toList j) ∧ Below W2.heap.size W2 wr) (fun v _ => match v with | .slice _ n _ => 9000 - n | _ => 0)
  case atStart => exact ⟨0, by omega, hR40, HW4.out⟩
  case round =>
    obtain ⟨j, hj, hR, hbr⟩ := hrel
    clear hR40
    have hlen := zerN_len s.data.toList j
    rw [HDS.out] at hlen
    obtain ⟨n, hn⟩ : ∃ n, (zerN s.data.toList j).length = n := ⟨_, rfl⟩
    obtain ⟨g, cap, hv, hgl, hgB⟩ := BR_len hR
    rw [hn] at hv hlen
    subst hv
    by_cases hlt : j < (119 - s.size % 64) % 64
    · have hc : ¬ (n : Int) % 64 = 56 := by omega
      have hcb : ((n : Int) % 64 != 56) = true := by simpa using hc
      have hb5 : Below wr.heap.size wr (wr.alloc (.cells #[.int .u8 0] 5)) := (Below.refl _ _).alloc (Nat.le_refl _) _
      have HR := Lib.hid (hR.below hb5)
      have HSrc : Hid (Src Tryd.prog 1 35 (.slice (some ⟨wr.heap.size, 0, none⟩) 1 1) [(0 : UInt8)].length (bc [0]) (wr.alloc (.cells #[.int .u8 0] 5))) := src_one wr 0
      have hzl : W2.heap.size ≤ (wr.alloc (.cells #[.int .u8 0] 5)).heap.size := Nat.le_trans hbr.size hb5.size
      have HB5 := Lib.hid (hbr.trans (hb5.mono hbr.size))
      have HZ := Lib.hid (zerN_succ s.data.toList j)
      have HN := Lib.hid hn
      have HLen := Lib.hid hlen
      have HLt := Lib.hid hlt
      clear hR hbr hb5 hn hlen hlt hj
      go_wp2_with (at_builtin; refine wpList_append_br rfl _ _ 35 35 rfl 5 i0 Tryd.underlying35 hi hz0 hz1 hz2 W2.heap.size _ (zerN s.data.toList j) [(0 : UInt8)] rfl HR.out _ rfl HSrc.out (by rw [HN.out]; show n + 1 ≤ _; have := HLen.out; have := HLt.out; omega) hzl (fun v5 W5 hR5 hB5 hK5 hs5 => ?_))
      rw [HZ.out] at hR5
      obtain ⟨g5, cap5, hv5, -, -⟩ := BR_len hR5
      have hl5 := zerN_len s.data.toList (j + 1)
      rw [HDS.out] at hl5
      refine ⟨⟨j + 1, by have := HLt.out; omega, hR5, HB5.out.trans hB5⟩, ?_⟩
      subst hv5
      show 9000 - (zerN s.data.toList (j + 1)).length < 9000 - n
      have := HLen.out; have := HLt.out
      omega
    · have hc : (n : Int) % 64 = 56 := by omega
      have hcb : ((n : Int) % 64 != 56) = false := by rw [hc]; rfl
      have hje : j = (119 - s.size % 64) % 64 := by omega
      have HP := Lib.hid (zer_pad s.data.toList)
      rw [HDS.out, HN8.out, ← hje] at HP
      have HBR := Lib.hid hR
      have hzr : W2.heap.size ≤ wr.heap.size := hbr.size
      have HbR := Lib.hid hbr
      obtain ⟨P0, hP0⟩ : ∃ P0, zerN s.data.toList j = P0 := ⟨_, rfl⟩
      rw [hP0] at HBR HP hn
      have hb8l : (bytes8 N8).length = 8 := rfl
      have HHi := Lib.hid (fun j h => high_at N8 j h)
      obtain ⟨b8, hb8⟩ : ∃ b8, bytes8 N8 = b8 := ⟨_, rfl⟩
      rw [hb8] at HP HHi hb8l
      have HN := Lib.hid hn
      have HB8 := Lib.hid hb8l
      have hnl : n ≤ 8100 := by omega
      have HNl := Lib.hid hnl
      clear hb8 hb8l hP0 hc hlen hje hj hlt hn hnl hR hbr
      go_wp2_with fail
      go_loopw [4, 6] (fun v iv wz => ∃ (j : Nat) (i : Int), iv = .int .i64 i ∧ i = 7 - (j : Int) ∧ j ≤ 8 ∧ BR wz W2.heap.size v (P0 ++ b8.take j) ∧ Below W2.heap.size W2 wz) (fun _ iv _ => (intOf iv + 1).toNat)
      case atStart => exact ⟨0, 7, rfl, by omega, by omega, by simpa using HBR.out, HbR.out⟩
      case round =>
        obtain ⟨j, i, rfl, hij, hj8, hR, hbr⟩ := hrel
        by_cases hlt : j < 8
        · have hi0 : (0 : Int) ≤ i := by omega
          obtain ⟨k8, hk8⟩ : ∃ k8, 8 * (7 - j) = k8 := ⟨_, rfl⟩
          have hkI : 8 * i = (k8 : Int) := by omega
          have hkw : IntKind.u64.wrap (k8 : Int) = (k8 : Int) := by rw [IntKind.wrap_u64]; omega
          have hkm : min k8 64 = k8 := by omega
          have hbD := byteD N8 k8
          have hh := HHi.out j hlt
          rw [hk8] at hh
          obtain ⟨d, hd⟩ : ∃ d, UInt8.ofNat (N8 >>> k8) = d := ⟨_, rfl⟩
          rw [hd] at hbD hh
          have HT : Hid (P0 ++ b8.take j ++ [d] = P0 ++ b8.take (j + 1)) := Lib.hid (by
            rw [List.append_assoc, List.take_add_one, hh]; rfl)
          have hdl := d.toNat_lt
          have hb5 : Below wr.heap.size wr (wr.alloc (.cells #[.int .u8 (d.toNat : Int)] 5)) := (Below.refl _ _).alloc (Nat.le_refl _) _
          have HR := Lib.hid (hR.below hb5)
          have HSrc : Hid (Src Tryd.prog 1 35 (.slice (some ⟨wr.heap.size, 0, none⟩) 1 1) [d].length (bc [d]) (wr.alloc (.cells #[.int .u8 (d.toNat : Int)] 5))) := src_one wr d
          have hzl : W2.heap.size ≤ (wr.alloc (.cells #[.int .u8 (d.toNat : Int)] 5)).heap.size := Nat.le_trans hbr.size hb5.size
          have HB5 := Lib.hid (hbr.trans (hb5.mono hbr.size))
          have HJ := Lib.hid hlt
          have HIj := Lib.hid hij
          obtain ⟨i', hi'⟩ : ∃ i', i - 1 = i' := ⟨_, rfl⟩
          have hiw : IntKind.i64.wrap i' = i' := by rw [IntKind.wrap_i64]; omega
          have HI' : Hid (i - 1 = i') := hi'
          have hlx : (P0 ++ b8.take j).length + 1 ≤ 140737488355328 := by rw [List.length_append, List.length_take, HN.out]; have := HNl.out; omega
          have HLX := Lib.hid hlx
          clear hR hbr hb5 hlt hk8 hd hh hij hlx hj8
          go_wp2_with (at_builtin; refine wpList_append_br rfl _ _ 35 35 rfl 5 i0 Tryd.underlying35 hi hz0 hz1 hz2 W2.heap.size _ (P0 ++ b8.take j) [d] rfl HR.out _ rfl HSrc.out HLX.out hzl (fun v5 W5 hR5 hB5 hK5 hs5 => ?_))
          refine ⟨⟨j + 1, i', rfl, by have := HIj.out; have := HI'.out; omega, by have := HJ.out; omega, by rw [← HT.out]; exact hR5, HB5.out.trans hB5⟩, by simp only [intOf]; have := HIj.out; have := HI'.out; have := HJ.out; omega⟩
        · obtain rfl : j = 8 := by omega
          have hi0 : ¬ (0 : Int) ≤ i := by omega
          rw [List.take_of_length_le (by rw [HB8.out]; exact Nat.le_refl _), HP.out] at hR
          have hpm := pad_len s.data.toList
          have hpl : (padN s.data.toList).length = n + 8 := by rw [← HP.out, List.length_append, HN.out, HB8.out]
          have HG : Hid (sumN s.data.toList = outN (blocksN ((padN s.data.toList).length / 64) startN (padN s.data.toList))) := Lib.hid rfl
          obtain ⟨PD, hPD⟩ : ∃ PD, padN s.data.toList = PD := ⟨_, rfl⟩
          rw [hPD] at hR hpm hpl HG
          obtain ⟨m, hm⟩ : ∃ m, PD.length / 64 = m := ⟨_, rfl⟩
          have hpl2 : PD.length = 64 * m := by omega
          rw [hm] at HG
          have hm8 : 64 * m ≤ 8108 := by have := HNl.out; omega
          obtain ⟨gP, cpP, hv, hgP, hgP2⟩ := BR_len hR
          obtain ⟨L, hL⟩ : ∃ L, PD.length = L := ⟨_, rfl⟩
          rw [hL] at hv
          have HLm : Hid (L = 64 * m) := Lib.hid (by rw [← hL]; exact hpl2)
          have HL : Hid (PD.length = L) := hL
          subst hv
          clear hL
          have HBP := Lib.hid hR
          have HbZ := Lib.hid hbr
          have hzr2 : W2.heap.size ≤ wr.heap.size := hbr.size
          obtain ⟨W5, hW5, hb5, hA5, hs5⟩ := one_new wr (U (fill hN 0 0)).toArray 38
          have hz0' : fill hN 0 0 = List.replicate 8 0 := by rw [fill_zero]; rfl
          rw [hz0'] at hW5
          clear hPD hm hpm hpl hpl2 hR hbr HBR HbR HB8 HHi HP HN HNl
          go_upto_region 12 with fail
          change Code.wp _ _ _ _ (wr.alloc (.cells (U (List.replicate 8 0)).toArray 38))
          rw [hW5]
          clear hW5 hz0'
          obtain ⟨Wb, rfl⟩ : ∃ Wb, Wb = wr := ⟨_, rfl⟩
          obtain ⟨b, hb⟩ : ∃ b, Wb.heap.size = b := ⟨_, rfl⟩
          rw [hb] at hb5 hA5 hs5 hgP hzr2 ⊢
          have HBb := Lib.hid hb
          have HB5b := Lib.hid hb5
          have HH := Lib.hid h_at
          have hhl : hN.length = 8 := rfl
          have HHN := Lib.hid h_start
          obtain ⟨H8, hH8⟩ : ∃ H8, hN = H8 := ⟨_, rfl⟩
          rw [hH8] at HH hhl HHN hA5
          clear hH8 hb
          go_wp2_with fail
          go_loopw [8] (fun iv wz => ∃ i : Nat, iv = .int .i64 i ∧ i ≤ 8 ∧ At wz b 0 (U (fill H8 0 i)) ∧ Below b Wb wz) (fun iv _ => (8 - intOf iv).toNat)
          case atStart => exact ⟨0, rfl, by omega, by simpa using hA5, hb5⟩
          case round =>
            obtain ⟨i1, rfl, hi1, hV, hbr⟩ := hrel
            clear hA5 hb5
            by_cases hlt : i1 < 8
            · have hii : (i1 : Int) < 8 := by omega
              have HPr := Lib.hid (fun W => prime_any i1 W (by omega))
              have HRt := Lib.hid (fun W => root_any (primeR 398 2 i1) 2 W (by decide) (by decide))
              rw [HH.out i1 hlt] at HRt
              obtain ⟨p, hp⟩ : ∃ p, primeR 398 2 i1 = p := ⟨_, rfl⟩
              rw [hp] at HPr HRt
              have hil : i1 < H8.length := by omega
              have HS := Lib.hid (fill_set H8 0 i1 (H8.getD i1 0) (by rw [List.getElem?_eq_getElem hil, List.getD_eq_getElem?_getD, List.getElem?_eq_getElem hil]; rfl))
              obtain ⟨x, hx⟩ : ∃ x, H8.getD i1 0 = x := ⟨_, rfl⟩
              rw [hx] at HRt HS
              have HV := Lib.hid hV
              have HB := Lib.hid hbr
              have HLt := Lib.hid hlt
              clear hp hx hV hbr hlt hil hi1
              go_wp2_with (first
                | (go_at_call 15; refine (HPr.out _).mono ?_; rintro r w6 ⟨rfl, hw⟩; rw [hw]; clear hw)
                | (go_at_call 14; refine (HRt.out _).mono ?_; rintro r w7 ⟨rfl, hb7⟩; refine Hid.out ?_))
              refine Lib.hid ?_
              have hz3' : b < wr.heap.size := HV.out.lt (by rw [U_len, fill_len]; omega)
              have hV3 := HV.out.below hb7 hz3'
              have HB3 := Lib.hid (HB.out.trans (hb7.mono (Nat.le_of_lt hz3')))
              have hf := hV3.fz i1 (by rw [U_len, fill_len]; have := HLt.out; omega)
              have hc := U_at hV3 i1 (by rw [fill_len]; have := HLt.out; omega)
              rw [Nat.zero_add] at hf hc
              have HV3 := Lib.hid hV3
              clear hV3 hb7
              go_wp2
              refine ⟨⟨i1 + 1, by go_num, by have := HLt.out; omega, ?_, Below.setCell HB3.out (Nat.le_refl _) _⟩, by simp only [intOf]; have := HLt.out; omega⟩
              rw [← HS.out, ← U_set]
              have := HV3.out.set i1 (.int .u32 (x : Int)) (by rw [U_len, fill_len]; have := HLt.out; omega)
              rw [Nat.zero_add] at this
              exact this
            · obtain rfl : i1 = 8 := by omega
              have hii : ¬ ((8 : Nat) : Int) < 8 := by omega
              have hf : fill H8 0 8 = lst startN := by rw [← HHN.out, ← hhl]; exact fill_full H8 0
              rw [hf] at hV
              clear hf
              have HSF : Hid (blocksN (m - 0) startN (PD.drop (64 * 0)) = blocksN m startN PD) := Lib.hid (by simp)
              have HOF : Hid (Ok (blocksN m startN PD)) := Lib.hid (Ok.blocks _ _ Ok.start)
              obtain ⟨SF, hSF⟩ : ∃ SF, blocksN m startN PD = SF := ⟨_, rfl⟩
              rw [hSF] at HSF HOF HG
              clear hSF HH HHN hhl
              go_wp2_with fail
              go_loopw [9] (fun iv wz => ∃ (k t : Nat) (S : St8), iv = .int .i64 (t : Int) ∧ t = 64 * k ∧ k ≤ m ∧ Ok S ∧ blocksN (m - k) S (PD.drop t) = SF ∧ At wz b 0 (U (lst S)) ∧ Below b Wb wz) (fun iv _ => (8200 - intOf iv).toNat)
              case atStart => exact ⟨0, 0, startN, rfl, rfl, by omega, Ok.start, HSF.out, hV, hbr⟩
              case round =>
                clear hV hbr
                obtain ⟨k, t, S, rfl, htk, hkm, hS, hbl, hV, hbr⟩ := hrel
                have hLm := HLm.out
                by_cases hlt : t < L
                · have hti : (t : Int) < (L : Int) := by omega
                  have htL : t + 64 ≤ L := by omega
                  have hkm' : k < m := by omega
                  obtain ⟨hP0, hPc, hPm⟩ := BR_at HBP.out
                  rw [HL.out] at hPc
                  have hPw := hP0.below hbr hgP
                  have hPp := hPw.part t 64
                  rw [B_part, Nat.zero_add] at hPp
                  have hml : ((PD.drop t).take 64).length = 64 := by rw [List.length_take, List.length_drop, HL.out]; omega
                  have hbl2 : blocksN (m - (k + 1)) (blockN S ((PD.drop t).take 64)) (PD.drop (t + 64)) = SF := by
                    rw [← hbl, show m - k = (m - (k + 1)) + 1 from by omega, blocksN, List.drop_drop]
                  have hOk2 := Ok.block S ((PD.drop t).take 64)
                  obtain ⟨md, hmd⟩ : ∃ md, (PD.drop t).take 64 = md := ⟨_, rfl⟩
                  rw [hmd] at hPp hml hbl2 hOk2
                  have hCk := (HA2.out.below HbZ.out hzK).below hbr (Nat.lt_of_lt_of_le hzK hzr2)
                  have hUk : U kN = CK := by rw [HK.out]; exact HCK.out
                  have HBk := Lib.hid (fun nq => block_any gP t (cpP - t) S md (wr.drewN nq) hS hml (hPp.drewN nq))
                  rw [hUk] at HBk
                  have hUl8 : (U (lst S)).length = 8 := by rw [U_len]; rfl
                  have hNl8 : (U (lst (blockN S md))).length = 8 := by rw [U_len]; rfl
                  have hN1 := U_one (lst (blockN S md))
                  have hbw : b < wr.heap.size := hV.lt (by rw [hUl8]; omega)
                  obtain ⟨CS, hCS⟩ : ∃ CS, U (lst S) = CS := ⟨_, rfl⟩
                  obtain ⟨CN, hCN⟩ : ∃ CN, U (lst (blockN S md)) = CN := ⟨_, rfl⟩
                  have HCN : Hid (U (lst (blockN S md)) = CN) := hCN
                  rw [hCS] at hV HBk hUl8
                  rw [hCN] at HBk hNl8 hN1
                  have hCkl : CK.length = 64 := by rw [← hUk, U_len]; exact kN_len
                  have HLH : Hid (∀ w', (∃ nq, w' = wr.drewN nq) → (loadVar 38 ⟨b, 0, none⟩).run Tryd.prog w' = .ok (.agg CS.toArray) w') := Lib.hid (by
                    rintro _ ⟨nq, rfl⟩
                    exact run_loadVar_mid _ b 0 38 CS _ (hV.drewN nq).rng Tryd.underlying38 rfl (by rw [hUl8]; exact arr8))
                  have HLK : Hid (∀ w', (∃ nq, w' = wr.drewN nq) → (loadVar 33 ⟨w1.heap.size, 0, none⟩).run Tryd.prog w' = .ok (.agg CK.toArray) w') := Lib.hid (by
                    rintro _ ⟨nq, rfl⟩
                    exact run_loadVar_mid _ w1.heap.size 0 33 CK _ (hCk.drewN nq).rng Tryd.underlying33 rfl (by rw [hCkl]; exact HI.out))
                  have HV := Lib.hid hV
                  have HB := Lib.hid hbr
                  have HOk2 := Lib.hid hOk2
                  have HTk := Lib.hid htk
                  have HKm := Lib.hid hkm'
                  have HUl8 := Lib.hid hUl8
                  have HNl8 := Lib.hid hNl8
                  have HN1 := Lib.hid hN1
                  have HTL := Lib.hid htL
                  obtain ⟨t2, ht2⟩ : ∃ t2, t + 64 = t2 := ⟨_, rfl⟩
                  have hs0 : wrap64 ((t : Int) + 64) = (t2 : Int) := by unfold wrap64; omega
                  have hs1 : (t2 : Int) ≤ (cpP : Int) := by omega
                  have hs2 : t ≤ t2 := by omega
                  have hs3 : t2 - t = 64 := by omega
                  have hs4 : (0 : Int) ≤ (t2 : Int) := by omega
                  have HT2 : Hid (t + 64 = t2) := ht2
                  rw [ht2] at hbl2
                  have HBl2 := Lib.hid hbl2
                  clear ht2 htL
                  have HPm := Lib.hid hPm
                  clear hV hbr hOk2 hbl2 hbl htk hkm hS hP0 hPw hPp hml hmd hCk hUk hUl8 hNl8 hN1 hCS hCN hCkl hLm hkm' hlt hPm
                  go_upto_region 19 with fail
                  refine wp_region_tail_d 7 (by kernel_rfl) (by kernel_rfl) ?_
                  simp only [List.take_succ_cons, List.take_zero, List.drop_succ_cons, List.drop_zero]
                  go_big_quiet_want
                  refine quiet_load_cell 38 _ ⟨b, 0, none⟩ (.agg CS.toArray) rfl rfl HLH.out ?_
                  go_simp
                  go_big_quiet_on
                  iterate 5 (go_big_quiet_step (fail))
                  go_big_quiet_want
                  refine quiet_load_cell 33 _ ⟨w1.heap.size, 0, none⟩ (.agg CK.toArray) rfl rfl HLK.out ?_
                  go_simp
                  go_big_quiet_on
                  refine wpQuiet_nil ?_
                  intro _ hw'
                  obtain ⟨nr, hw''⟩ := hw'
                  subst hw''
                  go_wp2_with (first
                    | (go_at_call 16; refine (HBk.out _).mono ?_; rintro e w6 ⟨rfl, hb6⟩; refine Hid.out ?_))
                  refine Lib.hid ?_
                  have hbw2 : b < w6.heap.size := Nat.lt_of_lt_of_le hbw hb6.size
                  have hV6 := (HV.out.drewN nr).below hb6 hbw
                  have hB6 : Below b Wb w6 := HB.out.trans ((show Below b wr (wr.drewN nr) from ⟨rfl, rfl, rfl, Nat.le_refl _, fun _ _ => rfl⟩).trans (hb6.mono (Nat.le_of_lt hbw)))
                  have htS : w6.there b 0 CN.toArray.size := by
                    have := hV6.there
                    rw [HUl8.out] at this
                    rw [List.size_toArray, HNl8.out]; exact this
                  have hV7 := hV6.sets (i := 0) CN (by rw [HNl8.out, HUl8.out]; exact Nat.le_refl _)
                  rw [Nat.zero_add, Nat.zero_add, List.take_zero, List.nil_append, HNl8.out, List.drop_of_length_le (by rw [HUl8.out]; exact Nat.le_refl _), List.append_nil] at hV7
                  have HV7 : Hid (At (w6.setCells b 0 CN) b 0 (U (lst (blockN S md)))) := Lib.hid (by rw [HCN.out]; exact hV7)
                  have HB7 := Lib.hid ((Oth.setCells b 0 w6 CN).below hB6 (Nat.le_refl _) (Nat.le_of_eq HBb.out.symm))
                  clear hV7 hV6 hB6 hb6 HBk HLH HLK HV HB
                  go_wp2_with (refine wpList_store_mid rfl 38 _ _ rfl b 0 CN.toArray rfl rfl htS (by rw [List.size_toArray, HNl8.out]; exact arr8) (all_oneCell_toArray HN1.out) ?_)
                  rw [hs0]
                  refine ⟨⟨k + 1, t2, blockN S md, rfl, by have := HT2.out; have := HTk.out; omega, HKm.out, HOk2.out, HBl2.out, HV7.out, HB7.out⟩, ?_⟩
                  simp only [intOf]
                  have := HT2.out; have := HTL.out; have := HLm.out
                  omega
                · obtain rfl : k = m := by omega
                  have hti : ¬ (t : Int) < (L : Int) := by omega
                  rw [Nat.sub_self, blocksN] at hbl
                  subst hbl
                  have hSl8 : (U (lst S)).length = 8 := by rw [U_len]; rfl
                  obtain ⟨W9, hW9, hb9, -, hs9⟩ := one_new wr #[] 5
                  have hR9 : BR W9 wr.heap.size (.slice (some ⟨wr.heap.size, 0, none⟩) 0 0) (out4 S 0) := ⟨wr.heap.size, 0, rfl, Nat.le_refl _, by omega, Nat.le_refl _, by unfold maxLen; omega, fun j hj => absurd hj (Nat.not_lt_zero _), fun j hj => absurd hj (Nat.not_lt_zero _)⟩
                  have hbw : b < wr.heap.size := hV.lt (by rw [hSl8]; omega)
                  have hV9 := hV.below hb9 hbw
                  have HFin : Hid (Below w.heap.size w wr) := Lib.hid (HB2.out.trans ((HbZ.out.trans (hbr.mono hzr2)).mono HB2.out.size))
                  obtain ⟨z, hz⟩ : ∃ z, wr.heap.size = z := ⟨_, rfl⟩
                  have HZ := Lib.hid hz
                  have HUat : Hid (∀ i x : Nat, i < 8 → (lst S)[i]? = some x → ∀ w, (Instr.index 38 (.agg (U (lst S)).toArray) (.int .i64 i)).run Tryd.prog w = .ok (.int .u32 (x : Int)) w) := Lib.hid (fun i x hi h w => by
                    have := idx8 S i hi w
                    rw [List.getD_eq_getElem?_getD, h] at this; exact this)
                  obtain ⟨CS, hCS⟩ : ∃ CS, U (lst S) = CS := ⟨_, rfl⟩
                  rw [hCS] at hV9 hSl8 HUat
                  rw [hz] at hb9 hR9 hs9
                  have hcs8 : CS.toArray.size = 8 := by rw [List.size_toArray]; exact hSl8
                  clear hV hbr hS hLm hlt hCS htk hkm
                  go_upto_region 21 with fail
                  clear hW9 hz
                  have HR9 := Lib.hid hR9
                  have HB9 := Lib.hid hb9
                  have HS8 := Lib.hid hSl8
                  have HV9 := Lib.hid hV9.rng
                  clear hV9 hs9 hbw hR9 hb9 hSl8
                  go_wp2_with (refine wpList_load_mid rfl 38 _ rfl b 0 rfl CS _ HV9.out Tryd.underlying38 rfl (by rw [HS8.out]; exact arr8) ?_)
                  go_loopw [10, 68] (fun v iv wz => ∃ k : Nat, iv = .int .i64 k ∧ k ≤ 8 ∧ BR wz z v (out4 S k) ∧ Below z wr wz) (fun _ iv _ => (8 - intOf iv).toNat)
                  case atStart => exact ⟨0, rfl, by omega, HR9.out, HB9.out⟩
                  case round =>
                    obtain ⟨k, rfl, hk, hR, hbr⟩ := hrel
                    by_cases hlt : k < 8
                    · have hki : (k : Int) < 8 := by omega
                      obtain ⟨x, hx⟩ : ∃ x, (lst S)[k]? = some x := ⟨_, List.getElem?_eq_getElem (by show k < 8; exact hlt)⟩
                      have hcx := HUat.out k x hlt hx
                      have hsu := out4_succ S k x hx
                      have hb4 : bytes4 x = [UInt8.ofNat (x >>> 24), UInt8.ofNat (x >>> 16), UInt8.ofNat (x >>> 8), UInt8.ofNat x] := rfl
                      have h3 : (x : Int) / (16777216 : Int) % (256 : Int) = ((UInt8.ofNat (x >>> 24)).toNat : Int) := byteD x 24
                      have h2 : (x : Int) / (65536 : Int) % (256 : Int) = ((UInt8.ofNat (x >>> 16)).toNat : Int) := byteD x 16
                      have h1 : (x : Int) / (256 : Int) % (256 : Int) = ((UInt8.ofNat (x >>> 8)).toNat : Int) := byteD x 8
                      have h0 : (x : Int) % 256 = ((UInt8.ofNat x).toNat : Int) := by simp
                      obtain ⟨d3, hd3⟩ : ∃ d, UInt8.ofNat (x >>> 24) = d := ⟨_, rfl⟩
                      obtain ⟨d2, hd2⟩ : ∃ d, UInt8.ofNat (x >>> 16) = d := ⟨_, rfl⟩
                      obtain ⟨d1, hd1⟩ : ∃ d, UInt8.ofNat (x >>> 8) = d := ⟨_, rfl⟩
                      obtain ⟨d0, hd0⟩ : ∃ d, UInt8.ofNat x = d := ⟨_, rfl⟩
                      rw [hd3] at h3 hb4
                      rw [hd2] at h2 hb4
                      rw [hd1] at h1 hb4
                      rw [hd0] at h0 hb4
                      rw [hb4] at hsu
                      have HSu := Lib.hid hsu
                      have hol := out4_len S k hk
                      have hb5 : Below wr.heap.size wr (wr.alloc (.cells #[.int .u8 (d3.toNat : Int), .int .u8 (d2.toNat : Int), .int .u8 (d1.toNat : Int), .int .u8 (d0.toNat : Int)] 5)) := (Below.refl _ _).alloc (Nat.le_refl _) _
                      have HR := Lib.hid (hR.below hb5)
                      have HSrc : Hid (Src Tryd.prog 1 35 (.slice (some ⟨wr.heap.size, 0, none⟩) 4 4) [d3, d2, d1, d0].length (bc [d3, d2, d1, d0]) (wr.alloc (.cells #[.int .u8 (d3.toNat : Int), .int .u8 (d2.toNat : Int), .int .u8 (d1.toNat : Int), .int .u8 (d0.toNat : Int)] 5))) := src_four wr [d3, d2, d1, d0] rfl
                      have hzz : z ≤ wr.heap.size := by have := hbr.size; have := HZ.out; omega
                      have hzl : z ≤ (wr.alloc (.cells #[.int .u8 (d3.toNat : Int), .int .u8 (d2.toNat : Int), .int .u8 (d1.toNat : Int), .int .u8 (d0.toNat : Int)] 5)).heap.size := Nat.le_trans hzz hb5.size
                      have HB5 := Lib.hid (hbr.trans (hb5.mono hzz))
                      have HLt := Lib.hid hlt
                      have hlim : (out4 S k).length + [d3, d2, d1, d0].length ≤ 140737488355328 := by rw [hol]; show 4 * k + 4 ≤ _; omega
                      have HLim := Lib.hid hlim
                      clear hx hsu hb4 hd0 hd1 hd2 hd3 hol hb5 hR hbr hlt hk hlim hzz
                      go_wp2_with (at_builtin; refine wpList_append_br rfl _ _ 35 35 rfl 5 i0 Tryd.underlying35 hi hz0 hz1 hz2 z _ (out4 S k) [d3, d2, d1, d0] rfl HR.out _ rfl HSrc.out HLim.out hzl (fun v5 W10 hR10 hB10 hK10 hs10 => ?_))
                      rw [HSu.out] at hR10
                      exact ⟨⟨k + 1, by go_num, by have := HLt.out; omega, hR10, HB5.out.trans hB10⟩, by simp only [intOf]; have := HLt.out; omega⟩
                    · obtain rfl : k = 8 := by omega
                      have hki : ¬ ((8 : Nat) : Int) < 8 := by omega
                      rw [out4_all] at hR
                      have hol : (outN S).length = 32 := rfl
                      obtain ⟨gO, cpO, hv, -, -⟩ := BR_len hR
                      subst hv
                      have hAO := (BR_at hR).1
                      have hcv := B_back (P := Tryd.prog) (cap := cpO) hAO Tryd.underlying35 Tryd.underlying5 Tryd.underlying9
                      rw [hol, ← HG.out] at hcv
                      have HB := Lib.hid (HFin.out.trans (hbr.mono (by have := HFin.out.size; have := HZ.out; omega)))
                      clear hR hbr hAO
                      go_wp2
                      go_ret
                      exact ⟨rfl, HB.out⟩
end Go.Proofs.YtfcmgodeehjnoaaDoor
